/- Several texts in one: PolApp, PolicyExprsM, ExprMath, TgtMath, MarkNums, Within, Marks, Mk, Cells, MarkRow, Comb, MkLaws, KeepLeft, KeepSmall, PolCountsM, PolicyNamesM, EvalMath, VarsM, PolOw, Gr, GrPol, VarsMem, HTail, KeepSame, VarsFind, VarsFind2, Make, Clone, Put7, Put8, VarsApart, VarsLim, VarsWith, VarsTgt, VarsPol, VarsOf, VarsKeep, LexMath, LexLaws. -/
import Derived.Test.YtadjfkgnoklmiaaVrpA
import Derived.Maps.AppendAt
import Derived.Deep.RegionLaw
import Derived.Test.YtadjfkgnoklmiaaRows
import Derived.WalkKit
import Derived.WalkLawsBesides
import Derived.Lib.Hide
import Derived.Laws.ResultCell
import Derived.StillTail
import Derived.OrdersHeld
import Derived.RegionTactic
import Derived.Laws.StructEq
import Derived.Laws.Tables
import Derived.Laws.Cover2
import Derived.Lib.QuietBelow
import Derived.Deep.CutRange
import Derived.Lib.Strings
import Derived.Lib.Walk
import Derived.Lib.BufferWrite
import Derived.Lib.UnsafeStr
import Derived.Laws.MakeOwn
/- Rows of structs of the call's own: append. -/
namespace Go.Proofs.Ytadjfkgnoklmiaa
set_option linter.unusedVariables false
open Go.RowKit

def Fl (w : World) (k : Nat) (A : Option Addr) (n : Nat) (ys : List Value) : Prop :=
  ys.length = n * k ∧ (∀ v ∈ ys, v.oneCell' = true) ∧ (n = 0 ∨ ∃ b o, A = some ⟨b, o, none⟩ ∧ ∀ j u, ys[j]? = some u → w.cell? ⟨b, o + j, none⟩ = some u)

theorem append_rows {P : Program} {T E : TypeId} {i : TypeInfo} {z : Value} {k by_ : Nat} (ht : P.underlying T = some (.slice E)) (hi : P.info? E = some i) (hz : i.zero = some z) (hs : i.size = k) (hb : i.bytes = by_) (hzs : z.cells.size = k) (hk : 0 < k) (hby : by_ ≤ 1000)
    {w : World} {base n c m c2 ty : Nat} {A A2 : Option Addr} {xs ys : List Value} (h : w.ownsRow base E k (.slice A n c) n xs) (hy : Fl w k A2 m ys) (hn : n + m ≤ 1000000) (hbase : base ≤ w.heap.size) :
    ∃ A' c' w', (Builtin.append_ #[T, T] ty #[.slice A n c, .slice A2 m c2]).run P w = .ok (.slice A' (n + m) c') w' ∧
      w'.ownsRow base E k (.slice A' (n + m) c') (n + m) (xs ++ ys) ∧ Below base w w' ∧ w.grownBy w' (Value.slice A n c).ownBlock ∧
      ((Value.slice A' (n + m) c').ownBlock = (Value.slice A n c).ownBlock ∨ (Value.slice A' (n + m) c').ownBlock = some w.heap.size) := by
  obtain ⟨hlen, h1, hy⟩ := hy
  have fin : ∀ (ad : Addr), A2 = some ad → (∀ j u, ys[j]? = some u → w.cell? (ad.add j) = some u) → ∃ A' c' w', (Builtin.append_ #[T, T] ty #[.slice A n c, .slice A2 m c2]).run P w = .ok (.slice A' (n + m) c') w' ∧
      w'.ownsRow base E k (.slice A' (n + m) c') (n + m) (xs ++ ys) ∧ Below base w w' ∧ w.grownBy w' (Value.slice A n c).ownBlock ∧
      ((Value.slice A' (n + m) c').ownBlock = (Value.slice A n c).ownBlock ∨ (Value.slice A' (n + m) c').ownBlock = some w.heap.size) := by
    rintro ad rfl hc
    have hb2 : (n + m) * by_ ≤ 1000000 * 1000 := Nat.mul_le_mul hn hby
    obtain ⟨v', w', hrun, h2, h3, h4, h5⟩ := run_append_own_at (P := P) w base T ty E i z k by_ ht hi hz hs hb hzs hk (.slice A n c) n xs h
      ad m c2 ys hlen hc h1 (by unfold maxLen; omega) (by omega) hbase
    have hform : ∃ A' c', v' = .slice A' (n + m) c' := by
      rcases h2.2 with ⟨hv, hz⟩ | ⟨g, cap, cur, hv, _⟩
      · exact ⟨_, _, by rw [hv, hz]⟩
      · exact ⟨_, _, hv⟩
    obtain ⟨A', c', rfl⟩ := hform
    exact ⟨A', c', w', hrun, h2, (Below.refl base w).grown h3 hbase (fun k hk => (h.lt k hk).1), h3, h5⟩
  rcases hy with h0 | ⟨b, o, e, hc⟩
  · subst h0
    obtain rfl : ys = [] := List.eq_nil_of_length_eq_zero (by omega)
    rcases A2 with _ | ad
    · exact ⟨A, c, w, append_nil_src ht hi h, by simpa using h, Below.refl _ _, ⟨rfl, rfl, rfl, Nat.le_refl _, fun _ _ _ => rfl⟩, .inl rfl⟩
    · exact fin ad rfl (fun j u hu => by simp at hu)
  · refine fin _ e fun j u hu => ?_
    have := hc j u hu
    by_cases hj : j = 0
    · subst hj; simpa [Addr.add] using this
    · simpa [Addr.add, hj] using this

theorem flatten_at {k : Nat} : ∀ {l : List (List Value)} {j : Nat} {x : List Value} {i : Nat} {v : Value}, (∀ y ∈ l, y.length = k) → l[j]? = some x → x[i]? = some v → l.flatten[j * k + i]? = some v
  | [], _, _, _, _, _, hx, _ => by simp at hx
  | y :: l, 0, x, i, v, hk, hx, hv => by
    simp at hx
    subst hx
    rw [List.flatten_cons, Nat.zero_mul, Nat.zero_add, List.getElem?_append_left (by rw [List.getElem?_eq_some_iff] at hv; exact hv.1)]
    exact hv
  | y :: l, j + 1, x, i, v, hk, hx, hv => by
    have hy := hk y (by simp)
    rw [List.flatten_cons, List.getElem?_append_right (by rw [hy, Nat.add_mul]; omega), hy, show (j + 1) * k + i - k = j * k + i by rw [Nat.add_mul]; omega]
    exact flatten_at (fun y h => hk y (by simp [h])) (by simpa using hx) hv
theorem flatten_len {k : Nat} : ∀ {l : List (List Value)}, (∀ y ∈ l, y.length = k) → l.flatten.length = l.length * k
  | [], _ => by simp
  | y :: l, h => by
    rw [List.flatten_cons, List.length_append, h y (by simp), flatten_len fun y hy => h y (by simp [hy]), List.length_cons, Nat.add_mul]
    omega
theorem flatten_of {k : Nat} (hk : 0 < k) {l : List (List Value)} {j : Nat} {u : Value} (hl : ∀ y ∈ l, y.length = k) (h : l.flatten[j]? = some u) : ∃ x, l[j / k]? = some x ∧ x[j % k]? = some u := by
  have hj : j < l.length * k := by rw [← flatten_len hl]; exact (List.getElem?_eq_some_iff.1 h).1
  have hd : j / k < l.length := Nat.div_lt_of_lt_mul (by rw [Nat.mul_comm]; exact hj)
  have hx : l[j / k]? = some l[j / k] := List.getElem?_eq_getElem hd
  refine ⟨l[j / k], hx, ?_⟩
  have hm : j % k < (l[j / k]).length := by rw [hl _ (List.getElem_mem hd)]; exact Nat.mod_lt _ hk
  have hv : (l[j / k])[j % k]? = some (l[j / k])[j % k] := List.getElem?_eq_getElem hm
  have := flatten_at hl hx hv
  rw [show j / k * k + j % k = j from by rw [Nat.mul_comm]; exact Nat.div_add_mod j k] at this
  rw [hv, ← this, h]

theorem Rw.raw {α : Type} {k : Nat} {P : List Value → α → Prop} {w : World} {R : Nat → Prop} {A : Option Addr} {n c : Nat} {l : List α} (h : Rw k P w R A n c l) :
    n = 0 ∨ ∃ raw : List (List Value), raw.length = n ∧ (∀ y ∈ raw, y.length = k) ∧ (∀ (j : Nat) (vs : List Value) (x : α), raw[j]? = some vs → l[j]? = some x → P vs x) ∧ ∃ b o, A = some ⟨b, o, none⟩ ∧ ∀ (j : Nat) (vs : List Value), raw[j]? = some vs → ∀ (i : Nat) v, vs[i]? = some v → w.cell? ⟨b, o + j * k + i, none⟩ = some v := by
  obtain ⟨h1, h2, h3, h4⟩ := h
  rcases h4 with h4 | ⟨b, o, e, hb, hlt, hc⟩
  · exact .inl h4
  right
  have hall : ∀ j, j < n → ∃ vs : List Value, vs.length = k ∧ (∀ (i : Nat) v, vs[i]? = some v → w.cell? ⟨b, o + j * k + i, none⟩ = some v) ∧ ∀ x, l[j]? = some x → P vs x := fun j hj => by
    have hl : j < l.length := by omega
    obtain ⟨vs, a1, a2, a3⟩ := hc j l[j] (List.getElem?_eq_getElem hl)
    refine ⟨vs, a1, a2, fun x hx => ?_⟩
    rw [List.getElem?_eq_getElem hl] at hx
    exact Option.some.inj hx ▸ a3
  obtain ⟨V, hV⟩ : ∃ V : Nat → List Value, ∀ j, j < n → (V j).length = k ∧ (∀ (i : Nat) v, (V j)[i]? = some v → w.cell? ⟨b, o + j * k + i, none⟩ = some v) ∧ ∀ x, l[j]? = some x → P (V j) x :=
    ⟨fun j => if hj : j < n then Classical.choose (hall j hj) else [], fun j hj => by simp only [hj, dif_pos]; exact Classical.choose_spec (hall j hj)⟩
  have hget : ∀ (j : Nat) (vs : List Value), ((List.range n).map V)[j]? = some vs → j < n ∧ vs = V j := fun j vs hj => by
    rw [List.getElem?_map, Option.map_eq_some_iff] at hj
    obtain ⟨i, hi, rfl⟩ := hj
    have hjn : j < n := by have := (List.getElem?_eq_some_iff.1 hi).1; simpa using this
    rw [List.getElem?_range hjn] at hi
    exact ⟨hjn, by rw [Option.some.inj hi]⟩
  refine ⟨(List.range n).map V, by simp, fun y hy => ?_, fun j vs x hj hx => ?_, b, o, e, fun j vs hj i v hv => ?_⟩
  · obtain ⟨i, hi, rfl⟩ := List.mem_map.1 hy
    exact (hV i (by simpa using hi)).1
  · obtain ⟨hjn, rfl⟩ := hget j vs hj
    exact (hV j hjn).2.2 x hx
  · obtain ⟨hjn, rfl⟩ := hget j vs hj
    exact (hV j hjn).2.1 i v hv

theorem Rw.of_own {α : Type} {k : Nat} {P : List Value → α → Prop} {w : World} {base n c : Nat} {E : TypeId} {A : Option Addr} {l : List α} {raw : List (List Value)} {R : Nat → Prop} (h : w.ownsRow base E k (.slice A n c) n raw.flatten)
    (hbig : n ≤ 140737488351232) (hl : raw.length = n) (hln : l.length = n) (hk : ∀ y ∈ raw, y.length = k) (hP : ∀ (j : Nat) (vs : List Value) (x : α), raw[j]? = some vs → l[j]? = some x → P vs x) (hR : ∀ ad, A = some ad → base ≤ ad.block → R ad.block) : Rw k P w R A n c l := by
  rcases h.2 with ⟨hv, hn⟩ | ⟨g, cap, cur, hv, hb, hg, hnc, hcm, hcs, ht⟩
  · injection hv with h1 h2 h3
    subst h1 h2 h3
    exact ⟨hln, Nat.le_refl _, ⟨by simp [maxLen], by omega⟩, .inl rfl⟩
  · injection hv with h1 h2 h3
    subst h1 h3
    refine ⟨hln, hnc, ⟨hcm, hbig⟩, .inr ⟨g, 0, rfl, hR _ rfl hb, ?_, fun j x hx => ?_⟩⟩
    · rcases Nat.lt_or_ge g w.heap.size with hlt | hge
      · exact hlt
      · rw [Array.getElem?_eq_none hge] at hg; cases hg
    · have hjr : j < raw.length := by have := (List.getElem?_eq_some_iff.1 hx).1; omega
      refine ⟨raw[j], hk _ (List.getElem_mem hjr), fun i v hv => ?_, hP j _ x (List.getElem?_eq_getElem hjr) hx⟩
      have := h.cells (g := g) rfl (j * k + i) v (flatten_at hk (List.getElem?_eq_getElem hjr) hv)
      have add : (⟨g, 0, none⟩ : Addr).add (j * k + i) = ⟨g, 0 + j * k + i, none⟩ := by by_cases hj : j * k + i = 0 <;> simp [Addr.add, hj]; omega
      rwa [add] at this
theorem Rw.fl {α : Type} {k : Nat} {P : List Value → α → Prop} {w : World} {R : Nat → Prop} {A : Option Addr} {n c : Nat} {l : List α} (h : Rw k P w R A n c l) (hk : 0 < k) (h1 : ∀ vs x, P vs x → ∀ v ∈ vs, v.oneCell' = true) :
    ∃ raw : List (List Value), raw.length = n ∧ (∀ y ∈ raw, y.length = k) ∧ (∀ (j : Nat) (vs : List Value) (x : α), raw[j]? = some vs → l[j]? = some x → P vs x) ∧ Fl w k A n raw.flatten := by
  rcases h.raw with h0 | ⟨raw, r1, r2, r3, b, o, e, r4⟩
  · subst h0
    exact ⟨[], rfl, by simp, by simp, by simp, by simp, .inl rfl⟩
  · refine ⟨raw, r1, r2, r3, by rw [flatten_len r2, r1], fun v hv => ?_, .inr ⟨b, o, e, fun j u hu => ?_⟩⟩
    · obtain ⟨y, hy, hv⟩ := List.mem_flatten.1 hv
      obtain ⟨j, hj, rfl⟩ := List.getElem_of_mem hy
      have hjl : j < l.length := by have := h.1; omega
      exact h1 _ _ (r3 j _ _ (List.getElem?_eq_getElem hj) (List.getElem?_eq_getElem hjl)) v hv
    · obtain ⟨x, hx, hv⟩ := flatten_of hk r2 hu
      have := r4 _ _ hx _ _ hv
      rwa [Nat.add_assoc, show j / k * k + j % k = j from by rw [Nat.mul_comm]; exact Nat.div_add_mod j k] at this

theorem Rw.flat_fl {α : Type} {k : Nat} {f : α → List Value} {okp : α → Prop} {w : World} {R : Nat → Prop} {A : Option Addr} {n c : Nat} {l : List α} (h : Rw k (fun vs x => vs = f x ∧ okp x) w R A n c l) (hk : 0 < k) (h1 : ∀ x, ∀ v ∈ f x, v.oneCell' = true) : Fl w k A n (l.flatMap f) := by
  obtain ⟨raw, r1, r2, r3, r4⟩ := Rw.fl h hk (fun vs x hp v hv => h1 x v (hp.1 ▸ hv))
  have hl := h.1
  have e : raw = l.map f := by
    apply List.ext_getElem?
    intro j
    by_cases hj : j < n
    · have a1 : raw[j]? = some raw[j] := List.getElem?_eq_getElem (by omega)
      have a2 : l[j]? = some l[j] := List.getElem?_eq_getElem (by omega)
      have := (r3 j _ _ a1 a2).1
      rw [a1, List.getElem?_map, a2, this]; rfl
    · rw [List.getElem?_eq_none (by omega), List.getElem?_eq_none (by rw [List.length_map]; omega)]
  rw [e, ← List.flatMap_def] at r4
  exact r4
theorem Rw.flat_own {α : Type} {k : Nat} {f : α → List Value} {okp : α → Prop} {w : World} {base n c : Nat} {E : TypeId} {A : Option Addr} {l : List α} {R : Nat → Prop} (h : w.ownsRow base E k (.slice A n c) n (l.flatMap f)) (hbig : n ≤ 140737488351232) (hln : l.length = n) (hf : ∀ x, (f x).length = k) (hok : ∀ x ∈ l, okp x)
    (hR : ∀ ad, A = some ad → base ≤ ad.block → R ad.block) : Rw k (fun vs x => vs = f x ∧ okp x) w R A n c l := by
  rw [List.flatMap_def] at h
  refine Rw.of_own h hbig (by rw [List.length_map]; exact hln) hln (fun y hy => ?_) (fun j vs x h1 h2 => ?_) hR
  · obtain ⟨x, _, rfl⟩ := List.mem_map.1 hy
    exact hf x
  · rw [List.getElem?_map, h2] at h1
    exact ⟨(Option.some.inj h1).symm, hok x (List.mem_of_getElem? h2)⟩
theorem Dut.one (x : Dut) : ∀ v ∈ x.cells, v.oneCell' = true := by intro v hv; simp [Dut.cells] at hv; rcases hv with rfl | rfl | rfl <;> rfl
theorem Nod.one (x : Nod) : ∀ v ∈ x.cells, v.oneCell' = true := by intro v hv; simp [Nod.cells] at hv; rcases hv with rfl | rfl | rfl | rfl | rfl | rfl | rfl <;> rfl
theorem Mat.one (x : Mat) : ∀ v ∈ x.cells, v.oneCell' = true := by intro v hv; simp [Mat.cells] at hv; rcases hv with rfl | rfl | rfl | rfl | rfl | rfl | rfl <;> rfl
theorem Dus.fl {w : World} {R : Nat → Prop} {A : Option Addr} {n c : Nat} {l : List Dut} (h : Dus w R A n c l) : Fl w 3 A n (l.flatMap Dut.cells) := Rw.flat_fl h (by omega) Dut.one
theorem Nds.fl {w : World} {R : Nat → Prop} {A : Option Addr} {n c : Nat} {l : List Nod} (h : Nds w R A n c l) : Fl w 7 A n (l.flatMap Nod.cells) := Rw.flat_fl h (by omega) Nod.one
theorem Ms.fl {w : World} {R : Nat → Prop} {A : Option Addr} {n c : Nat} {l : List Mat} (h : Ms w R A n c l) : Fl w 7 A n (l.flatMap Mat.cells) := Rw.flat_fl h (by omega) Mat.one
theorem Rw.all {α : Type} {k : Nat} {f : α → List Value} {okp : α → Prop} {w : World} {R : Nat → Prop} {A : Option Addr} {n c : Nat} {l : List α} (h : Rw k (fun vs x => vs = f x ∧ okp x) w R A n c l) : ∀ x ∈ l, okp x := by
  intro x hx
  obtain ⟨j, hj, rfl⟩ := List.getElem_of_mem hx
  obtain ⟨b, o, y, vs, _, _, _, hy, _, _, hp⟩ := h.at_ (j := j) (by have := h.1; omega)
  rw [List.getElem?_eq_getElem hj] at hy
  exact Option.some.inj hy ▸ hp.2
theorem own_none (w : World) (E : TypeId) (k : Nat) : (w.alloc (.cells #[] E)).ownsRow w.heap.size E k (.slice (some ⟨w.heap.size, 0, none⟩) 0 0) 0 [] :=
  World.ownsRow_lit w #[] 0 (Nat.le_refl _) (by simp [maxLen]) (by simp)
theorem flatMap_app {α β : Type} (f : α → List β) (l m : List α) : (l ++ m).flatMap f = l.flatMap f ++ m.flatMap f := List.flatMap_append

theorem info_of {P : Program} {E : TypeId} {z : Value} {k b : Nat} (h : (P.info? E).map (fun i => (i.zero, i.size, i.bytes)) = some (some z, k, b)) : ∃ i, P.info? E = some i ∧ i.zero = some z ∧ i.size = k ∧ i.bytes = b := by
  cases hi : P.info? E with
  | none => rw [hi] at h; cases h
  | some i =>
    rw [hi] at h
    simp only [Option.map_some, Option.some.injEq, Prod.mk.injEq] at h
    exact ⟨i, rfl, h.1, h.2.1, h.2.2⟩
theorem dutinfo : (Try.prog.info? 105).map (fun i => (i.zero, i.size, i.bytes)) = some (some (.agg #[.int .i64 0, .int .i64 0, .string ⟨#[]⟩]), 3, 32) := by kernel_rfl
theorem nodinfo : (Try.prog.info? 41).map (fun i => (i.zero, i.size, i.bytes)) = some (some (.agg #[.int .i64 0, .int .i64 0, .int .i64 0, .string ⟨#[]⟩, .int .i64 0, .string ⟨#[]⟩, .bool false]), 7, 72) := by kernel_rfl
theorem append_duts {w : World} {base n c m c2 ty : Nat} {R : Nat → Prop} {A A2 : Option Addr} {xs ys : List Dut} (h : w.ownsRow base 105 3 (.slice A n c) n (xs.flatMap Dut.cells)) (hy : Dus w R A2 m c2 ys) (hn : n + m ≤ 1000000) (hbase : base ≤ w.heap.size) :
    ∃ A' c' w', (Builtin.append_ #[30, 30] ty #[.slice A n c, .slice A2 m c2]).run Try.prog w = .ok (.slice A' (n + m) c') w' ∧
      w'.ownsRow base 105 3 (.slice A' (n + m) c') (n + m) ((xs ++ ys).flatMap Dut.cells) ∧ Below base w w' ∧ w.grownBy w' (Value.slice A n c).ownBlock ∧
      ((Value.slice A' (n + m) c').ownBlock = (Value.slice A n c).ownBlock ∨ (Value.slice A' (n + m) c').ownBlock = some w.heap.size) := by
  obtain ⟨i, hi, hz, hs, hb⟩ := info_of dutinfo
  rw [flatMap_app]
  exact append_rows Try.underlying30 hi hz hs hb rfl (by omega) (by omega) h hy.fl hn hbase
theorem append_nods {w : World} {base n c m c2 ty : Nat} {R : Nat → Prop} {A A2 : Option Addr} {xs ys : List Nod} (h : w.ownsRow base 41 7 (.slice A n c) n (xs.flatMap Nod.cells)) (hy : Nds w R A2 m c2 ys) (hn : n + m ≤ 1000000) (hbase : base ≤ w.heap.size) :
    ∃ A' c' w', (Builtin.append_ #[42, 42] ty #[.slice A n c, .slice A2 m c2]).run Try.prog w = .ok (.slice A' (n + m) c') w' ∧
      w'.ownsRow base 41 7 (.slice A' (n + m) c') (n + m) ((xs ++ ys).flatMap Nod.cells) ∧ Below base w w' ∧ w.grownBy w' (Value.slice A n c).ownBlock ∧
      ((Value.slice A' (n + m) c').ownBlock = (Value.slice A n c).ownBlock ∨ (Value.slice A' (n + m) c').ownBlock = some w.heap.size) := by
  obtain ⟨i, hi, hz, hs, hb⟩ := info_of nodinfo
  rw [flatMap_app]
  exact append_rows Try.underlying42 hi hz hs hb rfl (by omega) (by omega) h hy.fl hn hbase

end Go.Proofs.Ytadjfkgnoklmiaa
/- Expressions behind each other: what they leave; rows of nodes put together. -/
namespace Go.Proofs.Ytadjfkgnoklmiaa
set_option linter.unusedVariables false
open Go.RowKit

end Go.Proofs.Ytadjfkgnoklmiaa
/- Conditions, plainly: what an expression comes to over a request (chapter 12). -/
namespace Go.Proofs.Ytadjfkgnoklmiaa
set_option linter.unusedVariables false

structure Prt where
  bag : List Vl
  v : Vl
  e : Int
end Go.Proofs.Ytadjfkgnoklmiaa
/- Targets, plainly (chapter 13): three truths, and is the least, or is the greatest. -/
namespace Go.Proofs.Ytadjfkgnoklmiaa
set_option linter.unusedVariables false

def most {α : Type} (f : α → Int) : List α → Int
  | [] => 0
  | x :: r => max (f x) (most f r)
section
variable {α : Type} {f g : α → Int}
end
end Go.Proofs.Ytadjfkgnoklmiaa
/- The quarters 0 .. 4 of one as floats: what comparing, and the greater of two, make of them (plain, but for the run of 'max'). -/
namespace Go.Proofs.Ytadjfkgnoklmiaa
open Go.RowKit

def fl (i : Fin 5) : Nat := #[0, 4598175219545276416, 4602678819172646912, 4604930618986332160, 4607182418800017408].getD i.val 0

theorem ord_fl : ∀ i j : Fin 5, FloatKind.f64.format.order (fl i) (fl j) = some (compare i j) := by decide +kernel
theorem ord_eq (i j : Fin 5) : (FloatKind.f64.format.order (fl i) (fl j) == some .eq) = (i == j) := by rw [ord_fl]; revert i j; decide +kernel
theorem ord_gt (i j : Fin 5) : (FloatKind.f64.format.order (fl i) (fl j) == some .gt) = decide (j < i) := by rw [ord_fl]; revert i j; decide +kernel
theorem ord_lt (i j : Fin 5) : (FloatKind.f64.format.order (fl i) (fl j) == some .lt) = decide (i < j) := by rw [ord_fl]; revert i j; decide +kernel

theorem eq0 (i : Fin 5) : (FloatKind.f64.format.order (fl i) 0 == some .eq) = (i == 0) := ord_eq i 0
theorem feq2 (i : Fin 5) : (FloatKind.f64.format.order (fl i) 4602678819172646912 == some .eq) = (i == 2) := ord_eq i 2
theorem eq4 (i : Fin 5) : (FloatKind.f64.format.order (fl i) 4607182418800017408 == some .eq) = (i == 4) := ord_eq i 4
theorem fgt0 (i : Fin 5) : (FloatKind.f64.format.order (fl i) 0 == some .gt) = decide (0 < i) := ord_gt i 0
theorem gt2 (i : Fin 5) : (FloatKind.f64.format.order (fl i) 4602678819172646912 == some .gt) = decide (2 < i) := ord_gt i 2

def hiF (i j : Fin 5) : Fin 5 := if i < j then j else i

section
variable {P : Program} (w : World)
theorem run_max_fl (ts : Array TypeId) (t : TypeId) (i j : Fin 5) : (Builtin.max_ ts t #[.float .f64 (fl i), .float .f64 (fl j)]).run P w = .ok (.float .f64 (fl (hiF i j))) w := by
  have h := ord_fl i j
  have hc : compare i j = .lt ∧ hiF i j = j ∨ compare i j = .gt ∧ hiF i j = i ∨ compare i j = .eq ∧ hiF i j = i ∧ i = j := by revert i j; decide +kernel
  rcases hc with ⟨a, b⟩ | ⟨a, b⟩ | ⟨a, b, rfl⟩
  all_goals rw [a] at h; rw [b]; simp [Builtin.max_, Builtin.max2, h]
end

attribute [irreducible] fl
end Go.Proofs.Ytadjfkgnoklmiaa
/- bailiffbook.Within: a number brought between two bounds. -/
namespace Go.Proofs.Ytadjfkgnoklmiaa
open Go.RowKit

end Go.Proofs.Ytadjfkgnoklmiaa
/- Marks: each function of package mark, and of the reference, over marks whose parts are quarters (plain words first). -/
namespace Go.Proofs.Ytadjfkgnoklmiaa
open Go.RowKit
attribute [local go_sem] eq0 feq2 eq4 fgt0 gt2 ord_eq ord_gt ord_lt run_max_fl

end Go.Proofs.Ytadjfkgnoklmiaa
/- Marks as pairs of quarters; the algorithms over lists of them (plain). -/
namespace Go.Proofs.Ytadjfkgnoklmiaa

abbrev Mk := Fin 5 × Fin 5
end Go.Proofs.Ytadjfkgnoklmiaa
/- append of one cell to a row of the call's own. -/
namespace Go.Proofs.Ytadjfkgnoklmiaa
set_option linter.unusedVariables false
open Go.RowKit

end Go.Proofs.Ytadjfkgnoklmiaa
/- Rows of marks: cells, and what a slice of them reads as. -/
namespace Go.Proofs.Ytadjfkgnoklmiaa
set_option linter.unusedVariables false
open Go.RowKit

def mcell (m : Mk) : Value := .complex .f64 (fl m.1) (fl m.2)
end Go.Proofs.Ytadjfkgnoklmiaa
/- Package combine: each function over marks whose parts are quarters. -/
namespace Go.Proofs.Ytadjfkgnoklmiaa
set_option linter.unusedVariables false
open Go.RowKit
attribute [local go_sem] eq0 feq2 eq4 fgt0 gt2 ord_eq ord_gt ord_lt run_max_fl

end Go.Proofs.Ytadjfkgnoklmiaa
/- What the algorithms make of rows of the six (plain): turned, sure, one alone, many. -/
namespace Go.Proofs.Ytadjfkgnoklmiaa

end Go.Proofs.Ytadjfkgnoklmiaa
/- bailiffkeep: how much may be gone through: takes, text. -/
namespace Go.Proofs.Ytadjfkgnoklmiaa
set_option linter.unusedVariables false
open Go.RowKit

def Lf (w : World) (g m : Nat) : Prop := Ob w g 59 #[.int .i64 (m : Int)]
def Taking (f : FuncId) (args : Array Value) (w : World) (g m c : Nat) : Prop :=
  Calls Try.prog f args w fun e w' => e = .returned (.bool (decide (c ≤ m))) ∧ Only g w w' ∧ (c ≤ m → Lf w' g (m - c))
theorem Only.kept {g : Nat} {w w' : World} (h : Only g w w') {R : Nat → Prop} (hR : ∀ b, R b → b ≠ g) : Kept R w w' := ⟨h.le, fun b hb hl => h.heap hl (hR b hb)⟩
theorem Only.alloc (g : Nat) (w : World) (o : Obj) : Only g w (w.alloc o) := Only.of_below ((Below.refl _ _).alloc (Nat.le_refl _) _)

theorem takes_any {w : World} {g m n : Nat} (hl : Lf w g m) (hm : m ≤ 3000) (hn : n ≤ maxLen) : Taking 26 #[.pointer (some ⟨g, 0, none⟩), .int .i64 (n : Int)] w g m n := by
  unfold Taking
  have c0 := hl.cell 0
  have f0 := hl.frozen 0
  have HL := Lib.hid hl
  unfold maxLen at hn
  clear hl
  by_cases h : n ≤ m
  · have h' : ¬ (m : Int) < (n : Int) := by omega
    have e : (m : Int) - (n : Int) = ((m - n : Nat) : Int) := by omega
    have HD := Lib.hid h
    clear h
    go_enter Try.func26, Try.ntmps26
    go_wp2_with fail
    go_ret
    refine ⟨ret_bool (decide_eq_true HD.out).symm, Only.refl.setCell rfl _, fun _ => ?_⟩
    have := HL.out.put 0 (.int .i64 ((m - n : Nat) : Int))
    simpa [Lf] using this
  · have h' : (m : Int) < (n : Int) := by omega
    have HD := Lib.hid h
    clear h
    go_enter Try.func26, Try.ntmps26
    go_wp2_with fail
    go_ret
    exact ⟨ret_bool (decide_eq_false HD.out).symm, Only.refl, fun h => absurd h HD.out⟩

def textC (s : ByteArray) : Nat := 1 + s.size / 8
theorem ktext_any {w : World} {g m : Nat} (s : ByteArray) (hl : Lf w g m) (hm : m ≤ 3000) (hs : s.size ≤ maxLen) : Taking 27 #[.pointer (some ⟨g, 0, none⟩), .string s] w g m (textC s) := by
  unfold maxLen at hs
  have HT := Lib.hid (takes_any (n := textC s) hl hm (by unfold maxLen textC; omega))
  have e : ((textC s : Nat) : Int) = 1 + (s.size : Int) / 8 := by unfold textC; omega
  unfold Taking at HT ⊢
  rw [e] at HT
  clear hl e
  go_enter Try.func27, Try.ntmps27
  go_wp2_with (go_at_call 26; refine HT.out.mono ?_; rintro e w1 ⟨rfl, hb, hw⟩)
  go_ret
  exact ⟨rfl, hb, hw⟩

def sumC {α : Type} (f : α → Nat) : List α → Nat
  | [] => 0
  | x :: l => f x + sumC f l
theorem sumC_app {α : Type} (f : α → Nat) : ∀ (l m : List α), sumC f (l ++ m) = sumC f l + sumC f m
  | [], m => by simp [sumC]
  | x :: l, m => by simp only [List.cons_append, sumC, sumC_app f l m]; omega
theorem sumC_take {α : Type} {f : α → Nat} {l : List α} {k : Nat} {x : α} (h : l[k]? = some x) : sumC f (l.take (k + 1)) = sumC f (l.take k) + f x := by
  obtain ⟨hk, rfl⟩ := List.getElem?_eq_some_iff.1 h
  rw [List.take_succ_eq_append_getElem hk, sumC_app]
  rfl
theorem sumC_zero {α : Type} (f : α → Nat) (l : List α) : sumC f (l.take 0) = 0 := by simp [sumC]
theorem sumC_all {α : Type} {f : α → Nat} {l : List α} {n : Nat} (h : l.length = n) : sumC f (l.take n) = sumC f l := by rw [List.take_of_length_le (by omega)]
theorem sumC_le {α : Type} {f : α → Nat} {l : List α} {k : Nat} {x : α} (h : l[k]? = some x) : sumC f (l.take k) + f x ≤ sumC f l := by
  rw [← sumC_take h]
  have := sumC_app f (l.take (k + 1)) (l.drop (k + 1))
  rw [List.take_append_drop] at this
  omega
theorem sumC_mem {α : Type} {f : α → Nat} {l : List α} {x : α} (h : x ∈ l) : f x ≤ sumC f l := by
  obtain ⟨k, hk, rfl⟩ := List.getElem_of_mem h
  have := sumC_le (f := f) (List.getElem?_eq_getElem hk)
  omega
theorem Lf.alloc {w : World} {g m : Nat} (h : Lf w g m) (o : Obj) : Lf (w.alloc o) g m := Ob.keep h (Below.heap_alloc w o g (Ob.lt h))
end Go.Proofs.Ytadjfkgnoklmiaa
/- bailiffkeep: how much of a policy may be gone through: obls. -/
namespace Go.Proofs.Ytadjfkgnoklmiaa
set_option linter.unusedVariables false
open Go.RowKit

def dutC (o : Dut) : Nat := textC o.arg
def dutsC (l : List Dut) : Nat := l.length + sumC dutC l
def matC (m : Mat) : Nat := textC m.a.name + textC m.v.s
def allC (l : List Mat) : Nat := 1 + l.length + sumC matC l
def anyC (l : List (List Mat)) : Nat := 1 + l.length + sumC allC l
def tgC (t : Tgt) : Nat := 1 + t.length + sumC anyC t


set_option maxHeartbeats 1600000 in
theorem kobls_any {w : World} {R : Nat → Prop} {g m n c : Nat} {A : Option Addr} {l : List Dut} (hl : Lf w g m) (hm : m ≤ 3000) (hR : ∀ b, R b → b ≠ g) (h : Dus w R A n c l) :
    Taking 29 #[.pointer (some ⟨g, 0, none⟩), .slice A n c] w g m (dutsC l) := by
  have hle := Rw.le h
  have hcap := Rw.cap h
  have HL := Lib.hid (Rw.len h)
  have HT := Lib.hid (takes_any (n := n) hl hm (by omega))
  have H := Lib.hid h
  have HR := Lib.hid hR
  have HM := Lib.hid hm
  unfold maxLen at hcap
  unfold Taking at HT ⊢
  have HC : Hid (dutsC l = n + sumC dutC l) := by show dutsC l = _; unfold dutsC; rw [HL.out]
  generalize hcc : dutsC l = cc at *
  clear hcc h hl hR hm
  by_cases h1 : n ≤ m
  · rw [decide_eq_true h1] at HT
    have H1 := Lib.hid h1
    clear h1
    go_enter Try.func29, Try.ntmps29
    go_wp2_with (go_at_call 26; refine HT.out.mono ?_; rintro e w1 ⟨rfl, hb, hw⟩; have B1 := Lib.hid hb; have W1 := Lib.hid (hw H1.out); clear hb hw)
    go_loopw [14] (fun i wr => ∃ k mk : Nat, k ≤ n ∧ i = .int .i64 k ∧ sumC dutC (l.take k) + mk = m - n ∧ Lf wr g mk ∧ Only g w wr) (fun i _ => n - (intOf i).toNat)
    case atStart => exact ⟨0, m - n, Nat.zero_le _, rfl, by rw [sumC_zero]; omega, W1.out, B1.out⟩
    case round =>
      obtain ⟨k, mk, hk, rfl, hs, hlf, hb⟩ := hrel
      have HS := Lib.hid hs
      have HB := Lib.hid hb
      have HF := Lib.hid hlf
      clear hs hb hlf
      by_cases hlt : k < n
      · obtain ⟨b, o, x, rfl, hRb, hbl, hx, hok, c0, c1, c2⟩ := (H.out.keep (HB.out.kept HR.out) (fun _ h _ => h)).at_ hlt
        have HX := Lib.hid hx
        have HXT := Lib.hid (ktext_any x.arg (HF.out.alloc (.cells #[.int .i64 x.on, .int .i64 x.kind, .string x.arg] 105)) (by have := HS.out; have := HM.out; omega) hok.2.2)
        unfold Taking at HXT
        clear hx hok
        by_cases h2 : textC x.arg ≤ mk
        · rw [decide_eq_true h2] at HXT
          have H2 := Lib.hid h2
          clear h2
          go_wp2_with (go_at_call 27; refine HXT.out.mono ?_; rintro e w2 ⟨rfl, hb, hw⟩; have B2 := Lib.hid hb; have W2 := Lib.hid (hw H2.out); clear hb hw)
          go_roundw
          case rel => exact ⟨k + 1, mk - textC x.arg, by omega, by go_num, by rw [sumC_take HX.out]; have := HS.out; have := H2.out; show _ + textC x.arg + _ = _; omega, W2.out, HB.out.trans ((Only.alloc _ _ _).trans B2.out)⟩
          case measure => simp [intOf]; omega
        · rw [decide_eq_false h2] at HXT
          have H2 := Lib.hid h2
          clear h2
          go_wp2_with (go_at_call 27; refine HXT.out.mono ?_; rintro e w2 ⟨rfl, hb, hw⟩; have B2 := Lib.hid hb; clear hb hw)
          go_ret
          have hbad : ¬ cc ≤ m := by
            have := sumC_le (f := dutC) HX.out
            have := HC.out; have := HS.out; have := H1.out; have := H2.out
            have e : dutC x = textC x.arg := rfl
            omega
          exact ⟨ret_bool (decide_eq_false hbad).symm, HB.out.trans ((Only.alloc _ _ _).trans B2.out), fun h => absurd h hbad⟩
      · obtain rfl : k = n := by omega
        go_wp2
        go_ret
        have hs := HS.out
        rw [sumC_all HL.out] at hs
        have := HC.out
        have := H1.out
        exact ⟨ret_bool (decide_eq_true (by omega)).symm, HB.out, fun _ => by rw [show m - cc = mk by omega]; exact HF.out⟩
  · rw [decide_eq_false h1] at HT
    have H1 := Lib.hid h1
    clear h1
    go_enter Try.func29, Try.ntmps29
    go_wp2_with (go_at_call 26; refine HT.out.mono ?_; rintro e w1 ⟨rfl, hb, hw⟩; have B1 := Lib.hid hb; clear hb hw)
    go_ret
    have hbad : ¬ cc ≤ m := by have := HC.out; have := H1.out; omega
    exact ⟨ret_bool (decide_eq_false hbad).symm, B1.out, fun h => absurd h hbad⟩
end Go.Proofs.Ytadjfkgnoklmiaa
/- What a right policy's run leaves; a kid of it by itself (plain). -/
namespace Go.Proofs.Ytadjfkgnoklmiaa
set_option linter.unusedVariables false

def Sub (t s : Seen) : Prop := (∀ x, metB x t.ids = true → metB x s.ids = true) ∧ t.n ≤ s.n
theorem metB_app (x : ByteArray) (l m : List ByteArray) : metB x (l ++ m) = (metB x l || metB x m) := by simp [metB, List.any_append]
theorem Sub.app {t s : Seen} (h : Sub t s) (add : List ByteArray) (m : Nat) : Sub ⟨t.ids ++ add, t.n + m⟩ ⟨s.ids ++ add, s.n + m⟩ := by
  refine ⟨fun x hx => ?_, by have := h.2; show t.n + m ≤ s.n + m; omega⟩
  rw [metB_app, Bool.or_eq_true] at hx ⊢
  exact hx.imp (h.1 x) id
def Fine {α : Type} (f f' : α → Seen → Int × Seen) (x : α) : Prop := ∀ s s', f x s = (0, s') → ∃ add m, s' = ⟨s.ids ++ add, s.n + m⟩ ∧ ∀ t, Sub t s → f' x t = (0, ⟨t.ids ++ add, t.n + m⟩)
theorem fine_first {α : Type} {f f' : α → Seen → Int × Seen} (h : ∀ x, Fine f f' x) : ∀ (l : List α) s s', firstS f l s = (0, s') → ∃ add m, s' = ⟨s.ids ++ add, s.n + m⟩ ∧ ∀ t, Sub t s → firstS f' l t = (0, ⟨t.ids ++ add, t.n + m⟩)
  | [], s, s', e => by
    simp [firstS] at e
    subst e
    exact ⟨[], 0, by simp, fun t _ => by simp [firstS]⟩
  | x :: l, s, s', e => by
    simp only [firstS] at e
    split at e
    · rename_i h0
      rw [e] at h0
      exact absurd rfl h0
    · rename_i h0
      have h0 : (f x s).1 = 0 := by simpa using h0
      have e1 : f x s = (0, (f x s).2) := by rw [← h0]
      obtain ⟨a1, m1, r1, q1⟩ := h x s _ e1
      obtain ⟨a2, m2, r2, q2⟩ := fine_first h l _ _ e
      refine ⟨a1 ++ a2, m1 + m2, ?_, fun t ht => ?_⟩
      · rw [r2, r1]; simp [Nat.add_assoc]
      · simp only [firstS, q1 t ht, ne_eq, not_true, if_false]
        have hs := ht.app a1 m1
        rw [← r1] at hs
        rw [q2 _ hs]
        simp [Nat.add_assoc]
theorem idS_sub {x : ByteArray} {s t s1 : Seen} (h : idS x s = some s1) (hs : Sub t s) : idS x t = some ⟨t.ids ++ [x], t.n⟩ ∧ s1 = ⟨s.ids ++ [x], s.n⟩ := by
  unfold idS at h ⊢
  split at h
  · rename_i hc
    refine ⟨?_, (Option.some.inj h).symm⟩
    rw [if_pos]
    refine ⟨hc.1, ?_⟩
    cases hm : metB x t.ids with
    | false => rfl
    | true =>
      have := hs.1 x hm
      rw [hc.2] at this
      cases this
  · cases h
theorem fine_rule (r : Rul) : Fine ruleS ruleS r := by
  intro s s' h
  unfold ruleS at h
  cases hi : idS r.id s with
  | none => rw [hi] at h; simp at h
  | some s1 =>
    rw [hi] at h
    simp only at h
    split at h
    · simp at h
    · rename_i hn
      simp only [Prod.mk.injEq] at h
      have h1 := (idS_sub hi (t := s) ⟨fun _ h => h, Nat.le_refl _⟩).2
      subst h1
      refine ⟨[r.id], 1, h.2.symm, fun t ht => ?_⟩
      obtain ⟨e1, _⟩ := idS_sub hi ht
      unfold ruleS
      rw [e1]
      have hn' : ¬ 64 < t.n + 1 := by have := ht.2; simp only at hn; omega
      simp only [hn', if_false, h.1]
theorem fine_pol : ∀ (d d' : Nat), d ≤ d' → ∀ p, Fine (polS d) (polS d') p
  | 0, d', _, p => by intro s s' h; simp [polS] at h
  | d + 1, 0, hd, p => by omega
  | d + 1, d' + 1, hd, p => by
    intro s s' h
    simp only [polS] at h
    cases hi : idS p.id s with
    | none => rw [hi] at h; simp at h
    | some s1 =>
      rw [hi] at h
      simp only at h
      have h1 := (idS_sub hi (t := s) ⟨fun _ h => h, Nat.le_refl _⟩).2
      subst h1
      split at h
      · simp at h
      rename_i c1
      split at h
      · rename_i c2; simp only [Prod.mk.injEq] at h; exact absurd h.1 c2
      rename_i c2
      split at h
      · simp at h
      rename_i c3
      split at h
      · rename_i c4; rw [h] at c4; exact absurd rfl c4
      rename_i c4
      have c4' : (firstS ruleS p.rules ⟨s.ids ++ [p.id], s.n⟩).1 = 0 := by simpa using c4
      have e1 : firstS ruleS p.rules ⟨s.ids ++ [p.id], s.n⟩ = (0, (firstS ruleS p.rules ⟨s.ids ++ [p.id], s.n⟩).2) := by rw [← c4']
      obtain ⟨a1, m1, r1, q1⟩ := fine_first fine_rule _ _ _ e1
      obtain ⟨a2, m2, r2, q2⟩ := fine_first (fine_pol d d' (by omega)) _ _ _ h
      rw [r1] at r2 q2
      refine ⟨[p.id] ++ a1 ++ a2, m1 + m2, by rw [r2]; simp [Nat.add_assoc], fun t ht => ?_⟩
      obtain ⟨e2, _⟩ := idS_sub hi ht
      have ht1 : Sub ⟨t.ids ++ [p.id], t.n⟩ ⟨s.ids ++ [p.id], s.n⟩ := ht.app [p.id] 0
      have g1 := q1 _ ht1
      have g2 := q2 _ (ht1.app a1 m1)
      simp only [polS, e2, c1, if_false, c2, c3, g1, ne_eq, not_true, g2]
      simp [Nat.add_assoc]
theorem rule_n {r : Rul} {s s' : Seen} (h : ruleS r s = (0, s')) : s'.n = s.n + 1 ∧ s'.n ≤ 64 := by
  unfold ruleS at h
  cases hi : idS r.id s with
  | none => rw [hi] at h; simp at h
  | some s1 =>
    rw [hi] at h
    simp only at h
    have h1 := (idS_sub hi (t := s) ⟨fun _ h => h, Nat.le_refl _⟩).2
    split at h
    · simp at h
    · rename_i hn
      simp only [Prod.mk.injEq] at h
      rw [← h.2]
      subst h1
      exact ⟨rfl, Nat.le_of_not_lt hn⟩
theorem rules_n : ∀ {l : List Rul} {s s' : Seen}, firstS ruleS l s = (0, s') → s.n ≤ 64 → s'.n = s.n + l.length ∧ s'.n ≤ 64
  | [], s, s', h, hs => by simp [firstS] at h; subst h; simp; exact hs
  | r :: l, s, s', h, hs => by
    simp only [firstS] at h
    split at h
    · rename_i h0; rw [h] at h0; exact absurd rfl h0
    · rename_i h0
      have h0 : (ruleS r s).1 = 0 := by simpa using h0
      have e1 : ruleS r s = (0, (ruleS r s).2) := by rw [← h0]
      obtain ⟨a, b⟩ := rule_n e1
      obtain ⟨c, d⟩ := rules_n h b
      simp only [List.length_cons]
      omega
theorem pol_n : ∀ {d : Nat} {p : Pol} {s s' : Seen}, polS d p s = (0, s') → s.n ≤ 64 → s'.n ≤ 64
  | 0, p, s, s', h, _ => by simp [polS] at h
  | d + 1, p, s, s', h, hs => by
    simp only [polS] at h
    cases hi : idS p.id s with
    | none => rw [hi] at h; simp at h
    | some s1 =>
      rw [hi] at h
      simp only at h
      have h1 := (idS_sub hi (t := s) ⟨fun _ h => h, Nat.le_refl _⟩).2
      subst h1
      split at h
      · simp at h
      split at h
      · rename_i c2; simp only [Prod.mk.injEq] at h; exact absurd h.1 c2
      split at h
      · simp at h
      split at h
      · rename_i c4; rw [h] at c4; exact absurd rfl c4
      rename_i c4
      have c4' : (firstS ruleS p.rules ⟨s.ids ++ [p.id], s.n⟩).1 = 0 := by simpa using c4
      have e1 : firstS ruleS p.rules ⟨s.ids ++ [p.id], s.n⟩ = (0, (firstS ruleS p.rules ⟨s.ids ++ [p.id], s.n⟩).2) := by rw [← c4']
      have hr := (rules_n e1 hs).2
      have kids : ∀ (l : List Pol) (a b : Seen), firstS (polS d) l a = (0, b) → a.n ≤ 64 → b.n ≤ 64 := by
        intro l
        induction l with
        | nil => intro a b h ha; simp [firstS] at h; subst h; exact ha
        | cons x l ih =>
          intro a b h ha
          simp only [firstS] at h
          split at h
          · rename_i h0; rw [h] at h0; exact absurd rfl h0
          · rename_i h0
            have h0 : (polS d x a).1 = 0 := by simpa using h0
            have e1 : polS d x a = (0, (polS d x a).2) := by rw [← h0]
            exact ih _ _ h (pol_n e1 ha)
      exact kids _ _ _ h hr
theorem kid_alone {p : Pol} {s s' : Seen} (h : polS 3 p s = (0, s')) : rightE p = 0 ∧ s'.n = s.n + rulesN p := by
  obtain ⟨add, m, e, q⟩ := fine_pol 3 4 (by omega) p s s' h
  have := q ⟨[], 0⟩ ⟨fun x hx => by simp [metB] at hx, Nat.zero_le _⟩
  unfold rightE rulesN
  rw [this, e]
  simp
theorem kids_alone : ∀ {l : List Pol} {s s' : Seen}, firstS (polS 3) l s = (0, s') → (∀ k ∈ l, rightE k = 0) ∧ s'.n = s.n + sumC rulesN l
  | [], s, s', h => by simp [firstS] at h; subst h; simp [sumC]
  | x :: l, s, s', h => by
    simp only [firstS] at h
    split at h
    · rename_i h0; rw [h] at h0; exact absurd rfl h0
    · rename_i h0
      have h0 : (polS 3 x s).1 = 0 := by simpa using h0
      have e1 : polS 3 x s = (0, (polS 3 x s).2) := by rw [← h0]
      obtain ⟨a, b⟩ := kid_alone e1
      obtain ⟨c, d⟩ := kids_alone h
      refine ⟨fun k hk => ?_, by rw [d, b]; simp only [sumC]; omega⟩
      rcases List.mem_cons.1 hk with rfl | hk
      · exact a
      · exact c k hk
theorem right_all {p : Pol} (h : rightE p = 0) : (∀ k ∈ p.kids, rightE k = 0) ∧ rulesN p = p.rules.length + sumC rulesN p.kids ∧ rulesN p ≤ 64 ∧ p.rules.length ≤ 16 ∧ p.kids.length ≤ 16 := by
  have e0 : polS (3 + 1) p ⟨[], 0⟩ = (0, (polS 4 p ⟨[], 0⟩).2) := by unfold rightE at h; rw [← h]
  have hn := pol_n e0 (Nat.zero_le _)
  unfold rulesN
  generalize (polS 4 p ⟨[], 0⟩).2 = s' at *
  rw [polS] at e0
  cases hi : idS p.id ⟨[], 0⟩ with
  | none => rw [hi] at e0; simp at e0
  | some s1 =>
    rw [hi] at e0
    simp only at e0
    have h1 := (idS_sub hi (t := ⟨[], 0⟩) ⟨fun _ h => h, Nat.le_refl _⟩).2
    subst h1
    split at e0
    · simp at e0
    split at e0
    · rename_i c2; simp only [Prod.mk.injEq] at e0; exact absurd e0.1 c2
    split at e0
    · simp at e0
    rename_i c3
    split at e0
    · rename_i c4; rw [e0] at c4; exact absurd rfl c4
    rename_i c4
    have c4' : (firstS ruleS p.rules ⟨[] ++ [p.id], 0⟩).1 = 0 := by simpa using c4
    have e1 : firstS ruleS p.rules ⟨[] ++ [p.id], 0⟩ = (0, (firstS ruleS p.rules ⟨[] ++ [p.id], 0⟩).2) := by rw [← c4']
    obtain ⟨r1, _⟩ := rules_n e1 (Nat.zero_le _)
    obtain ⟨k1, k2⟩ := kids_alone e0
    refine ⟨k1, ?_, hn, by omega, by omega⟩
    rw [k2, r1]
    simp
    rfl
end Go.Proofs.Ytadjfkgnoklmiaa
/- PolicyNames: what becomes of a right policy whose names, rules or kids are changed (plain). -/
namespace Go.Proofs.Ytadjfkgnoklmiaa
set_option linter.unusedVariables false

end Go.Proofs.Ytadjfkgnoklmiaa
/- Decisions by a policy, plainly (chapter 14): P14.1 to P14.4 written out; what they come to. -/
namespace Go.Proofs.Ytadjfkgnoklmiaa
set_option linter.unusedVariables false

structure Res where
  m : Mk
  ob : List Dut
def obR : List Rul → Nat
  | [] => 0
  | r :: l => r.ob.length + obR l
mutual
def szP : Pol → Nat
  | .mk id set alg tg rules kids ob => 1 + rules.length + ob.length + obR rules + szL kids
def szL : List Pol → Nat
  | [] => 0
  | p :: l => szP p + szL l
end
theorem szP_eq (p : Pol) : szP p = 1 + p.rules.length + p.ob.length + obR p.rules + szL p.kids := by
  obtain ⟨id, set, alg, tg, rules, kids, ob⟩ := p
  show szP (.mk id set alg tg rules kids ob) = 1 + rules.length + ob.length + obR rules + szL kids
  rw [szP]
theorem polE_parts {d : Nat} {p : Pol} {s s' : Seen} (h : polS (d + 1) p s = (0, s')) : fitsB p = true ∧ tgE p.tg = 0 ∧ obE p.ob = 0 ∧ p.rules.length ≤ 16 ∧ p.kids.length ≤ 16 ∧ ∃ s1 s2, firstS ruleS p.rules s1 = (0, s2) ∧ firstS (polS d) p.kids s2 = (0, s') := by
  rw [polS] at h
  cases hi : idS p.id s with
  | none => rw [hi] at h; simp at h
  | some s1 =>
    rw [hi] at h
    simp only at h
    split at h
    · simp at h
    rename_i c1
    split at h
    · rename_i c2; simp only [Prod.mk.injEq] at h; exact absurd h.1 c2
    rename_i c2
    split at h
    · simp at h
    rename_i c3
    split at h
    · rename_i c4; rw [h] at c4; exact absurd rfl c4
    rename_i c4
    have c4' : (firstS ruleS p.rules s1).1 = 0 := by simpa using c4
    have c2' : orE (tgE p.tg) (obE p.ob) = 0 := by simpa using c2
    unfold orE at c2'
    split at c2'
    · rename_i h0; exact absurd c2' h0
    rename_i h0
    exact ⟨by simpa using c1, by simpa using h0, c2', by omega, by omega, s1, (firstS ruleS p.rules s1).2, by rw [← c4'], h⟩
theorem firsts_all {α : Type} {f : α → Seen → Int × Seen} : ∀ {l : List α} {s s' : Seen}, firstS f l s = (0, s') → ∀ x ∈ l, ∃ a b, f x a = (0, b)
  | [], _, _, _, x, hx => by simp at hx
  | y :: l, s, s', h, x, hx => by
    simp only [firstS] at h
    split at h
    · rename_i h0; rw [h] at h0; exact absurd rfl h0
    · rename_i h0
      have h0 : (f y s).1 = 0 := by simpa using h0
      rcases List.mem_cons.1 hx with rfl | hx
      · exact ⟨s, (f x s).2, by rw [← h0]⟩
      · exact firsts_all h x hx
theorem ob_eight {l : List Dut} (h : obE l = 0) : l.length ≤ 8 := by
  unfold obE at h
  split at h
  · cases h
  · omega
theorem rule_parts {r : Rul} {s s' : Seen} (h : ruleS r s = (0, s')) : tgE r.tg = 0 ∧ exprE r.cond = 0 ∧ obE r.ob = 0 := by
  unfold ruleS at h
  cases hi : idS r.id s with
  | none => rw [hi] at h; simp at h
  | some s1 =>
    rw [hi] at h
    simp only at h
    split at h
    · simp at h
    · simp only [Prod.mk.injEq] at h
      have h := h.1
      unfold orE at h
      split at h
      · rename_i h0; exact absurd h h0
      · rename_i h0
        split at h
        · rename_i h1; exact absurd h h1
        · rename_i h1
          exact ⟨by simpa using h0, by simpa using h1, h⟩
theorem obR_le {k : Nat} : ∀ {l : List Rul}, (∀ r ∈ l, r.ob.length ≤ k) → obR l ≤ l.length * k
  | [], _ => Nat.zero_le _
  | r :: l, h => by
    have h1 := h r (by simp)
    have h2 := obR_le (l := l) (fun x hx => h x (by simp [hx]))
    rw [obR, List.length_cons, Nat.add_mul]
    omega
theorem szL_le {k : Nat} : ∀ {l : List Pol}, (∀ p ∈ l, szP p ≤ k) → szL l ≤ l.length * k
  | [], _ => Nat.zero_le _
  | p :: l, h => by
    have h1 := h p (by simp)
    have h2 := szL_le (l := l) (fun x hx => h x (by simp [hx]))
    rw [szL, List.length_cons, Nat.add_mul]
    omega
def capP : Nat → Nat
  | 0 => 0
  | d + 1 => 153 + 16 * capP d
theorem sz_cap : ∀ (d : Nat) {p : Pol} {s s' : Seen}, polS d p s = (0, s') → szP p ≤ capP d
  | 0, p, s, s', h => by simp [polS] at h
  | d + 1, p, s, s', h => by
    obtain ⟨_, _, h3, h4, h5, s1, s2, h6, h7⟩ := polE_parts h
    have e1 := ob_eight h3
    have e2 : obR p.rules ≤ p.rules.length * 8 := obR_le fun r hr => by
      obtain ⟨a, b, e⟩ := firsts_all h6 r hr
      exact ob_eight (rule_parts e).2.2
    have e3 : szL p.kids ≤ p.kids.length * capP d := szL_le fun k hk => by
      obtain ⟨a, b, e⟩ := firsts_all h7 k hk
      exact sz_cap d e
    have e4 : p.kids.length * capP d ≤ 16 * capP d := Nat.mul_le_mul_right _ h5
    rw [szP_eq, capP]
    omega
end Go.Proofs.Ytadjfkgnoklmiaa
/- What a policy asks, plainly (chapter 15): P15.1, P15.2 written out; P15.3. -/
namespace Go.Proofs.Ytadjfkgnoklmiaa
set_option linter.unusedVariables false

structure Atm where
  m : Mat
  c : List Nod
def zeroM : Mat := ⟨zeroA, 0, zeroV⟩
theorem Atm.ext' {a b : Atm} (h1 : a.m = b.m) (h2 : a.c = b.c) : a = b := by cases a; cases b; simp_all
instance : DecidableEq Atm := fun a b => if h : a.m = b.m ∧ a.c = b.c then .isTrue (Atm.ext' h.1 h.2) else .isFalse (by rintro rfl; exact h ⟨rfl, rfl⟩)
def matA (m : Mat) : Atm := ⟨m, []⟩
def conA (l : List Nod) : Atm := ⟨zeroM, l⟩
def tgA (t : Tgt) : List Atm := t.flatMap fun o => o.flatMap fun a => a.map matA
def condA (l : List Nod) : List Atm := if l = [] then [] else [conA l]
def rulA (r : Rul) : List Atm := tgA r.tg ++ condA r.cond
mutual
def polA : Pol → List Atm
  | .mk id set alg tg rules kids ob => tgA tg ++ rules.flatMap rulA ++ polsA kids
def polsA : List Pol → List Atm
  | [] => []
  | p :: l => polA p ++ polsA l
end
theorem polsA_map : ∀ l : List Pol, polsA l = l.flatMap polA
  | [] => rfl
  | p :: l => by rw [polsA, polsA_map l]; rfl
theorem polA_eq (p : Pol) : polA p = tgA p.tg ++ p.rules.flatMap rulA ++ p.kids.flatMap polA := by
  obtain ⟨id, set, alg, tg, rules, kids, ob⟩ := p
  show polA (.mk id set alg tg rules kids ob) = tgA tg ++ rules.flatMap rulA ++ kids.flatMap polA
  rw [polA, polsA_map]
def addA (l : List Atm) (a : Atm) : List Atm := if a ∈ l then l else l ++ [a]
def addsA (l m : List Atm) : List Atm := m.foldl addA l
theorem addsA_cons (l : List Atm) (a : Atm) (m : List Atm) : addsA l (a :: m) = addsA (addA l a) m := rfl
theorem addsA_app (l m k : List Atm) : addsA l (m ++ k) = addsA (addsA l m) k := List.foldl_append
theorem mem_addA {l : List Atm} {a x : Atm} : x ∈ addA l a ↔ x ∈ l ∨ x = a := by
  unfold addA
  split
  · rename_i h
    constructor
    · exact .inl
    · rintro (h' | rfl)
      · exact h'
      · exact h
  · simp
theorem mem_addsA {x : Atm} : ∀ (m : List Atm) {l : List Atm}, x ∈ addsA l m ↔ x ∈ l ∨ x ∈ m
  | [], l => by simp [addsA]
  | a :: m, l => by
    rw [addsA_cons, mem_addsA m, mem_addA, List.mem_cons, or_assoc]
theorem addsA_old : ∀ {m l : List Atm}, (∀ x ∈ m, x ∈ l) → addsA l m = l
  | [], l, _ => rfl
  | a :: m, l, h => by
    have e : addA l a = l := by unfold addA; rw [if_pos (h a (by simp))]
    rw [addsA_cons, e]
    exact addsA_old fun x hx => h x (by simp [hx])
theorem nodup_addsA : ∀ (m : List Atm) {l : List Atm}, l.Nodup → (addsA l m).Nodup
  | [], l, h => h
  | a :: m, l, h => by
    rw [addsA_cons]
    refine nodup_addsA m ?_
    unfold addA
    split
    · exact h
    · rename_i hn
      rw [List.nodup_append]
      exact ⟨h, by simp, fun x hx y hy => by rw [List.mem_singleton] at hy; subst hy; rintro rfl; exact hn hx⟩
def atomsP (p : Pol) : List Atm := addsA [] (polA p)
theorem mem_atoms {p : Pol} {x : Atm} : x ∈ atomsP p ↔ x ∈ polA p := by unfold atomsP; rw [mem_addsA]; simp
theorem atoms_nodup (p : Pol) : (atomsP p).Nodup := nodup_addsA _ List.nodup_nil
def findA (l : List Atm) (a : Atm) : Int := if a ∈ l then (l.findIdx (fun x => decide (x = a)) : Int) else -1
theorem mem_tgA {t : Tgt} {o : List (List Mat)} (ho : o ∈ t) {a : List Mat} (ha : a ∈ o) {m : Mat} (hm : m ∈ a) : matA m ∈ tgA t :=
  List.mem_flatMap.2 ⟨o, ho, List.mem_flatMap.2 ⟨a, ha, List.mem_map_of_mem hm⟩⟩
theorem atoms_more (p : Pol) (r : Rul) (hk : p.kids = []) (h : ∀ x ∈ rulA r, x ∈ polA p) : atomsP (.mk p.id p.set p.alg p.tg (p.rules ++ [r]) p.kids p.ob) = atomsP p := by
  have e1 : polA p = tgA p.tg ++ p.rules.flatMap rulA := by rw [polA_eq, hk]; simp
  have e2 : polA (.mk p.id p.set p.alg p.tg (p.rules ++ [r]) p.kids p.ob) = polA p ++ rulA r := by
    rw [polA_eq, e1]
    show tgA p.tg ++ (p.rules ++ [r]).flatMap rulA ++ p.kids.flatMap polA = _
    rw [hk, List.flatMap_append]
    simp
  unfold atomsP
  rw [e2, addsA_app]
  exact addsA_old fun x hx => by
    rw [mem_addsA]
    exact .inr (h x hx)
theorem atoms_kid {p k : Pol} (h : k ∈ p.kids) {x : Atm} (hx : x ∈ atomsP k) : x ∈ atomsP p := by
  rw [mem_atoms] at hx ⊢
  rw [polA_eq]
  exact List.mem_append.2 (.inr (List.mem_flatMap.2 ⟨k, h, hx⟩))
theorem find_no {l : List Atm} {a : Atm} : findA l a < 0 ↔ a ∉ l := by
  unfold findA
  split
  · rename_i h; constructor
    · intro h2; omega
    · intro h2; exact absurd h h2
  · rename_i h; exact ⟨fun _ => h, fun _ => by decide⟩
theorem find_at {l : List Atm} (h : l.Nodup) {i : Nat} {x : Atm} (hx : l[i]? = some x) : findA l x = i := by
  obtain ⟨hi, rfl⟩ := List.getElem?_eq_some_iff.1 hx
  have e : l.findIdx (fun y => decide (y = l[i])) = i := by
    rw [List.findIdx_eq hi]
    refine ⟨by simp, fun j hj => ?_⟩
    rw [decide_eq_false_iff_not]
    intro e
    have := (List.getElem_inj h).1 e
    omega
  unfold findA
  rw [if_pos (List.getElem_mem hi), e]
end Go.Proofs.Ytadjfkgnoklmiaa
/- Rows of the call's own whose elements lead to memory: append. -/
namespace Go.Proofs.Ytadjfkgnoklmiaa
set_option linter.unusedVariables false
open Go.RowKit

def Ow {α : Type} (k : Nat) (P : List Value → α → Prop) (w : World) (base : Nat) (E : TypeId) (A : Option Addr) (n c : Nat) (l : List α) : Prop :=
  ∃ raw : List (List Value), w.ownsRow base E k (.slice A n c) n raw.flatten ∧ raw.length = n ∧ l.length = n ∧ (∀ y ∈ raw, y.length = k) ∧ ∀ (j : Nat) (vs : List Value) (x : α), raw[j]? = some vs → l[j]? = some x → P vs x
section
variable {α : Type} {k : Nat} {P P' : List Value → α → Prop} {w w' : World} {base : Nat} {E : TypeId} {A : Option Addr} {n c : Nat} {l : List α}
theorem Ow.len (h : Ow k P w base E A n c l) : l.length = n := by obtain ⟨_, _, _, h, _⟩ := h; exact h
theorem Ow.made (k : Nat) (P : List Value → α → Prop) (w : World) (E : TypeId) : Ow k P (w.alloc (.cells #[] E)) w.heap.size E (some ⟨w.heap.size, 0, none⟩) 0 0 [] :=
  ⟨[], own_none w E k, rfl, rfl, by simp, by simp⟩
theorem Ow.nil (k : Nat) (P : List Value → α → Prop) (w : World) (base : Nat) (E : TypeId) : Ow k P w base E none 0 0 [] :=
  ⟨[], ⟨by simp, .inl ⟨rfl, rfl⟩⟩, rfl, rfl, by simp, by simp⟩
theorem Ow.mapP (h : Ow k P w base E A n c l) (hP : ∀ vs x, x ∈ l → P vs x → P' vs x) : Ow k P' w base E A n c l := by
  obtain ⟨raw, h1, h2, h3, h4, h5⟩ := h
  exact ⟨raw, h1, h2, h3, h4, fun j vs x a b => hP vs x (List.mem_of_getElem? b) (h5 j vs x a b)⟩
theorem Ow.grown (h : Ow k P w base E A n c l) {row : Option Nat} (hg : w.grownBy w' row) (hne : (Value.slice A n c).ownBlock = none ∨ (Value.slice A n c).ownBlock ≠ row) : Ow k P w' base E A n c l := by
  obtain ⟨raw, h1, h2, h3, h4, h5⟩ := h
  exact ⟨raw, h1.kept (row := row) hg hne, h2, h3, h4, h5⟩
theorem Ow.below (h : Ow k P w base E A n c l) (hb : Below w.heap.size w w') : Ow k P w' base E A n c l := by
  refine h.grown (row := none) ⟨hb.os, hb.tape, hb.output, hb.size, fun k hk _ => hb.block k hk⟩ ?_
  by_cases hv : (Value.slice A n c).ownBlock = none
  · exact .inl hv
  · exact .inr hv
theorem Ow.alloc (h : Ow k P w base E A n c l) (o : Obj) : Ow k P (w.alloc o) base E A n c l := h.below ((Below.refl _ _).alloc (Nat.le_refl _) _)
theorem Ow.rw {R : Nat → Prop} (h : Ow k P w base E A n c l) (hbig : n ≤ 140737488351232) (hR : ∀ ad, A = some ad → base ≤ ad.block → R ad.block) : Rw k P w R A n c l := by
  obtain ⟨raw, h1, h2, h3, h4, h5⟩ := h
  exact Rw.of_own h1 hbig h2 h3 h4 h5 hR
theorem Ow.app {Pg : Program} {T : TypeId} {i : TypeInfo} {z : Value} {by_ : Nat} (ht : Pg.underlying T = some (.slice E)) (hi : Pg.info? E = some i) (hz : i.zero = some z) (hs : i.size = k) (hb : i.bytes = by_) (hzs : z.cells.size = k) (hk : 0 < k) (hby : by_ ≤ 1000)
    {m c2 ty : Nat} {A2 : Option Addr} {R : Nat → Prop} {ys : List α} (h : Ow k P w base E A n c l) (hy : Rw k P w R A2 m c2 ys) (h1 : ∀ vs x, P vs x → ∀ v ∈ vs, v.oneCell' = true) (hn : n + m ≤ 1000000) (hbase : base ≤ w.heap.size) :
    ∃ A' c' w', (Builtin.append_ #[T, T] ty #[.slice A n c, .slice A2 m c2]).run Pg w = .ok (.slice A' (n + m) c') w' ∧ Ow k P w' base E A' (n + m) c' (l ++ ys) ∧ Below base w w' ∧ w.grownBy w' (Value.slice A n c).ownBlock ∧
      ((Value.slice A' (n + m) c').ownBlock = (Value.slice A n c).ownBlock ∨ (Value.slice A' (n + m) c').ownBlock = some w.heap.size) := by
  obtain ⟨raw, o1, o2, o3, o4, o5⟩ := h
  obtain ⟨raw2, r1, r2, r3, r4⟩ := hy.fl hk h1
  obtain ⟨A', c', w', hrun, hown, hbel, hg, ha⟩ := append_rows (ty := ty) (c2 := c2) ht hi hz hs hb hzs hk hby o1 r4 hn hbase
  refine ⟨A', c', w', hrun, ⟨raw ++ raw2, by rw [List.flatten_append]; exact hown, by rw [List.length_append, o2, r1], by rw [List.length_append, o3, hy.1], fun y hy => (List.mem_append.1 hy).elim (o4 y) (r2 y), fun j vs x a b => ?_⟩, hbel, hg, ha⟩
  by_cases hj : j < n
  · rw [List.getElem?_append_left (by omega)] at a b
    exact o5 j vs x a b
  · rw [List.getElem?_append_right (by omega)] at a b
    rw [o2] at a
    rw [o3] at b
    exact r3 (j - n) vs x a b
end

def AlP (w : World) (R : Nat → Prop) (vs : List Value) (l : List Mat) : Prop := ∃ A n c, vs = [.slice A n c] ∧ Ms w R A n c l
def AnP (w : World) (R : Nat → Prop) (vs : List Value) (l : List (List Mat)) : Prop := ∃ A n c, vs = [.slice A n c] ∧ Als w R A n c l
theorem AlP.one {w : World} {R : Nat → Prop} (vs : List Value) (l : List Mat) (h : AlP w R vs l) : ∀ v ∈ vs, v.oneCell' = true := by
  obtain ⟨A, n, c, rfl, _⟩ := h
  intro v hv
  simp at hv
  subst hv
  rfl
theorem AnP.one {w : World} {R : Nat → Prop} (vs : List Value) (l : List (List Mat)) (h : AnP w R vs l) : ∀ v ∈ vs, v.oneCell' = true := by
  obtain ⟨A, n, c, rfl, _⟩ := h
  intro v hv
  simp at hv
  subst hv
  rfl
theorem AnP.keep {w w' : World} {R R' : Nat → Prop} {vs : List Value} {l : List (List Mat)} (h : AnP w R vs l) (hk : Kept R w w') (hR : ∀ b, R b → b < w.heap.size → R' b) : AnP w' R' vs l := by
  obtain ⟨A, n, c, e, h⟩ := h
  exact ⟨A, n, c, e, h.keep hk hR⟩
theorem AlP.keep {w w' : World} {R R' : Nat → Prop} {vs : List Value} {l : List Mat} (h : AlP w R vs l) (hk : Kept R w w') (hR : ∀ b, R b → b < w.heap.size → R' b) : AlP w' R' vs l := by
  obtain ⟨A, n, c, e, h⟩ := h
  exact ⟨A, n, c, e, h.keep hk hR⟩
theorem s1info : (Try.prog.info? 80).map (fun i => (i.zero, i.size, i.bytes)) = some (some (.slice none 0 0), 1, 24) := by kernel_rfl
theorem s0info : (Try.prog.info? 81).map (fun i => (i.zero, i.size, i.bytes)) = some (some (.slice none 0 0), 1, 24) := by kernel_rfl
end Go.Proofs.Ytadjfkgnoklmiaa
/- Rows of the call's own that grow by one, whose elements lead to memory apart from the row itself. -/
namespace Go.Proofs.Ytadjfkgnoklmiaa
set_option linter.unusedVariables false
open Go.RowKit

def Nb (base : Nat) (v : Value) (b : Nat) : Prop := base ≤ b ∧ some b ≠ v.ownBlock
def Keeps {α : Type} (P : World → (Nat → Prop) → List Value → α → Prop) : Prop :=
  ∀ (w w' : World) (R R' : Nat → Prop) vs x, P w R vs x → Kept R w w' → (∀ b, R b → b < w.heap.size → R' b) → P w' R' vs x
def Gr {α : Type} (k : Nat) (P : World → (Nat → Prop) → List Value → α → Prop) (w : World) (base : Nat) (E : TypeId) (A : Option Addr) (n c : Nat) (l : List α) : Prop :=
  Ow k (P w (Nb base (.slice A n c))) w base E A n c l ∧ base ≤ w.heap.size

section
variable {α : Type} {k : Nat} {P : World → (Nat → Prop) → List Value → α → Prop} {w w' : World} {base : Nat} {E : TypeId} {A : Option Addr} {n c : Nat} {l : List α}
theorem Ow.lt {P : List Value → α → Prop} (h : Ow k P w base E A n c l) : ∀ b, (Value.slice A n c).ownBlock = some b → base ≤ b ∧ b < w.heap.size := by
  obtain ⟨raw, h1, _⟩ := h
  exact h1.lt
theorem Gr.nil (w : World) (base : Nat) (hb : base ≤ w.heap.size) : Gr k P w base E none 0 0 [] := ⟨Ow.nil _ _ _ _ _, hb⟩
theorem Gr.len (h : Gr k P w base E A n c l) : l.length = n := h.1.len
theorem Gr.below (hP : Keeps P) (h : Gr k P w base E A n c l) (hb : Below w.heap.size w w') : Gr k P w' base E A n c l :=
  ⟨(h.1.mapP (fun vs x _ hp => hP _ _ _ _ vs x hp (Kept.all hb _) (fun _ h _ => h))).below hb, Nat.le_trans h.2 hb.size⟩
theorem Gr.rw (hP : Keeps P) (h : Gr k P w base E A n c l) (hbig : n ≤ 140737488351232) : Rw k (P w (fun b => base ≤ b)) w (fun b => base ≤ b) A n c l :=
  (h.1.mapP (fun vs x _ hp => hP _ _ _ (fun b => base ≤ b) vs x hp (Kept.refl _ _) (fun _ h _ => h.1))).rw hbig (fun _ _ h => h)
theorem Gr.push {Pg : Program} {T : TypeId} {i : TypeInfo} {z : Value} {by_ : Nat} (ht : Pg.underlying T = some (.slice E)) (hi : Pg.info? E = some i) (hz : i.zero = some z) (hs : i.size = k) (hb : i.bytes = by_) (hzs : z.cells.size = k) (hk : 0 < k) (hby : by_ ≤ 1000)
    {ty : Nat} {vs : List Value} {x : α} (hP : Keeps P) (h : Gr k P w base E A n c l) (hx : P w (Nb base (.slice A n c)) vs x) (hl : vs.length = k) (h1 : ∀ w R vs (x : α), P w R vs x → ∀ v ∈ vs, v.oneCell' = true) (hn : n < 1000000) :
    ∃ A' c' w', (Builtin.append_ #[T, T] ty #[.slice A n c, .slice (some ⟨w.heap.size, 0, none⟩) 1 1]).run Pg (w.alloc (.cells vs.toArray E)) = .ok (.slice A' (n + 1) c') w' ∧ Gr k P w' base E A' (n + 1) c' (l ++ [x]) ∧ Below base w w' := by
  have hbase := h.2
  have a1 : Below w.heap.size w (w.alloc (.cells vs.toArray E)) := (Below.refl _ _).alloc (Nat.le_refl _) _
  have h' := Gr.below hP h a1
  have hlit : Rw k (P (w.alloc (.cells vs.toArray E)) (Nb base (.slice A n c))) (w.alloc (.cells vs.toArray E)) (fun _ => True) (some ⟨w.heap.size, 0, none⟩) 1 1 [x] := by
    have := Rw.lit (P := P (w.alloc (.cells vs.toArray E)) (Nb base (.slice A n c))) (R := fun _ => True) w E (fun _ => vs) [x] (n := 1) rfl (by omega) trivial (fun _ _ => hl) (fun y hy => by simp at hy; subst hy; exact hP _ _ _ _ _ _ hx (Kept.all a1 _) (fun _ h _ => h))
    simpa using this
  obtain ⟨A', c', w', hrun, hown, hbel, hg, hob⟩ := Ow.app (ty := ty) ht hi hz hs hb hzs hk hby h'.1 hlit (h1 _ _) (by omega) h'.2
  refine ⟨A', c', w', hrun, ⟨hown.mapP fun vs x _ hp => hP _ _ _ _ vs x hp ⟨hg.size, fun b hR hlt => hg.block b hlt hR.2⟩ (fun b hR hlt => ⟨hR.1, ?_⟩), Nat.le_trans h'.2 hbel.size⟩, (a1.mono hbase).trans hbel⟩
  rcases hob with e | e
  · rw [e]; exact hR.2
  · rw [e]
    intro he
    injection he with he
    omega
end
theorem keeps_alp : Keeps AlP := fun _ _ _ _ _ _ h hk hR => h.keep hk hR
theorem keeps_anp : Keeps AnP := fun _ _ _ _ _ _ h hk hR => h.keep hk hR
theorem keeps_rul : Keeps RulAt := fun _ _ _ _ _ _ h hk hR => h.keep hk hR
theorem keeps_pol (d : Nat) : Keeps (fun w R => PolAt w R d) := fun _ _ _ _ _ _ h hk hR => PolAt.keep hk hR h
theorem matinfo : (Try.prog.info? 39).map (fun i => (i.zero, i.size, i.bytes)) = some (some (.agg #[.int .i64 0, .string ⟨#[]⟩, .bool false, .int .i64 0, .int .i64 0, .int .i64 0, .string ⟨#[]⟩]), 7, 72) := by kernel_rfl
theorem copy_mats {w : World} {R : Nat → Prop} {A0 : Option Addr} {p0 c0 : Nat} {L0 : List Mat} (h0 : Ms w R A0 p0 c0 L0) (h : p0 ≤ 1000000) :
    ∃ A5 c5 w5, (Builtin.append_ #[81, 81] 81 #[.slice (some ⟨w.heap.size, 0, none⟩) 0 0, .slice A0 p0 c0]).run Try.prog (w.alloc (.cells #[] 39)) = .ok (.slice A5 p0 c5) w5 ∧ Below w.heap.size w w5 ∧ Ms w5 (fun b => w.heap.size ≤ b) A5 p0 c5 L0 := by
  have e1 : Below w.heap.size w (w.alloc (.cells #[] 39)) := (Below.refl _ _).alloc (Nat.le_refl _) _
  obtain ⟨i, hi, hz, hs, hb⟩ := info_of matinfo
  obtain ⟨A5, c5, w5, r5, o5, b5, _, _⟩ := append_rows (ty := 81) (c2 := c0) (m := p0) Try.underlying81 hi hz hs hb rfl (by omega) (by omega) (own_none w 39 7) (Ms.fl (h0.keep (Kept.all e1 R) (fun _ h _ => h))) (by omega) e1.size
  rw [Nat.zero_add] at r5 o5
  refine ⟨A5, c5, w5, r5, e1.trans b5, ?_⟩
  exact Rw.flat_own o5 (by omega) (Rw.len h0) (fun _ => rfl) (Rw.all h0) (fun _ _ h => h)
theorem push_all {w : World} {base n c : Nat} {A : Option Addr} {l : List (List Mat)} {A1 : Option Addr} {n1 c1 : Nat} {x : List Mat} (h : Gr 1 AlP w base 81 A n c l) (hx : Ms w (Nb base (.slice A n c)) A1 n1 c1 x) (hn : n < 1000000) :
    ∃ A' c' w', (Builtin.append_ #[80, 80] 80 #[.slice A n c, .slice (some ⟨w.heap.size, 0, none⟩) 1 1]).run Try.prog (w.alloc (.cells #[.slice A1 n1 c1] 81)) = .ok (.slice A' (n + 1) c') w' ∧ Gr 1 AlP w' base 81 A' (n + 1) c' (l ++ [x]) ∧ Below base w w' := by
  obtain ⟨i, hi, hz, hs, hb⟩ := info_of s0info
  exact Gr.push (vs := [.slice A1 n1 c1]) (x := x) Try.underlying80 hi hz hs hb rfl (by omega) (by omega) keeps_alp h ⟨A1, n1, c1, rfl, hx⟩ rfl (fun _ _ _ _ => AlP.one _ _) hn
theorem push_any {w : World} {base n c : Nat} {A : Option Addr} {l : Tgt} {A1 : Option Addr} {n1 c1 : Nat} {x : List (List Mat)} (h : Gr 1 AnP w base 80 A n c l) (hx : Als w (Nb base (.slice A n c)) A1 n1 c1 x) (hn : n < 1000000) :
    ∃ A' c' w', (Builtin.append_ #[27, 27] 27 #[.slice A n c, .slice (some ⟨w.heap.size, 0, none⟩) 1 1]).run Try.prog (w.alloc (.cells #[.slice A1 n1 c1] 80)) = .ok (.slice A' (n + 1) c') w' ∧ Gr 1 AnP w' base 80 A' (n + 1) c' (l ++ [x]) ∧ Below base w w' := by
  obtain ⟨i, hi, hz, hs, hb⟩ := info_of s1info
  exact Gr.push (vs := [.slice A1 n1 c1]) (x := x) Try.underlying27 hi hz hs hb rfl (by omega) (by omega) keeps_anp h ⟨A1, n1, c1, rfl, hx⟩ rfl (fun _ _ _ _ => AnP.one _ _) hn
theorem Gr.apart {α : Type} {k : Nat} {P : World → (Nat → Prop) → List Value → α → Prop} {w : World} {base : Nat} {E : TypeId} {A : Option Addr} {n c : Nat} {l : List α} (h : Gr k P w base E A n c l) : ∀ b, w.heap.size ≤ b → Nb base (.slice A n c) b := fun b hb => by
  refine ⟨Nat.le_trans h.2 hb, fun e => ?_⟩
  have := (h.1.lt b e.symm).2
  omega
theorem own_ob {V : World} {E : TypeId} {k g base : Nat} (h : Ob V g E #[]) (hb : base ≤ g) : V.ownsRow base E k (.slice (some ⟨g, 0, none⟩) 0 0) 0 [] :=
  ⟨by simp, .inr ⟨g, 0, #[], rfl, hb, h, Nat.le_refl _, by simp [maxLen], by simp, by simp⟩⟩
theorem copy_duts_at {V : World} {R : Nat → Prop} {A0 : Option Addr} {p0 c0 g : Nat} {L0 : List Dut} (hg : Ob V g 105 #[]) (h0 : Dus V R A0 p0 c0 L0) (h : p0 ≤ 1000000) (hlt : g ≤ V.heap.size) :
    ∃ A5 c5 w5, (Builtin.append_ #[30, 30] 30 #[.slice (some ⟨g, 0, none⟩) 0 0, .slice A0 p0 c0]).run Try.prog V = .ok (.slice A5 p0 c5) w5 ∧ Below g V w5 ∧ Dus w5 (fun b => b = g ∨ b = V.heap.size) A5 p0 c5 L0 ∧ Kept (fun b => b ≠ g) V w5 := by
  obtain ⟨A5, c5, w5, r5, o5, b5, g5, t5⟩ := append_duts (ty := 30) (xs := []) (own_ob hg (Nat.le_refl g)) h0 (by omega) hlt
  rw [Nat.zero_add] at r5 o5
  exact ⟨A5, c5, w5, r5, b5, Rw.flat_own o5 (by omega) (Rw.len h0) (fun _ => rfl) (Rw.all h0) (fun ad e _ => by subst e; exact t5.elim (fun h => .inl (by injection h)) (fun h => .inr (by injection h))), g5.size, fun b hb hlt => g5.block b hlt (fun e => hb (by injection e))⟩
theorem copy_nods_at {V : World} {R : Nat → Prop} {A0 : Option Addr} {p0 c0 g : Nat} {L0 : List Nod} (hg : Ob V g 41 #[]) (h0 : Nds V R A0 p0 c0 L0) (h : p0 ≤ 1000000) (hlt : g ≤ V.heap.size) :
    ∃ A5 c5 w5, (Builtin.append_ #[42, 42] 42 #[.slice (some ⟨g, 0, none⟩) 0 0, .slice A0 p0 c0]).run Try.prog V = .ok (.slice A5 p0 c5) w5 ∧ Below g V w5 ∧ Nds w5 (fun b => b = g ∨ b = V.heap.size) A5 p0 c5 L0 ∧ Kept (fun b => b ≠ g) V w5 := by
  obtain ⟨A5, c5, w5, r5, o5, b5, g5, t5⟩ := append_nods (ty := 42) (xs := []) (own_ob hg (Nat.le_refl g)) h0 (by omega) hlt
  rw [Nat.zero_add] at r5 o5
  exact ⟨A5, c5, w5, r5, b5, Rw.flat_own o5 (by omega) (Rw.len h0) (fun _ => rfl) (Rw.all h0) (fun ad e _ => by subst e; exact t5.elim (fun h => .inl (by injection h)) (fun h => .inr (by injection h))), g5.size, fun b hb hlt => g5.block b hlt (fun e => hb (by injection e))⟩
end Go.Proofs.Ytadjfkgnoklmiaa
/- Rows of rules and of policies that grow; a policy that is returned. -/
namespace Go.Proofs.Ytadjfkgnoklmiaa
set_option linter.unusedVariables false
open Go.RowKit

theorem ruleinfo : (Try.prog.info? 51).map (fun i => (i.zero, i.size, i.bytes)) = some (some (.agg #[.string ⟨#[]⟩, .bool false, .slice none 0 0, .slice none 0 0, .slice none 0 0]), 5, 96) := by kernel_rfl
theorem RulAt.one (w : World) (R : Nat → Prop) (vs : List Value) (r : Rul) (h : RulAt w R vs r) : ∀ v ∈ vs, v.oneCell' = true := by
  obtain ⟨A1, n1, c1, A2, n2, c2, A3, n3, c3, rfl, _⟩ := h
  intro v hv
  simp at hv
  rcases hv with rfl | rfl | rfl | rfl | rfl <;> rfl
theorem push_rule {w : World} {base n c : Nat} {A : Option Addr} {l : List Rul} {r : Rul} {A1 A2 A3 : Option Addr} {n1 n2 n3 c1 c2 c3 : Nat} (h : Gr 5 RulAt w base 51 A n c l) (h0 : r.id.size ≤ maxLen)
    (h1 : Tg w (Nb base (.slice A n c)) A1 n1 c1 r.tg) (h2 : Nds w (Nb base (.slice A n c)) A2 n2 c2 r.cond) (h3 : Dus w (Nb base (.slice A n c)) A3 n3 c3 r.ob) (hn : n < 1000000) :
    ∃ A' c' w', (Builtin.append_ #[28, 28] 28 #[.slice A n c, .slice (some ⟨w.heap.size, 0, none⟩) 1 1]).run Try.prog (w.alloc (.cells #[.string r.id, .bool r.deny, .slice A1 n1 c1, .slice A2 n2 c2, .slice A3 n3 c3] 51)) = .ok (.slice A' (n + 1) c') w' ∧ Gr 5 RulAt w' base 51 A' (n + 1) c' (l ++ [r]) ∧ Below base w w' := by
  obtain ⟨i, hi, hz, hs, hb⟩ := info_of ruleinfo
  exact Gr.push (vs := [.string r.id, .bool r.deny, .slice A1 n1 c1, .slice A2 n2 c2, .slice A3 n3 c3]) (x := r) Try.underlying28 hi hz hs hb rfl (by omega) (by omega) keeps_rul h ⟨A1, n1, c1, A2, n2, c2, A3, n3, c3, rfl, h0, h1, h2, h3⟩ rfl RulAt.one hn
theorem Kept.below_ {R R' : Nat → Prop} {w w' : World} (h : Kept R w w') (hR : ∀ b, R' b → R b) : Kept R' w w' := ⟨h.1, fun b hb hlt => h.2 b (hR b hb) hlt⟩
theorem polinfo : (Try.prog.info? 32).map (fun i => (i.zero, i.size, i.bytes)) = some (some (.agg #[.string ⟨#[]⟩, .bool false, .int .i64 0, .slice none 0 0, .slice none 0 0, .slice none 0 0, .slice none 0 0]), 7, 128) := by kernel_rfl
theorem PolAt.one {d : Nat} (w : World) (R : Nat → Prop) (vs : List Value) (r : Pol) (h : PolAt w R d vs r) : ∀ v ∈ vs, v.oneCell' = true := by
  match d, h with
  | d + 1, h =>
    obtain ⟨A1, n1, c1, A2, n2, c2, A3, n3, c3, A4, n4, c4, rfl, _⟩ := h
    intro v hv
    simp at hv
    rcases hv with rfl | rfl | rfl | rfl | rfl | rfl | rfl <;> rfl
theorem push_pol {w : World} {base n c d : Nat} {A : Option Addr} {l : List Pol} {p : Pol} {A1 A2 A3 A4 : Option Addr} {n1 n2 n3 n4 c1 c2 c3 c4 : Nat} (h : Gr 7 (fun w R => PolAt w R d) w base 32 A n c l)
    (hp : PolAt w (Nb base (.slice A n c)) d [.string p.id, .bool p.set, .int .i64 p.alg, .slice A1 n1 c1, .slice A2 n2 c2, .slice A3 n3 c3, .slice A4 n4 c4] p) (hn : n < 1000000) :
    ∃ A' c' w', (Builtin.append_ #[29, 29] 29 #[.slice A n c, .slice (some ⟨w.heap.size, 0, none⟩) 1 1]).run Try.prog (w.alloc (.cells #[.string p.id, .bool p.set, .int .i64 p.alg, .slice A1 n1 c1, .slice A2 n2 c2, .slice A3 n3 c3, .slice A4 n4 c4] 32)) = .ok (.slice A' (n + 1) c') w' ∧ Gr 7 (fun w R => PolAt w R d) w' base 32 A' (n + 1) c' (l ++ [p]) ∧ Below base w w' := by
  obtain ⟨i, hi, hz, hs, hb⟩ := info_of polinfo
  exact Gr.push (vs := [.string p.id, .bool p.set, .int .i64 p.alg, .slice A1 n1 c1, .slice A2 n2 c2, .slice A3 n3 c3, .slice A4 n4 c4]) (x := p) Try.underlying29 hi hz hs hb rfl (by omega) (by omega) (keeps_pol d) h hp rfl (fun w R vs x h => PolAt.one w R vs x h) hn
theorem Only.kept9 {g : Nat} {w w' : World} (h : Only g w w') {R : Nat → Prop} (hR : ∀ b, R b → b ≠ g) : Kept R w w' := ⟨h.size, fun b hb hl => h.heap hl (hR b hb)⟩
theorem Only.grown {g : Nat} {w w' : World} (o : Only g w w') : w.grownBy w' (some g) := o
theorem Ow.only {α : Type} {k : Nat} {P : List Value → α → Prop} {w w' : World} {base g : Nat} {E : TypeId} {A : Option Addr} {n c : Nat} {l : List α} (h : Ow k P w base E A n c l) (o : Only g w w') (hg : g < base) : Ow k P w' base E A n c l :=
  h.grown o.grown (.inr (fun e => by have := (h.lt g e).1; omega))
theorem Gr.only {α : Type} {k : Nat} {P : World → (Nat → Prop) → List Value → α → Prop} {w w' : World} {base g : Nat} {E : TypeId} {A : Option Addr} {n c : Nat} {l : List α} (hP : Keeps P) (h : Gr k P w base E A n c l) (o : Only g w w') (hg : g < base) : Gr k P w' base E A n c l :=
  ⟨(h.1.mapP (fun vs x _ hp => hP _ _ _ _ vs x hp (o.kept9 (fun b hb => by have := hb.1; omega)) (fun _ h _ => h))).only o hg, Nat.le_trans h.2 o.size⟩
theorem pol_ret {fn : Func} {t : Tmp} {tmps : Array Value} {w : World} {g : Nat} {s : ByteArray} {b : Bool} {a : Int} {A1 A2 A3 A4 : Option Addr} {n1 n2 n3 n4 c1 c2 c3 c4 : Nat} (h : fn.results = #[.cell t 32]) (hp : tmps.getD t undef = .pointer (some ⟨g, 0, none⟩))
    (hg : Ob w g 32 #[.string s, .bool b, .int .i64 a, .slice A1 n1 c1, .slice A2 n2 c2, .slice A3 n3 c3, .slice A4 n4 c4]) :
    (results fn tmps).run Try.prog w = .ok (.agg #[.string s, .bool b, .int .i64 a, .slice A1 n1 c1, .slice A2 n2 c2, .slice A3 n3 c3, .slice A4 n4 c4]) w :=
  results_cell_row h tmps w g _ _ (0, 0) _ hp hg Try.underlying32 rfl (by kernel_rfl)
end Go.Proofs.Ytadjfkgnoklmiaa
/- Atoms in memory; a row of the call's own that grows, and all else that stands. -/
namespace Go.Proofs.Ytadjfkgnoklmiaa
set_option linter.unusedVariables false
open Go.RowKit

def AtmAt (w : World) (R : Nat → Prop) (vs : List Value) (a : Atm) : Prop :=
  ∃ A n c, vs = [.int .i64 a.m.a.cat, .string a.m.a.name, .bool a.m.a.must, .int .i64 a.m.op, .int .i64 a.m.v.k, .int .i64 a.m.v.n, .string a.m.v.s, .slice A n c] ∧ a.m.ok ∧ Nds w R A n c a.c
def Ats (w : World) (R : Nat → Prop) := Rw 8 (AtmAt w R) w R
section
variable {w w' : World} {R R' : Nat → Prop} {A : Option Addr} {n c : Nat}
theorem AtmAt.keep {vs : List Value} {a : Atm} (h : AtmAt w R vs a) (hk : Kept R w w') (hR : ∀ b, R b → b < w.heap.size → R' b) : AtmAt w' R' vs a := by
  obtain ⟨A, n, c, e, h0, h1⟩ := h
  exact ⟨A, n, c, e, h0, h1.keep hk hR⟩
theorem keeps_atm : Keeps AtmAt := fun _ _ _ _ _ _ h hk hR => h.keep hk hR
theorem Ats.keep {l : List Atm} (h : Ats w R A n c l) (hk : Kept R w w') (hR : ∀ b, R b → b < w.heap.size → R' b) : Ats w' R' A n c l := Rw.keep h hk hR fun _ _ _ h => h.keep hk hR
theorem AtmAt.one {w : World} {R : Nat → Prop} (vs : List Value) (a : Atm) (h : AtmAt w R vs a) : ∀ v ∈ vs, v.oneCell' = true := by
  obtain ⟨A, n, c, rfl, _⟩ := h
  intro v hv
  simp at hv
  rcases hv with rfl | rfl | rfl | rfl | rfl | rfl | rfl | rfl <;> rfl
theorem Ats.at_ {l : List Atm} (h : Ats w R A n c l) {j : Nat} (hj : j < n) : ∃ b o a A' n' c', A = some ⟨b, o, none⟩ ∧ R b ∧ b < w.heap.size ∧ l[j]? = some a ∧ a.m.ok ∧
    (w.cell? ⟨b, o + j * 8, none⟩ = some (.int .i64 a.m.a.cat) ∧ w.cell? ⟨b, o + j * 8 + 1, none⟩ = some (.string a.m.a.name) ∧ w.cell? ⟨b, o + j * 8 + 2, none⟩ = some (.bool a.m.a.must) ∧ w.cell? ⟨b, o + j * 8 + 3, none⟩ = some (.int .i64 a.m.op) ∧
      w.cell? ⟨b, o + j * 8 + 4, none⟩ = some (.int .i64 a.m.v.k) ∧ w.cell? ⟨b, o + j * 8 + 5, none⟩ = some (.int .i64 a.m.v.n) ∧ w.cell? ⟨b, o + j * 8 + 6, none⟩ = some (.string a.m.v.s) ∧ w.cell? ⟨b, o + j * 8 + 7, none⟩ = some (.slice A' n' c')) ∧
    Nds w R A' n' c' a.c := by
  obtain ⟨b, o, a, vs, e, hb, hlt, hm, hl, hv, A', n', c', rfl, hok, hin⟩ := Rw.at_ h hj
  exact ⟨b, o, a, A', n', c', e, hb, hlt, hm, hok, ⟨hv 0 _ rfl, hv 1 _ rfl, hv 2 _ rfl, hv 3 _ rfl, hv 4 _ rfl, hv 5 _ rfl, hv 6 _ rfl, hv 7 _ rfl⟩, hin⟩
end
theorem atminfo : (Try.prog.info? 45).map (fun i => (i.zero, i.size, i.bytes)) = some (some (.agg #[.int .i64 0, .string ⟨#[]⟩, .bool false, .int .i64 0, .int .i64 0, .int .i64 0, .string ⟨#[]⟩, .slice none 0 0]), 8, 96) := by kernel_rfl

def Grew (v v' : Value) (w w' : World) : Prop := w.grownBy w' v.ownBlock ∧ (v'.ownBlock = v.ownBlock ∨ ∃ b, v'.ownBlock = some b ∧ w.heap.size ≤ b)
section
variable {v v' v'' : Value} {w w' w'' : World}
theorem Grew.of_below (h : Below w.heap.size w w') (v : Value) : Grew v v w w' := ⟨⟨h.os, h.tape, h.output, h.size, fun k hk _ => h.block k hk⟩, .inl rfl⟩
theorem Grew.refl (v : Value) (w : World) : Grew v v w w := Grew.of_below (Below.refl _ _) v
theorem Grew.size (h : Grew v v' w w') : w.heap.size ≤ w'.heap.size := h.1.size
theorem Grew.other (h : Grew v v' w w') {k : Nat} (hk : k < w.heap.size) (hne : some k ≠ v.ownBlock) : some k ≠ v'.ownBlock := by
  rcases h.2 with e | ⟨b, e, hb⟩
  · rw [e]; exact hne
  · rw [e]; intro h; injection h with h; omega
theorem Grew.trans (h : Grew v v' w w') (k : Grew v' v'' w' w'') : Grew v v'' w w'' := by
  refine ⟨⟨k.1.os.trans h.1.os, k.1.tape.trans h.1.tape, k.1.output.trans h.1.output, Nat.le_trans h.size k.size, fun i hi hn => (k.1.block i (Nat.lt_of_lt_of_le hi h.size) (h.other hi hn)).trans (h.1.block i hi hn)⟩, ?_⟩
  rcases k.2 with e | ⟨b, e, hb⟩
  · rw [e]; exact h.2
  · exact .inr ⟨b, e, Nat.le_trans h.size hb⟩
theorem Grew.ob {g : Nat} {t : TypeId} {cs : Array Value} (h : Grew v v' w w') (o : Ob w g t cs) (hne : some g ≠ v.ownBlock) : Ob w' g t cs := o.keep (h.1.block g o.lt hne)
theorem Grew.kept {R : Nat → Prop} (h : Grew v v' w w') (hR : ∀ b, R b → some b ≠ v.ownBlock) : Kept R w w' := ⟨h.size, fun b hb hlt => h.1.block b hlt (hR b hb)⟩
end
theorem push_atm {w : World} {base n c : Nat} {A : Option Addr} {l : List Atm} {A1 : Option Addr} {n1 c1 : Nat} {x : Atm} (h : Gr 8 AtmAt w base 45 A n c l) (hok : x.m.ok) (hx : Nds w (Nb base (.slice A n c)) A1 n1 c1 x.c) (hn : n < 1000000) :
    ∃ A' c' w', (Builtin.append_ #[22, 22] 22 #[.slice A n c, .slice (some ⟨w.heap.size, 0, none⟩) 1 1]).run Try.prog (w.alloc (.cells #[.int .i64 x.m.a.cat, .string x.m.a.name, .bool x.m.a.must, .int .i64 x.m.op, .int .i64 x.m.v.k, .int .i64 x.m.v.n, .string x.m.v.s, .slice A1 n1 c1] 45)) = .ok (.slice A' (n + 1) c') w' ∧
      Gr 8 AtmAt w' base 45 A' (n + 1) c' (l ++ [x]) ∧ Grew (.slice A n c) (.slice A' (n + 1) c') w w' := by
  obtain ⟨i, hi, hz, hs, hb⟩ := info_of atminfo
  have hbase := h.2
  obtain ⟨vs, hvs⟩ : ∃ vs : List Value, vs = [.int .i64 x.m.a.cat, .string x.m.a.name, .bool x.m.a.must, .int .i64 x.m.op, .int .i64 x.m.v.k, .int .i64 x.m.v.n, .string x.m.v.s, .slice A1 n1 c1] := ⟨_, rfl⟩
  have hcs : (#[.int .i64 x.m.a.cat, .string x.m.a.name, .bool x.m.a.must, .int .i64 x.m.op, .int .i64 x.m.v.k, .int .i64 x.m.v.n, .string x.m.v.s, .slice A1 n1 c1] : Array Value) = vs.toArray := by rw [hvs]
  have hP : AtmAt w (Nb base (.slice A n c)) vs x := ⟨A1, n1, c1, hvs, hok, hx⟩
  have hl : vs.length = 8 := by rw [hvs]; rfl
  rw [hcs]
  clear hcs hvs
  have a1 : Below w.heap.size w (w.alloc (.cells vs.toArray 45)) := (Below.refl _ _).alloc (Nat.le_refl _) _
  have h' := Gr.below keeps_atm h a1
  have hlit : Rw 8 (AtmAt (w.alloc (.cells vs.toArray 45)) (Nb base (.slice A n c))) (w.alloc (.cells vs.toArray 45)) (fun _ => True) (some ⟨w.heap.size, 0, none⟩) 1 1 [x] := by
    have := Rw.lit (P := AtmAt (w.alloc (.cells vs.toArray 45)) (Nb base (.slice A n c))) (R := fun _ => True) w 45 (fun _ => vs) [x] (n := 1) rfl (by omega) trivial (fun _ _ => hl) (fun y hy => by simp at hy; subst hy; exact keeps_atm _ _ _ _ _ _ hP (Kept.all a1 _) (fun _ h _ => h))
    simpa using this
  obtain ⟨A', c', w', hrun, hown, hbel, hg, hob⟩ := Ow.app (ty := 22) Try.underlying22 hi hz hs hb rfl (by omega) (by omega) h'.1 hlit (fun vs x h => AtmAt.one vs x h) (by omega) h'.2
  refine ⟨A', c', w', hrun, ⟨hown.mapP fun vs x _ hp => hp.keep ⟨hg.size, fun b hR hlt => hg.block b hlt hR.2⟩ (fun b hR hlt => ⟨hR.1, ?_⟩), Nat.le_trans h'.2 hbel.size⟩, ?_⟩
  · rcases hob with e | e
    · rw [e]; exact hR.2
    · rw [e]
      intro he
      injection he with he
      omega
  · refine (Grew.of_below a1 (.slice A n c)).trans ⟨hg, ?_⟩
    rcases hob with e | e
    · exact .inl e
    · exact .inr ⟨_, e, Nat.le_refl _⟩
theorem Gr.below_own {α : Type} {k : Nat} {P : World → (Nat → Prop) → List Value → α → Prop} {w : World} {base : Nat} {E : TypeId} {A : Option Addr} {n c : Nat} {l : List α} (h : Gr k P w base E A n c l) {b : Nat} (hb : b < base ∨ w.heap.size ≤ b) : some b ≠ (Value.slice A n c).ownBlock := fun e => by
  have := h.1.lt b e.symm
  omega
end Go.Proofs.Ytadjfkgnoklmiaa
/- A region that draws its order: its head, in whatever order, under a condition on the world (loads that it tells are taken first); and a forced tail, that may break the condition. -/
namespace Go.Proofs.Ytadjfkgnoklmiaa
open Go Go.RowKit

section
variable {P : Program} {ops : Array Oper} {md : Region.Mode} {Q : Exit → Act → World → Prop} {S : World → Prop} {L : Array Bool → Act → World → Prop} {n : Nat}

def HeadS (P : Program) (md : Region.Mode) (ops : Array Oper) (Q : Exit → Act → World → Prop) (S : World → Prop) (n : Nat) (L : Array Bool → Act → World → Prop) : Nat → Array Bool → Act → World → Prop
  | 0, listed, a, w => L listed a w
  | f + 1, listed, a, w => Region.ready md ops listed ≠ [] ∧ ∀ i ∈ Region.ready md ops listed, i < n ∧ wpOp P ops Q i (fun a' w' => S w' ∧ HeadS P md ops Q S n L f (listed.setIfInBounds i true) a' w') a w

theorem HeadS.any {g : Nat} (hL : ∀ listed a w, L listed a w → wpAny P md ops Q g listed a w) :
    ∀ (f : Nat) (listed : Array Bool) (a : Act) (w : World), HeadS P md ops Q S n L f listed a w → wpAny P md ops Q (f + g) listed a w
  | 0, _, _, _, h => by rw [Nat.zero_add]; exact hL _ _ _ h
  | f + 1, _, _, _, h => by
    rw [show f + 1 + g = (f + g) + 1 by omega]
    exact ⟨fun h0 => absurd h0 h.1, fun i hi => wpOp_mono (fun a' w' h' => HeadS.any hL f _ a' w' h'.2) (h.2 i hi).2⟩

theorem HeadS.first {i : Nat} {oi : Oper} {v : Value} (hi : ops[i]? = some oi) (hsel : ∀ (j : Nat) (o : Oper) cs b, ops[j]? = some o → o.op ≠ .select cs b)
    (hQ : ∀ c a w, Q (.panic c) (a.put oi.dst v) w → Q (.panic c) a w)
    (hs : Region.sinkB md ops n = true) (hc : Region.chainB md ops n = true) (hn : n < ops.size) (hin : i < n) (hdone : ∀ listed a w, L listed a w → ∀ j ∈ Region.ready md ops listed, n ≤ j) :
    ∀ (f : Nat) (listed : Array Bool) (a : Act) (w : World), HeadInv md ops n listed →
      (∀ j oj, ops[j]? = some oj → j ≠ i → listed.getD j true = false → (∀ e ∈ oj.after, Region.binds md e = true → e.on ≠ i) → oi.apart ops oj = true) →
      i ∈ Region.ready md ops listed → YieldsIf P ops S oi v a → S w → HeadS P md ops Q S n L f (listed.setIfInBounds i true) (a.put oi.dst v) w → HeadS P md ops Q S n L (f + 1) listed a w := by
  intro f
  induction f with
  | zero =>
    intro listed a w inv _ hr hy hS H
    refine ⟨fun h => (by rw [h] at hr; cases hr), fun j hj => ?_⟩
    have hjn : j < n := Nat.lt_of_not_le fun h => tail_waits hs hc hn inv _ i rfl hin (mem_ready.1 hr).1 j h hj
    refine ⟨hjn, ?_⟩
    by_cases hji : j = i
    · subst hji; exact hy.wpOp hi hS ⟨hS, H⟩
    · have := hdone _ _ _ H j (ready_mono hj hji)
      omega
  | succ f ih =>
    intro listed a w inv hfree hr hy hS H
    have hun := (mem_ready.1 hr).1
    refine ⟨fun h => (by rw [h] at hr; cases hr), fun j hj => ?_⟩
    have hjn : j < n := Nat.lt_of_not_le fun h => tail_waits hs hc hn inv _ i rfl hin hun j h hj
    refine ⟨hjn, ?_⟩
    by_cases hji : j = i
    · subst hji; exact hy.wpOp hi hS ⟨hS, H⟩
    · have h1 := (H.2 j (ready_mono hj hji)).2
      obtain ⟨hjun, oj, hoj, hall⟩ := mem_ready.1 hj
      have hnot : ∀ e ∈ oj.after, Region.binds md e = true → e.on ≠ i := fun e he hb heq => by
        have h1 := hall e he hb
        rw [heq, getD_both hun] at h1
        cases h1
      have h2 := wpOp_putIf hoj (hfree j oj hoj hji hjun hnot) (fun cs b => hsel i oi cs b hi) (fun cs b => hsel j oj cs b hoj) hQ hy h1
      have hfree' : ∀ k ok, ops[k]? = some ok → k ≠ i → (listed.setIfInBounds j true).getD k true = false →
          (∀ e ∈ ok.after, Region.binds md e = true → e.on ≠ i) → oi.apart ops ok = true := fun k ok hk hki hun' hno => by
        refine hfree k ok hk hki ?_ hno
        by_cases hjk : j = k
        · subst hjk; exact hjun
        · rw [getD_set_ne true hjk] at hun'; exact hun'
      refine wpOp_mono (fun a' w' h3 => ⟨h3.2.1, ih (listed.setIfInBounds j true) a' w' (inv.set hj hjn) hfree' (ready_mono hr (Ne.symm hji)) h3.1 h3.2.1 ?_⟩) h2
      rw [Array.setIfInBounds_comm _ _ hji]
      exact h3.2.2

def HeadW (P : Program) (md : Region.Mode) (ops : Array Oper) (Q : Exit → Act → World → Prop) (S : World → Prop) (n : Nat) (L : Array Bool → Act → World → Prop) (f : Nat) (listed : Array Bool) (a : Act) (w : World) : Prop :=
  HeadInv md ops n listed → HeadS P md ops Q S n L f listed a w
def HeadG (md : Region.Mode) (ops : Array Oper) (n : Nat) (L : Array Bool → Act → World → Prop) : Prop :=
  Region.noSelect ops = true ∧ Region.sinkB md ops n = true ∧ Region.chainB md ops n = true ∧ n < ops.size ∧ ∀ listed a w, L listed a w → ∀ j ∈ Region.ready md ops listed, n ≤ j

theorem HeadW_take {i : Nat} {oi : Oper} {v : Value} {f : Nat} {listed : Array Bool} {a : Act} {w : World} (G : HeadG md ops n L) (hi : ops[i]? = some oi)
    (hin : Nat.blt i n = true) (hf : Region.free md ops listed i = true) (hr : (Region.ready md ops listed).contains i = true)
    (hQ : ∀ c a w, Q (.panic c) (a.put oi.dst v) w → Q (.panic c) a w) (hy : YieldsIf P ops S oi v a) (hS : S w)
    (h : HeadW P md ops Q S n L f (listed.setIfInBounds i true) (a.put oi.dst v) w) : HeadW P md ops Q S n L (f + 1) listed a w := fun inv => by
  have hin' : i < n := by simpa using hin
  have hr' : i ∈ Region.ready md ops listed := by simpa using hr
  exact HeadS.first hi (Region.noSelect_spec G.1) hQ G.2.1 G.2.2.1 G.2.2.2.1 hin' G.2.2.2.2 f listed a w inv (Region.free_spec hi hf) hr' hy hS (h (inv.set hr' hin'))

def AllW (P : Program) (md : Region.Mode) (ops : Array Oper) (Q : Exit → Act → World → Prop) (S : World → Prop) (n : Nat) (L : Array Bool → Act → World → Prop) (f : Nat) (listed : Array Bool) (a : Act) (w : World) (rs : List Nat) : Prop :=
  ∀ i ∈ rs, wpOp P ops Q i (fun a' w' => S w' ∧ HeadW P md ops Q S n L f (listed.setIfInBounds i true) a' w') a w
theorem AllW.nil {f : Nat} {listed : Array Bool} {a : Act} {w : World} : AllW P md ops Q S n L f listed a w [] := fun _ h => by cases h
theorem AllW.cons {f : Nat} {listed : Array Bool} {a : Act} {w : World} {i : Nat} {o : Oper} {rs : List Nat} (ho : ops[i]? = some o)
    (h : ∀ K' : Act → World → Prop, (∀ a w, S w → HeadW P md ops Q S n L f (listed.setIfInBounds i true) a w → K' a w) → if Region.wanted o (yielded ops a.tmps) = true then Oper.wp P o a w K' Q else K' (a.put o.dst undef) w)
    (hs : AllW P md ops Q S n L f listed a w rs) : AllW P md ops Q S n L f listed a w (i :: rs) := fun j hj => by
  rcases List.mem_cons.1 hj with rfl | hj
  · exact wpOp_step ho fun K' hK => h K' fun a w h1 h2 => hK a w ⟨h1, h2⟩
  · exact hs j hj
theorem HeadW_ready {rs : List Nat} {f : Nat} {listed : Array Bool} {a : Act} {w : World} (hr : Region.ready md ops listed = rs) (hne : rs.isEmpty = false) (hin : rs.all (fun i => Nat.blt i n) = true)
    (h : AllW P md ops Q S n L f listed a w rs) : HeadW P md ops Q S n L (f + 1) listed a w := fun inv => by
  subst hr
  refine ⟨fun h0 => (by rw [h0] at hne; cases hne), fun i hi => ?_⟩
  have hin' : i < n := by simpa using List.all_eq_true.1 hin i hi
  exact ⟨hin', wpOp_mono (fun a' w' h' => ⟨h'.1, h'.2 (inv.set hi hin')⟩) (h i hi)⟩

def TailL (P : Program) (ops : Array Oper) (Q : Exit → Act → World → Prop) (n g : Nat) (r : List Oper) (listed : Array Bool) (a : Act) (w : World) : Prop := Region.seqB .any ops g n listed = true ∧ wpList P ops Q r a w

theorem wp_region_held_tail {id : Nat} {a : Act} {w : World} {l : List Oper} (S : World → Prop) (n : Nat) (hm : P.follows .mixedOrders = true)
    (hB : (Region.noSelect l.toArray && Nat.blt n l.length && Region.sinkB .any l.toArray n && Region.chainB .any l.toArray n) = true)
    (h : HeadG .any l.toArray n (TailL P l.toArray Q n (l.length - n) (l.drop n)) → HeadW P .any l.toArray Q S n (TailL P l.toArray Q n (l.length - n) (l.drop n)) n (Array.replicate l.toArray.size false) a { w with drawn := w.drawn + 1 }) :
    (Code.region id l.toArray true).wp P Q a w := by
  simp only [Bool.and_eq_true] at hB
  obtain ⟨⟨⟨hsel, hn⟩, hs⟩, hc⟩ := hB
  have hn' : n < l.length := by simpa using hn
  have hdl : (l.drop n).length = l.toArray.size - n := by simp
  have inv0 : HeadInv .any l.toArray n (Array.replicate l.toArray.size false) :=
    ⟨by simp, fun j oj _ hl => (by rw [getD_replicate_false] at hl; cases hl), fun t _ ht => getD_in (by simpa using ht) (getD_replicate_false _ _)⟩
  have H := h ⟨hsel, hs, hc, by simpa using hn', fun listed a w hL => seqB_ready hL.1⟩ inv0
  refine wp_region_any hm ?_
  have := HeadS.any (g := l.toArray.size - n) (fun listed a' w' hL => by
    have := wpAny_of_seq (md := .any) (Q' := Q) (l.drop n) n listed a' w' (fun j => by simp [List.getElem?_drop]) (by rw [hdl]; simpa using hL.1) hL.2
    rwa [hdl] at this) _ _ _ _ H
  rw [show n + (l.toArray.size - n) = l.toArray.size by simp; omega] at this
  exact this
end
end Go.Proofs.Ytadjfkgnoklmiaa
/- bailiffkeep: two policies that are the same. -/
namespace Go.Proofs.Ytadjfkgnoklmiaa
set_option linter.unusedVariables false
open Go.RowKit Go.Sort

section
variable {w : World} {R R' : Nat → Prop} {A A' : Option Addr} {n c n' c' : Nat}
theorem Rw.same_len {α : Type} {k k' : Nat} {P P' : List Value → α → Prop} {w : World} {R R' : Nat → Prop} {A A' : Option Addr} {n n' c c' : Nat} {l : List α} (h : Rw k P w R A n c l) (h' : Rw k' P' w R' A' n' c' l) : n = n' := by rw [← h.len, ← h'.len]
set_option maxHeartbeats 800000 in
theorem same_nod {l : List Nod} (h : Nds w R A n c l) (h' : Nds w R' A' n c' l) : Calls Try.prog 14 #[.slice A n c, .slice A' n c'] w fun e w' => e = .returned (.bool true) ∧ Below w.heap.size w w' := by
  have hcap := h.cap
  have hle := h.le
  have hle' := h'.le
  unfold maxLen at hcap
  have H := Lib.hid h
  have H' := Lib.hid h'
  clear h h'
  go_enter Try.func14, Try.ntmps14
  go_wp2
  go_loopw [5] (fun i wr => ∃ k : Nat, k ≤ n ∧ i = .int .i64 k ∧ ∃ q, wr = w.drewN q) (fun i _ => n - (intOf i).toNat)
  case atStart => exact ⟨0, Nat.zero_le _, rfl, 0, rfl⟩
  case round =>
    obtain ⟨k, hk, rfl, q, rfl⟩ := hrel
    by_cases hlt : k < n
    · obtain ⟨b, o, x, rfl, _, _, hx, _, ⟨x0, x1, x2, x3, x4, x5, x6⟩⟩ := H.out.at_ hlt
      obtain ⟨b', o', y, rfl, _, _, hy, _, ⟨y0, y1, y2, y3, y4, y5, y6⟩⟩ := H'.out.at_ hlt
      obtain rfl := Option.some.inj (hx.symm.trans hy)
      have hve := nod_eq x x
      simp only [decide_true] at hve
      clear hx hy
      go_wp2_with fail
      go_quiet (fail)
      go_wp2
      go_roundw
      case rel => exact ⟨k + 1, by omega, by go_num, _, rfl⟩
      case measure => simp [intOf]; omega
    · obtain rfl : k = n := by omega
      go_wp2
      go_ret
      exact ⟨rfl, below_drewN (Below.refl _ _) _⟩
theorem same_nod_q {l : List Nod} (h : Nds w R A n c l) (h' : Nds w R' A' n' c' l) (d : Nat) (os : Array Obj) : Calls Try.prog 14 #[.slice A n c, .slice A' n' c'] (grow (redrawn w d) os) fun e w'' => e = .returned (.bool true) ∧ ∃ p : Regrown, w'' = grow (redrawn w p.d) p.os := by
  obtain rfl := Rw.same_len h h'
  exact Calls.regrown_of (same_nod (R := R) (R' := R') (h.keep (Kept.all (below_regrown w d os) R) (fun _ h _ => h)) (h'.keep (Kept.all (below_regrown w d os) R') (fun _ h _ => h)))
end
end Go.Proofs.Ytadjfkgnoklmiaa
/- slices.Equal over nodes; vars.Find. -/
namespace Go.Proofs.Ytadjfkgnoklmiaa
set_option linter.unusedVariables false
open Go.RowKit Go.Sort

theorem take_more' {α : Type} {l l' : List α} {k : Nat} {x : α} (h : l[k]? = some x) (h' : l'[k]? = some x) (e : l.take k = l'.take k) : l.take (k + 1) = l'.take (k + 1) := by
  obtain ⟨a, rfl⟩ := List.getElem?_eq_some_iff.1 h
  obtain ⟨b, e2⟩ := List.getElem?_eq_some_iff.1 h'
  rw [List.take_succ_eq_append_getElem a, List.take_succ_eq_append_getElem b, e, e2]
theorem take_whole' {α : Type} {l l' : List α} {n : Nat} (h : l.length = n) (h' : l'.length = n) (e : l.take n = l'.take n) : l = l' := by
  rwa [List.take_of_length_le (by omega), List.take_of_length_le (by omega)] at e
section
variable {w : World} {R R' : Nat → Prop} {A A' : Option Addr} {n c n' c' : Nat}
set_option maxRecDepth 100000 in
set_option maxHeartbeats 1600000 in
theorem eqnod_any {l l' : List Nod} (h : Nds w R A n c l) (h' : Nds w R' A' n' c' l') : Calls Try.prog 18 #[.slice A n c, .slice A' n' c'] w fun e w' => e = .returned (.bool (decide (l = l'))) ∧ Below w.heap.size w w' := by
  have hcap := h.cap
  have hle := h.le
  have hle' := h'.le
  have hcap' := h'.cap
  unfold maxLen at hcap hcap'
  have H := Lib.hid h
  have H' := Lib.hid h'
  clear h h'
  by_cases hn : n = n'
  · subst hn
    go_enter Try.func18, Try.ntmps18
    go_wp2
    go_loopw [13] (fun i wr => ∃ k : Nat, k ≤ n ∧ i = .int .i64 k ∧ l.take k = l'.take k ∧ ∃ q, wr = w.drewN q) (fun i _ => n - (intOf i).toNat)
    case atStart => exact ⟨0, Nat.zero_le _, rfl, by simp, 0, rfl⟩
    case round =>
      obtain ⟨k, hk, rfl, ht, q, rfl⟩ := hrel
      have HT := Lib.hid ht
      clear ht
      by_cases hlt : k < n
      · obtain ⟨b, o, x, rfl, _, _, hx, _, ⟨x0, x1, x2, x3, x4, x5, x6⟩⟩ := H.out.at_ hlt
        obtain ⟨b', o', y, rfl, _, _, hy, _, ⟨y0, y1, y2, y3, y4, y5, y6⟩⟩ := H'.out.at_ hlt
        by_cases hxy : x = y
        · subst hxy
          have HX := Lib.hid hx
          have HY := Lib.hid hy
          have hve := nod_eq x x
          simp only [decide_true] at hve
          clear hx hy
          go_wp2_with fail
          go_quiet (fail)
          go_wp2
          go_roundw
          case rel => exact ⟨k + 1, by omega, by go_num, take_more' HX.out HY.out HT.out, _, rfl⟩
          case measure => simp [intOf]; omega
        · have hve := nod_eq x y
          simp only [decide_eq_false hxy] at hve
          have HNE : Hid (decide (l = l') = false) := by
            show _ = _
            rw [decide_eq_false_iff_not]
            rintro rfl
            rw [hx] at hy
            injection hy with hy
            exact hxy hy
          clear hx hy hxy
          go_wp2_with fail
          go_quiet (fail)
          go_wp2
          go_ret
          exact ⟨ret_bool HNE.out.symm, below_drewN (below_drewN (Below.refl _ _) _) _⟩
      · obtain rfl : k = n := by omega
        have HEQ : Hid (decide (l = l') = true) := by
          show _ = _
          rw [decide_eq_true_iff]
          exact take_whole' H.out.len H'.out.len HT.out
        go_wp2
        go_ret
        exact ⟨ret_bool HEQ.out.symm, below_drewN (Below.refl _ _) _⟩
  · have hni : ¬ (n : Int) = (n' : Int) := by omega
    have hni2 : ((n : Int) != (n' : Int)) = true := by simpa using hni
    have HNE : Hid (decide (l = l') = false) := by
      show _ = _
      rw [decide_eq_false_iff_not]
      rintro rfl
      exact hn (H.out.len.symm.trans H'.out.len)
    go_enter Try.func18, Try.ntmps18
    go_wp2_with fail
    go_ret
    exact ⟨ret_bool HNE.out.symm, Below.refl _ _⟩
end
theorem Ob.c8e {w : World} {g : Nat} {t : TypeId} {a b c d e f h i : Value} (H : Ob w g t #[a, b, c, d, e, f, h, i]) :
    w.cell? ⟨g, 0, none⟩ = some a ∧ w.cell? ⟨g, 1, none⟩ = some b ∧ w.cell? ⟨g, 2, none⟩ = some c ∧ w.cell? ⟨g, 3, none⟩ = some d ∧ w.cell? ⟨g, 4, none⟩ = some e ∧ w.cell? ⟨g, 5, none⟩ = some f ∧ w.cell? ⟨g, 6, none⟩ = some h ∧ w.cell? ⟨g, 7, none⟩ = some i :=
  ⟨H.cell 0, H.cell 1, H.cell 2, H.cell 3, H.cell 4, H.cell 5, H.cell 6, H.cell 7⟩
theorem Ob.f8e {w : World} {g : Nat} {t : TypeId} {a b c d e f h i : Value} (H : Ob w g t #[a, b, c, d, e, f, h, i]) :
    w.frozen? ⟨g, 0, none⟩ = false ∧ w.frozen? ⟨g, 1, none⟩ = false ∧ w.frozen? ⟨g, 2, none⟩ = false ∧ w.frozen? ⟨g, 3, none⟩ = false ∧ w.frozen? ⟨g, 4, none⟩ = false ∧ w.frozen? ⟨g, 5, none⟩ = false ∧ w.frozen? ⟨g, 6, none⟩ = false ∧ w.frozen? ⟨g, 7, none⟩ = false :=
  ⟨H.frozen 0, H.frozen 1, H.frozen 2, H.frozen 3, H.frozen 4, H.frozen 5, H.frozen 6, H.frozen 7⟩

set_option maxRecDepth 100000 in
set_option maxHeartbeats 1600000 in
theorem isatm_any {w : World} {R R' : Nat → Prop} {h4 : Nat} {a b : Atm} {A A' : Option Addr} {n c n' c' : Nat} (hp : Ob w h4 45 #[.int .i64 a.m.a.cat, .string a.m.a.name, .bool a.m.a.must, .int .i64 a.m.op, .int .i64 a.m.v.k, .int .i64 a.m.v.n, .string a.m.v.s, .slice A n c]) (ha : Nds w R A n c a.c) (hb : Nds w R' A' n' c' b.c) :
    Calls Try.prog 17 #[.agg #[.int .i64 b.m.a.cat, .string b.m.a.name, .bool b.m.a.must, .int .i64 b.m.op, .int .i64 b.m.v.k, .int .i64 b.m.v.n, .string b.m.v.s, .slice A' n' c'], .pointer (some ⟨h4, 0, none⟩)] w fun e w' => e = .returned (.bool (decide (b = a))) ∧ Below w.heap.size w w' := by
  have a1 : Below w.heap.size w (w.alloc (.cells #[.int .i64 b.m.a.cat, .string b.m.a.name, .bool b.m.a.must, .int .i64 b.m.op, .int .i64 b.m.v.k, .int .i64 b.m.v.n, .string b.m.v.s, .slice A' n' c'] 45)) := (Below.refl _ _).alloc (Nat.le_refl _) _
  have HC := Lib.hid (eqnod_any (hb.keep (Kept.all a1 R') (fun _ h _ => h)) (ha.keep (Kept.all a1 R) (fun _ h _ => h)))
  have c4 := hp.c8e
  have l4 := hp.lt
  have HE : Hid (decide (b = a) = (decide (b.m = a.m) && decide (b.c = a.c))) := by
    show _ = _
    rw [Bool.eq_iff_iff]
    simp only [Bool.and_eq_true, decide_eq_true_eq]
    exact ⟨fun e => by rw [e]; exact ⟨rfl, rfl⟩, fun e => Atm.ext' e.1 e.2⟩
  generalize decide (b = a) = r at *
  generalize decide (b.c = a.c) = r2 at *
  have hve := mat_eq b.m a.m
  have A1 := Lib.hid a1
  clear hp ha hb a1
  by_cases h : b.m = a.m
  · rw [decide_eq_true h] at HE
    simp only [decide_eq_true h] at hve
    clear h
    go_enter Try.func17, Try.ntmps17
    go_wp2_with fail
    refine HC.out.mono ?_
    rintro e w1 ⟨rfl, hb⟩
    have HB := Lib.hid (below_step A1.out hb)
    clear hb
    go_wp2_with fail
    go_ret
    exact ⟨ret_bool (by rw [HE.out, Bool.true_and]), HB.out⟩
  · rw [decide_eq_false h] at HE
    simp only [decide_eq_false h] at hve
    clear h
    go_enter Try.func17, Try.ntmps17
    go_wp2_with fail
    go_ret
    exact ⟨ret_bool (by rw [HE.out, Bool.false_and]), A1.out⟩
end Go.Proofs.Ytadjfkgnoklmiaa
/- vars.Find, by slices.IndexFunc. -/
namespace Go.Proofs.Ytadjfkgnoklmiaa
set_option linter.unusedVariables false
open Go.RowKit

theorem findA_at {l : List Atm} {a : Atm} {k : Nat} (hk : l[k]? = some a) (hf : ∀ (j : Nat) (x : Atm), l[j]? = some x → j < k → decide (x = a) = false) : findA l a = (k : Int) := by
  obtain ⟨hlt, he⟩ := List.getElem?_eq_some_iff.1 hk
  have e : l.findIdx (fun y => decide (y = a)) = k := by
    rw [List.findIdx_eq hlt]
    exact ⟨by simp [he], fun j hj => hf j _ (List.getElem?_eq_getElem (by omega)) hj⟩
  unfold findA
  rw [if_pos (he ▸ List.getElem_mem hlt), e]
theorem findA_none {l : List Atm} {a : Atm} (hf : ∀ (j : Nat) (x : Atm), l[j]? = some x → j < l.length → decide (x = a) = false) : findA l a = -1 := by
  unfold findA
  rw [if_neg]
  intro h
  obtain ⟨j, hj, e⟩ := List.getElem_of_mem h
  have := hf j _ (List.getElem?_eq_getElem hj) hj
  rw [e] at this
  simp at this
set_option maxRecDepth 100000 in
set_option maxHeartbeats 1600000 in
theorem vindex_any {w : World} {R R' : Nat → Prop} {A A2 : Option Addr} {n c n2 c2 : Nat} {l : List Atm} {h4 : Nat} {a : Atm} (h : Ats w R A n c l) (hp : Ob w h4 45 #[.int .i64 a.m.a.cat, .string a.m.a.name, .bool a.m.a.must, .int .i64 a.m.op, .int .i64 a.m.v.k, .int .i64 a.m.v.n, .string a.m.v.s, .slice A2 n2 c2]) (ha : Nds w R' A2 n2 c2 a.c) :
    Calls Try.prog 16 #[.slice A n c, .func (.func 17) #[] #[.pointer (some ⟨h4, 0, none⟩)]] w fun e w' => e = .returned (.int .i64 (findA l a)) ∧ Below w.heap.size w w' := by
  have hle := Rw.le h
  have hcap := Rw.cap h
  have HL := Lib.hid (Rw.len h)
  unfold maxLen at hcap
  have H := Lib.hid h
  have HP := Lib.hid hp
  have HA := Lib.hid ha
  clear h hp ha
  go_enter Try.func16, Try.ntmps16
  go_wp2
  go_loopw [8] (fun i wr => ∃ k : Nat, k ≤ n ∧ i = .int .i64 k ∧ (∀ (j : Nat) (x : Atm), l[j]? = some x → j < k → decide (x = a) = false) ∧ Below w.heap.size w wr) (fun i _ => n - (intOf i).toNat)
  case atStart => exact ⟨0, Nat.zero_le _, rfl, fun _ _ _ h => absurd h (Nat.not_lt_zero _), Below.refl _ _⟩
  case round =>
    obtain ⟨k, hk, rfl, hf, hb⟩ := hrel
    have HF := Lib.hid hf
    have HB := Lib.hid hb
    clear hf hb
    by_cases hlt : k < n
    · obtain ⟨b, o, x, A', n', c', rfl, hRb, hbl, hx, hok, ⟨c0, c1, c2', c3, c4, c5, c6, c7⟩, hin⟩ := (H.out.keep (Kept.all HB.out R) (fun _ h _ => h)).at_ hlt
      have HX := Lib.hid hx
      have HC := Lib.hid (isatm_any (HP.out.below HB.out HP.out.lt) (HA.out.keep (Kept.all HB.out R') (fun _ h _ => h)) hin)
      clear hx hin
      cases hz : decide (x = a)
      · have HZ := Lib.hid hz
        rw [hz] at HC
        clear hz
        go_wp2_with (go_at_call 17; refine HC.out.mono ?_; rintro e w1 ⟨rfl, hb1⟩; have B1 := Lib.hid hb1)
        go_roundw
        case rel => exact ⟨k + 1, by omega, by go_num, fun j y hy hj => by
          by_cases e : j = k
          · subst e; rw [HX.out] at hy; injection hy with hy; subst hy; exact HZ.out
          · exact HF.out j y hy (by omega), below_step HB.out B1.out⟩
        case measure => simp [intOf]; omega
      · have HZ := Lib.hid hz
        rw [hz] at HC
        clear hz
        go_wp2_with (go_at_call 17; refine HC.out.mono ?_; rintro e w1 ⟨rfl, hb1⟩; have B1 := Lib.hid hb1)
        go_ret
        have e : x = a := by have := HZ.out; rwa [decide_eq_true_iff] at this
        exact ⟨ret_int (by rw [findA_at (by rw [← e]; exact HX.out) HF.out]), below_step HB.out B1.out⟩
    · obtain rfl : k = n := by omega
      go_wp2
      go_ret
      exact ⟨ret_int (by rw [findA_none (by rw [HL.out]; exact HF.out)]), HB.out⟩
set_option maxRecDepth 100000 in
set_option maxHeartbeats 800000 in
theorem vfind_any {w : World} {R R' : Nat → Prop} {A A2 : Option Addr} {n c n2 c2 : Nat} {l : List Atm} {a : Atm} (h : Ats w R A n c l) (ha : Nds w R' A2 n2 c2 a.c) :
    Calls Try.prog 9 #[.slice A n c, .agg #[.int .i64 a.m.a.cat, .string a.m.a.name, .bool a.m.a.must, .int .i64 a.m.op, .int .i64 a.m.v.k, .int .i64 a.m.v.n, .string a.m.v.s, .slice A2 n2 c2]] w fun e w' => e = .returned (.int .i64 (findA l a)) ∧ Below w.heap.size w w' := by
  have a1 : Below w.heap.size w (w.alloc (.cells #[.int .i64 a.m.a.cat, .string a.m.a.name, .bool a.m.a.must, .int .i64 a.m.op, .int .i64 a.m.v.k, .int .i64 a.m.v.n, .string a.m.v.s, .slice A2 n2 c2] 45)) := (Below.refl _ _).alloc (Nat.le_refl _) _
  have HC := Lib.hid (vindex_any (h.keep (Kept.all a1 R) (fun _ h _ => h)) (Ob.made w 45 #[.int .i64 a.m.a.cat, .string a.m.a.name, .bool a.m.a.must, .int .i64 a.m.op, .int .i64 a.m.v.k, .int .i64 a.m.v.n, .string a.m.v.s, .slice A2 n2 c2]) (ha.keep (Kept.all a1 R') (fun _ h _ => h)))
  have A1 := Lib.hid a1
  clear h ha a1
  go_enter Try.func9, Try.ntmps9
  go_wp2_with fail
  refine HC.out.mono ?_
  rintro e w1 ⟨rfl, hb⟩
  have HB := Lib.hid (below_step A1.out hb)
  clear hb
  go_wp2_with fail
  go_ret
  exact ⟨rfl, HB.out⟩
end Go.Proofs.Ytadjfkgnoklmiaa
/- Rows of bytes in new memory: what a byte's type is, and make. -/
namespace Go.Proofs.Ytadjfkgnoklmiaa
open Go.RowKit

theorem u8info : (Try.prog.info? 5).map (fun i => (i.zero, i.size, i.bytes)) = some (some (.int .u8 0), 1, 1) := by kernel_rfl

end Go.Proofs.Ytadjfkgnoklmiaa
/- strings.Clone. -/
namespace Go.Proofs.Ytadjfkgnoklmiaa
set_option linter.unusedVariables false
open Go.RowKit

set_option maxRecDepth 10000 in
set_option maxHeartbeats 4000000 in
theorem slclone_any (s : ByteArray) (w : World) (hlim : s.size ≤ 1000000) :
    Calls Try.prog 76 #[.string s] w fun e w' => e = .returned (.string s) ∧ Below w.heap.size w w' := by
  by_cases h0 : s.size = 0
  · have hs : s = ⟨#[]⟩ := by
      apply ByteArray.ext
      exact Array.eq_empty_of_size_eq_zero h0
    subst hs
    clear h0 hlim
    go_enter Try.func76, Try.ntmps76
    go_wp2_with fail
    go_ret
    exact ⟨rfl, Below.refl _ _⟩
  · obtain ⟨i0, hi, hz0, hz1, hz2⟩ := info_parts u8info
    have hinfo : (Try.prog.info? 5).map (·.size) = some 1 := by rw [hi]; simp [hz1]
    have hco : Try.prog.cellsOf 5 = 1 := by simp [Program.cellsOf, hi, hz1]
    obtain ⟨M, hM⟩ : ∃ M, M = madeCells (Value.int .u8 0).cells (((s.size : Nat) : Int).toNat * i0.size) := ⟨_, rfl⟩
    have hMs : M.size = s.size := by rw [hM, size_madeCells, hz1]; simp
    have hmk : ∀ W : World, (Instr.makeSlice 115 (.int .i64 (s.size : Int)) (.int .i64 (s.size : Int))).run Try.prog W = .ok (.slice (some ⟨W.heap.size, 0, none⟩) s.size s.size) (W.alloc (.cells M 5)) := fun W => by
      have h := run_make (P := Try.prog) W 115 5 i0 (.int .u8 0) Try.underlying115 hi hz0 .i64 .i64 (s.size : Int) (s.size : Int) (by omega) (by omega) (by rw [hz2]; omega) (by omega)
      rw [← hM] at h
      simpa using h
    clear hM
    have hcp := Lib.run_copy_row_string (P := Try.prog) (w.alloc (.cells M 5)) 115 9 3 5 w.heap.size 0 s.size s.size s M 5 Try.underlying115 hinfo (heap_alloc_new w _) (Nat.le_refl _) (by omega)
    obtain ⟨Y, hY⟩ : ∃ Y, Y = (M.toList.take 0 ++ Lib.byteCells s.data.toList ++ M.toList.drop (0 + s.size)).toArray := ⟨_, rfl⟩
    rw [← hY] at hcp
    have hYl : Y.toList = Lib.byteCells s.data.toList := by
      rw [hY, List.toList_toArray, List.take_zero, List.nil_append, List.drop_of_length_le (by rw [Array.length_toList]; omega), List.append_nil]
    have hYs : Y.size = s.size := by rw [← Array.length_toList, hYl, Lib.byteCells_length, ← Lib.size_eq]
    have hgY : ((w.alloc (.cells M 5)).setRow w.heap.size Y).heap[w.heap.size]? = some (.cells Y 5 (0, 0)) := setRow_heap _ _ M _ 5 (0, 0) (heap_alloc_new w _)
    have hne : s.data.toList ≠ [] := fun e => h0 (by rw [Lib.size_eq, e]; rfl)
    have hUS := Lib.run_unsafeString_row (P := Try.prog) ((w.alloc (.cells M 5)).setRow w.heap.size Y) 144 3 9 5 Try.underlying144 hco w.heap.size Y.size (by unfold World.shape?; rw [hgY]) s.data.toList hne (by rw [← Lib.size_eq]; omega) (by rw [← Lib.size_eq]; omega)
      (fun j x hx => Lib.cells_of_row hgY Y.size j _ (by rw [List.take_of_length_le (by rw [Array.length_toList]; exact Nat.le_refl _), hYl]; simp [Lib.byteCells, hx]))
    rw [← Lib.size_eq] at hUS
    have H0 := Lib.hid hYl
    have H1 := Lib.hid hne
    have H2 := Lib.hid hgY
    clear hY hYl hne hgY hco hinfo hi hz0 hz1 hz2
    go_enter Try.func76, Try.ntmps76
    go_wp2_with fail
    go_ret
    have hb1 : Below w.heap.size w (w.alloc (.cells M 5)) := (Below.refl _ w).alloc (Nat.le_refl _) _
    have hb2 : Below w.heap.size (w.alloc (.cells M 5)) ((w.alloc (.cells M 5)).setRow w.heap.size Y) := ⟨rfl, rfl, rfl, by simp, fun k hk => setRow_other _ _ _ _ (by omega)⟩
    exact ⟨rfl, Lib.below_freeze (hb1.trans hb2) (p := ⟨w.heap.size, 0, none⟩) (Nat.le_refl _) _⟩

set_option maxHeartbeats 800000 in
theorem clone_any (s : ByteArray) (w : World) (hlim : s.size ≤ 1000000) :
    Calls Try.prog 61 #[.string s] w fun e w' => e = .returned (.string s) ∧ Below w.heap.size w w' := by
  have H := Lib.hid (slclone_any s w hlim)
  clear hlim
  go_enter Try.func61, Try.ntmps61
  go_wp2_with (go_at_call 76; refine H.out.mono ?_; rintro e w' ⟨rfl, hb⟩)
  go_ret
  exact ⟨rfl, hb⟩
end Go.Proofs.Ytadjfkgnoklmiaa
/- Seven cells stored over others. -/
namespace Go.Proofs.Ytadjfkgnoklmiaa
set_option linter.unusedVariables false
open Go.RowKit

def put1W (V : World) (P : Nat) (b0 : Value) : World := V.setCell ⟨P, 0, none⟩ b0
def put2W (V : World) (P : Nat) (b0 b1 : Value) : World := (put1W V P b0).setCell ⟨P, 1, none⟩ b1
def put3W (V : World) (P : Nat) (b0 b1 b2 : Value) : World := (put2W V P b0 b1).setCell ⟨P, 2, none⟩ b2
def put4W (V : World) (P : Nat) (b0 b1 b2 b3 : Value) : World := (put3W V P b0 b1 b2).setCell ⟨P, 3, none⟩ b3
def put5W (V : World) (P : Nat) (b0 b1 b2 b3 b4 : Value) : World := (put4W V P b0 b1 b2 b3).setCell ⟨P, 4, none⟩ b4
def put6W (V : World) (P : Nat) (b0 b1 b2 b3 b4 b5 : Value) : World := (put5W V P b0 b1 b2 b3 b4).setCell ⟨P, 5, none⟩ b5
def put7W (V : World) (P : Nat) (b0 b1 b2 b3 b4 b5 b6 : Value) : World := (put6W V P b0 b1 b2 b3 b4 b5).setCell ⟨P, 6, none⟩ b6
section
variable {V : World} {P : Nat} {t : TypeId} {a0 a1 a2 a3 a4 a5 a6 : Value}
theorem put1_ob (h : Ob V P t #[a0, a1, a2, a3, a4, a5, a6]) (b0 : Value) : Ob (put1W V P b0) P t #[b0, a1, a2, a3, a4, a5, a6] := h.put 0 b0
theorem put2_ob (h : Ob V P t #[a0, a1, a2, a3, a4, a5, a6]) (b0 b1 : Value) : Ob (put2W V P b0 b1) P t #[b0, b1, a2, a3, a4, a5, a6] := (put1_ob h b0).put 1 b1
theorem put3_ob (h : Ob V P t #[a0, a1, a2, a3, a4, a5, a6]) (b0 b1 b2 : Value) : Ob (put3W V P b0 b1 b2) P t #[b0, b1, b2, a3, a4, a5, a6] := (put2_ob h b0 b1).put 2 b2
theorem put4_ob (h : Ob V P t #[a0, a1, a2, a3, a4, a5, a6]) (b0 b1 b2 b3 : Value) : Ob (put4W V P b0 b1 b2 b3) P t #[b0, b1, b2, b3, a4, a5, a6] := (put3_ob h b0 b1 b2).put 3 b3
theorem put5_ob (h : Ob V P t #[a0, a1, a2, a3, a4, a5, a6]) (b0 b1 b2 b3 b4 : Value) : Ob (put5W V P b0 b1 b2 b3 b4) P t #[b0, b1, b2, b3, b4, a5, a6] := (put4_ob h b0 b1 b2 b3).put 4 b4
theorem put6_ob (h : Ob V P t #[a0, a1, a2, a3, a4, a5, a6]) (b0 b1 b2 b3 b4 b5 : Value) : Ob (put6W V P b0 b1 b2 b3 b4 b5) P t #[b0, b1, b2, b3, b4, b5, a6] := (put5_ob h b0 b1 b2 b3 b4).put 5 b5
theorem put7_ob (h : Ob V P t #[a0, a1, a2, a3, a4, a5, a6]) (b0 b1 b2 b3 b4 b5 b6 : Value) : Ob (put7W V P b0 b1 b2 b3 b4 b5 b6) P t #[b0, b1, b2, b3, b4, b5, b6] := (put6_ob h b0 b1 b2 b3 b4 b5).put 6 b6
theorem put7_only (b0 b1 b2 b3 b4 b5 b6 : Value) : Only P V (put7W V P b0 b1 b2 b3 b4 b5 b6) := by
  have on : ∀ {W : World} (q : Only P V W) (i : Nat) (b : Value), Only P V (W.setCell ⟨P, i, none⟩ b) := fun q i b => q.setCell rfl b
  exact on (on (on (on (on (on (on Only.refl 0 b0) 1 b1) 2 b2) 3 b3) 4 b4) 5 b5) 6 b6
end
end Go.Proofs.Ytadjfkgnoklmiaa
/- Eight cells stored over others. -/
namespace Go.Proofs.Ytadjfkgnoklmiaa
set_option linter.unusedVariables false
open Go.RowKit

def put8W (V : World) (P : Nat) (b0 b1 b2 b3 b4 b5 b6 b7 : Value) : World := (put7W V P b0 b1 b2 b3 b4 b5 b6).setCell ⟨P, 7, none⟩ b7
section
variable {V : World} {P : Nat} {t : TypeId} {a0 a1 a2 a3 a4 a5 a6 a7 : Value}
theorem put1_ob8 (h : Ob V P t #[a0, a1, a2, a3, a4, a5, a6, a7]) (b0 : Value) : Ob (put1W V P b0) P t #[b0, a1, a2, a3, a4, a5, a6, a7] := h.put 0 b0
theorem put2_ob8 (h : Ob V P t #[a0, a1, a2, a3, a4, a5, a6, a7]) (b0 b1 : Value) : Ob (put2W V P b0 b1) P t #[b0, b1, a2, a3, a4, a5, a6, a7] := (put1_ob8 h b0).put 1 b1
theorem put3_ob8 (h : Ob V P t #[a0, a1, a2, a3, a4, a5, a6, a7]) (b0 b1 b2 : Value) : Ob (put3W V P b0 b1 b2) P t #[b0, b1, b2, a3, a4, a5, a6, a7] := (put2_ob8 h b0 b1).put 2 b2
theorem put4_ob8 (h : Ob V P t #[a0, a1, a2, a3, a4, a5, a6, a7]) (b0 b1 b2 b3 : Value) : Ob (put4W V P b0 b1 b2 b3) P t #[b0, b1, b2, b3, a4, a5, a6, a7] := (put3_ob8 h b0 b1 b2).put 3 b3
theorem put5_ob8 (h : Ob V P t #[a0, a1, a2, a3, a4, a5, a6, a7]) (b0 b1 b2 b3 b4 : Value) : Ob (put5W V P b0 b1 b2 b3 b4) P t #[b0, b1, b2, b3, b4, a5, a6, a7] := (put4_ob8 h b0 b1 b2 b3).put 4 b4
theorem put6_ob8 (h : Ob V P t #[a0, a1, a2, a3, a4, a5, a6, a7]) (b0 b1 b2 b3 b4 b5 : Value) : Ob (put6W V P b0 b1 b2 b3 b4 b5) P t #[b0, b1, b2, b3, b4, b5, a6, a7] := (put5_ob8 h b0 b1 b2 b3 b4).put 5 b5
theorem put7_ob8 (h : Ob V P t #[a0, a1, a2, a3, a4, a5, a6, a7]) (b0 b1 b2 b3 b4 b5 b6 : Value) : Ob (put7W V P b0 b1 b2 b3 b4 b5 b6) P t #[b0, b1, b2, b3, b4, b5, b6, a7] := (put6_ob8 h b0 b1 b2 b3 b4 b5).put 6 b6
theorem put8_ob8 (h : Ob V P t #[a0, a1, a2, a3, a4, a5, a6, a7]) (b0 b1 b2 b3 b4 b5 b6 b7 : Value) : Ob (put8W V P b0 b1 b2 b3 b4 b5 b6 b7) P t #[b0, b1, b2, b3, b4, b5, b6, b7] := (put7_ob8 h b0 b1 b2 b3 b4 b5 b6).put 7 b7
theorem put8_only (b0 b1 b2 b3 b4 b5 b6 b7 : Value) : Only P V (put8W V P b0 b1 b2 b3 b4 b5 b6 b7) := by
  have h := put7_only (V := V) (P := P) b0 b1 b2 b3 b4 b5 b6
  unfold put8W
  generalize put7W V P b0 b1 b2 b3 b4 b5 b6 = W at *
  exact h.setCell rfl b7
end
end Go.Proofs.Ytadjfkgnoklmiaa
/- vars.apart: an atom in memory of its own. -/
namespace Go.Proofs.Ytadjfkgnoklmiaa
set_option linter.unusedVariables false
open Go.RowKit Go.Sort

def ShortA (a : Atm) : Prop := (a.m.a.name.size ≤ 1000000 ∧ a.m.v.s.size ≤ 1000000) ∧ a.c.length ≤ 100000 ∧ ∀ x ∈ a.c, x.a.name.size ≤ 1000000 ∧ x.v.s.size ≤ 1000000
def OwN (w : World) (base : Nat) (A : Option Addr) (n c : Nat) (l : List Nod) : Prop :=
  w.ownsRow base 41 7 (.slice A n c) n (l.flatMap Nod.cells) ∧ l.length = n ∧ (∀ x ∈ l, x.ok) ∧ base ≤ w.heap.size
section
variable {w w' : World} {base n c : Nat} {A : Option Addr} {l : List Nod}
theorem OwN.nil (w : World) (base : Nat) (hb : base ≤ w.heap.size) : OwN w base none 0 0 [] := ⟨⟨by simp, .inl ⟨rfl, rfl⟩⟩, rfl, by simp, hb⟩
theorem OwN.below (h : OwN w base A n c l) (hb : Below w.heap.size w w') : OwN w' base A n c l :=
  ⟨h.1.kept (row := none) ⟨hb.os, hb.tape, hb.output, hb.size, fun k hk _ => hb.block k hk⟩ (by
    by_cases hv : (Value.slice A n c).ownBlock = none
    · exact .inl hv
    · exact .inr hv), h.2.1, h.2.2.1, Nat.le_trans h.2.2.2 hb.size⟩
theorem OwN.only {g : Nat} (h : OwN w base A n c l) (o : Only g w w') (hg : g < base) : OwN w' base A n c l :=
  ⟨h.1.kept (row := some g) o.grown (.inr (fun e => by have := (h.1.lt g e).1; omega)), h.2.1, h.2.2.1, Nat.le_trans h.2.2.2 o.size⟩
theorem OwN.apart {g : Nat} (h : OwN w base A n c l) (o : Only g w w') (hg : (Value.slice A n c).ownBlock ≠ some g) : OwN w' base A n c l :=
  ⟨h.1.kept (row := some g) o.grown (.inr hg), h.2.1, h.2.2.1, Nat.le_trans h.2.2.2 o.size⟩
theorem OwN.nds (h : OwN w base A n c l) (hn : n ≤ 1000000) : Nds w (fun b => base ≤ b) A n c l := Rw.flat_own h.1 (by omega) h.2.1 (fun _ => rfl) h.2.2.1 (fun _ _ h => h)
theorem OwN.push {x : Nod} (h : OwN w base A n c l) (hx : x.ok) (hn : n < 1000000) (ty : Nat) :
    ∃ A' c' w', (Builtin.append_ #[42, 42] ty #[.slice A n c, .slice (some ⟨w.heap.size, 0, none⟩) 1 1]).run Try.prog (w.alloc (.cells #[.int .i64 x.op, .int .i64 x.v.k, .int .i64 x.v.n, .string x.v.s, .int .i64 x.a.cat, .string x.a.name, .bool x.a.must] 41)) = .ok (.slice A' (n + 1) c') w' ∧ OwN w' base A' (n + 1) c' (l ++ [x]) ∧ Below base w w' := by
  have a1 : Below w.heap.size w (w.alloc (.cells #[.int .i64 x.op, .int .i64 x.v.k, .int .i64 x.v.n, .string x.v.s, .int .i64 x.a.cat, .string x.a.name, .bool x.a.must] 41)) := (Below.refl _ _).alloc (Nat.le_refl _) _
  have hl := Nds.lit w (R := fun _ => True) [x] (n := 1) rfl (by omega) trivial (fun y hy => by simp at hy; subst hy; exact hx)
  have h' := h.below a1
  obtain ⟨A', c', w', r, o, b, _, _⟩ := append_nods (ty := ty) h'.1 (show Nds (w.alloc (.cells #[.int .i64 x.op, .int .i64 x.v.k, .int .i64 x.v.n, .string x.v.s, .int .i64 x.a.cat, .string x.a.name, .bool x.a.must] 41)) (fun _ => True) (some ⟨w.heap.size, 0, none⟩) 1 1 [x] by simpa [Nod.cells] using hl) (by omega) h'.2.2.2
  exact ⟨A', c', w', r, ⟨o, by rw [List.length_append, h.2.1]; rfl, fun y hy => (List.mem_append.1 hy).elim (h.2.2.1 y) (fun e => by simp at e; subst e; exact hx), Nat.le_trans h'.2.2.2 b.size⟩, (a1.mono h.2.2.2).trans b⟩
end
theorem Ob.c7v {w : World} {g : Nat} {t : TypeId} {a b c d e f h : Value} (H : Ob w g t #[a, b, c, d, e, f, h]) :
    w.cell? ⟨g, 0, none⟩ = some a ∧ w.cell? ⟨g, 1, none⟩ = some b ∧ w.cell? ⟨g, 2, none⟩ = some c ∧ w.cell? ⟨g, 3, none⟩ = some d ∧ w.cell? ⟨g, 4, none⟩ = some e ∧ w.cell? ⟨g, 5, none⟩ = some f ∧ w.cell? ⟨g, 6, none⟩ = some h :=
  ⟨H.cell 0, H.cell 1, H.cell 2, H.cell 3, H.cell 4, H.cell 5, H.cell 6⟩
theorem vclone (s : ByteArray) (hs : s.size ≤ 1000000) (w : World) (d : Nat) (os : Array Obj) : Calls Try.prog 61 #[.string s] (grow (redrawn w d) os) fun e w'' => e = .returned (.string s) ∧ ∃ p : Regrown, w'' = grow (redrawn w p.d) p.os :=
  Calls.regrown_of (clone_any s _ hs)
theorem atm_ret {fn : Func} {t : Tmp} {tmps : Array Value} {w : World} {g : Nat} {a : Atm} {A : Option Addr} {n c : Nat} (h : fn.results = #[.cell t 45]) (hp : tmps.getD t undef = .pointer (some ⟨g, 0, none⟩))
    (hg : Ob w g 45 #[.int .i64 a.m.a.cat, .string a.m.a.name, .bool a.m.a.must, .int .i64 a.m.op, .int .i64 a.m.v.k, .int .i64 a.m.v.n, .string a.m.v.s, .slice A n c]) :
    (results fn tmps).run Try.prog w = .ok (.agg #[.int .i64 a.m.a.cat, .string a.m.a.name, .bool a.m.a.must, .int .i64 a.m.op, .int .i64 a.m.v.k, .int .i64 a.m.v.n, .string a.m.v.s, .slice A n c]) w :=
  results_cell_row h tmps w g _ _ (0, 0) _ hp hg Try.underlying45 rfl (by kernel_rfl)

set_option maxRecDepth 100000 in
set_option maxHeartbeats 3200000 in
theorem apart_any {w : World} {R : Nat → Prop} {A : Option Addr} {n c : Nat} {a : Atm} (ha : Nds w R A n c a.c) (hs : ShortA a) :
    Calls Try.prog 59 #[.agg #[.int .i64 a.m.a.cat, .string a.m.a.name, .bool a.m.a.must, .int .i64 a.m.op, .int .i64 a.m.v.k, .int .i64 a.m.v.n, .string a.m.v.s, .slice A n c]] w
      fun e w' => ∃ A' n' c', e = .returned (.agg #[.int .i64 a.m.a.cat, .string a.m.a.name, .bool a.m.a.must, .int .i64 a.m.op, .int .i64 a.m.v.k, .int .i64 a.m.v.n, .string a.m.v.s, .slice A' n' c']) ∧ Below w.heap.size w w' ∧ Nds w' (fun b => w.heap.size ≤ b) A' n' c' a.c := by
  obtain ⟨⟨⟨cat, name, must⟩, op, ⟨vk, vn, vs⟩⟩, cond⟩ := a
  simp only at ha ⊢
  have C1 := Lib.hid (fun W => clone_any name W hs.1.1)
  have C2 := Lib.hid (fun W => clone_any vs W hs.1.2)
  have HS := Lib.hid hs
  have HA := Lib.hid (ha.keep (R' := fun b => b < w.heap.size) (Kept.refl _ _) (fun b _ h => h))
  have hle := ha.le
  have hcap := ha.cap
  unfold maxLen at hcap
  have HN : Hid (n ≤ 100000) := by have h1 := ha.len; have h2 := hs.2.1; show _ ≤ _; simp only at h2; omega
  have OA := Lib.hid (Ob.made w 45 #[.int .i64 cat, .string name, .bool must, .int .i64 op, .int .i64 vk, .int .i64 vn, .string vs, .slice A n c])
  have OZ := Lib.hid (Ob.made (w.alloc (.cells #[.int .i64 cat, .string name, .bool must, .int .i64 op, .int .i64 vk, .int .i64 vn, .string vs, .slice A n c] 45)) 45 #[.int .i64 0, .string ⟨#[]⟩, .bool false, .int .i64 0, .int .i64 0, .int .i64 0, .string ⟨#[]⟩, .slice none 0 0])
  have OO := Lib.hid (Ob.made ((w.alloc (.cells #[.int .i64 cat, .string name, .bool must, .int .i64 op, .int .i64 vk, .int .i64 vn, .string vs, .slice A n c] 45)).alloc (.cells #[.int .i64 0, .string ⟨#[]⟩, .bool false, .int .i64 0, .int .i64 0, .int .i64 0, .string ⟨#[]⟩, .slice none 0 0] 45)) 45 #[.int .i64 cat, .string name, .bool must, .int .i64 op, .int .i64 vk, .int .i64 vn, .string vs, .slice none 0 0])
  have e1 : (w.alloc (.cells #[.int .i64 cat, .string name, .bool must, .int .i64 op, .int .i64 vk, .int .i64 vn, .string vs, .slice A n c] 45)).heap.size = w.heap.size + 1 := size_al _ _
  have e2 : ((w.alloc (.cells #[.int .i64 cat, .string name, .bool must, .int .i64 op, .int .i64 vk, .int .i64 vn, .string vs, .slice A n c] 45)).alloc (.cells #[.int .i64 0, .string ⟨#[]⟩, .bool false, .int .i64 0, .int .i64 0, .int .i64 0, .string ⟨#[]⟩, .slice none 0 0] 45)).heap.size = w.heap.size + 2 := by rw [size_al, e1]
  have e3 : (((w.alloc (.cells #[.int .i64 cat, .string name, .bool must, .int .i64 op, .int .i64 vk, .int .i64 vn, .string vs, .slice A n c] 45)).alloc (.cells #[.int .i64 0, .string ⟨#[]⟩, .bool false, .int .i64 0, .int .i64 0, .int .i64 0, .string ⟨#[]⟩, .slice none 0 0] 45)).alloc (.cells #[.int .i64 cat, .string name, .bool must, .int .i64 op, .int .i64 vk, .int .i64 vn, .string vs, .slice none 0 0] 45)).heap.size = w.heap.size + 3 := by rw [size_al, e2]
  rw [e1] at OZ
  rw [e2] at OO
  have b1 : Below w.heap.size w (w.alloc (.cells #[.int .i64 cat, .string name, .bool must, .int .i64 op, .int .i64 vk, .int .i64 vn, .string vs, .slice A n c] 45)) := (Below.refl _ _).alloc (Nat.le_refl _) _
  have b2 : Below w.heap.size w ((w.alloc (.cells #[.int .i64 cat, .string name, .bool must, .int .i64 op, .int .i64 vk, .int .i64 vn, .string vs, .slice A n c] 45)).alloc (.cells #[.int .i64 0, .string ⟨#[]⟩, .bool false, .int .i64 0, .int .i64 0, .int .i64 0, .string ⟨#[]⟩, .slice none 0 0] 45)) := b1.alloc (by rw [e1]; omega) _
  have b3 : Below w.heap.size w (((w.alloc (.cells #[.int .i64 cat, .string name, .bool must, .int .i64 op, .int .i64 vk, .int .i64 vn, .string vs, .slice A n c] 45)).alloc (.cells #[.int .i64 0, .string ⟨#[]⟩, .bool false, .int .i64 0, .int .i64 0, .int .i64 0, .string ⟨#[]⟩, .slice none 0 0] 45)).alloc (.cells #[.int .i64 cat, .string name, .bool must, .int .i64 op, .int .i64 vk, .int .i64 vn, .string vs, .slice none 0 0] 45)) := b2.alloc (by rw [e2]; omega) _
  have k2 : Below (w.alloc (.cells #[.int .i64 cat, .string name, .bool must, .int .i64 op, .int .i64 vk, .int .i64 vn, .string vs, .slice A n c] 45)).heap.size (w.alloc (.cells #[.int .i64 cat, .string name, .bool must, .int .i64 op, .int .i64 vk, .int .i64 vn, .string vs, .slice A n c] 45)) ((w.alloc (.cells #[.int .i64 cat, .string name, .bool must, .int .i64 op, .int .i64 vk, .int .i64 vn, .string vs, .slice A n c] 45)).alloc (.cells #[.int .i64 0, .string ⟨#[]⟩, .bool false, .int .i64 0, .int .i64 0, .int .i64 0, .string ⟨#[]⟩, .slice none 0 0] 45)) := (Below.refl _ _).alloc (Nat.le_refl _) _
  have k3 : Below ((w.alloc (.cells #[.int .i64 cat, .string name, .bool must, .int .i64 op, .int .i64 vk, .int .i64 vn, .string vs, .slice A n c] 45)).alloc (.cells #[.int .i64 0, .string ⟨#[]⟩, .bool false, .int .i64 0, .int .i64 0, .int .i64 0, .string ⟨#[]⟩, .slice none 0 0] 45)).heap.size ((w.alloc (.cells #[.int .i64 cat, .string name, .bool must, .int .i64 op, .int .i64 vk, .int .i64 vn, .string vs, .slice A n c] 45)).alloc (.cells #[.int .i64 0, .string ⟨#[]⟩, .bool false, .int .i64 0, .int .i64 0, .int .i64 0, .string ⟨#[]⟩, .slice none 0 0] 45)) (((w.alloc (.cells #[.int .i64 cat, .string name, .bool must, .int .i64 op, .int .i64 vk, .int .i64 vn, .string vs, .slice A n c] 45)).alloc (.cells #[.int .i64 0, .string ⟨#[]⟩, .bool false, .int .i64 0, .int .i64 0, .int .i64 0, .string ⟨#[]⟩, .slice none 0 0] 45)).alloc (.cells #[.int .i64 cat, .string name, .bool must, .int .i64 op, .int .i64 vk, .int .i64 vn, .string vs, .slice none 0 0] 45)) := (Below.refl _ _).alloc (Nat.le_refl _) _
  have OA3 := Lib.hid ((OA.out.below k2 OA.out.lt).below k3 (by rw [e2]; omega))
  have OZ3 := Lib.hid (OZ.out.below k3 (by rw [e2]; omega))
  have B3 := Lib.hid b3
  have E3 := Lib.hid e3
  have cOA := OA.out.c8e
  clear ha hs b1 b2 b3 k2 k3 e1 e2 e3 OZ
  go_enter Try.func59, Try.ntmps59
  go_wp2_with fail
  refine (C1.out _).mono ?_
  rintro e w1 ⟨rfl, hb⟩
  have B4 := Lib.hid (below_step B3.out hb)
  have E4 : Hid (w.heap.size + 3 ≤ w1.heap.size) := by have h1 := hb.size; have h2 := E3.out; show _ ≤ _; omega
  have OA4 := Lib.hid (OA3.out.below hb OA3.out.lt)
  have OZ4 := Lib.hid (OZ3.out.below hb OZ3.out.lt)
  have OO4 := Lib.hid (OO.out.below hb OO.out.lt)
  clear hb cOA OA OA3 OZ3 OO B3 E3
  have cA := OA4.out.c8e
  have cO := OO4.out.c8e
  have fO := OO4.out.f8e
  go_wp2_with fail
  have o1 : Only (w.heap.size + 2) w1 (w1.setCell ⟨w.heap.size + 2, 1, none⟩ (.string name)) := Only.refl.setCell rfl _
  refine (C2.out _).mono ?_
  rintro e w2 ⟨rfl, hb⟩
  have o2 : Only (w.heap.size + 2) w1 w2 := o1.trans (Only.of_below hb)
  have B5 := Lib.hid (B4.out.trans (o2.below (by have := E4.out; omega) (by omega)))
  have E5 : Hid (w.heap.size + 3 ≤ w2.heap.size) := by have h1 := o2.size; have h2 := E4.out; show _ ≤ _; omega
  have OA5 := Lib.hid (OA4.out.keep (o2.heap OA4.out.lt (by omega)))
  have OZ5 := Lib.hid (OZ4.out.keep (o2.heap OZ4.out.lt (by omega)))
  have OO5 : Hid (Ob w2 (w.heap.size + 2) 45 #[.int .i64 cat, .string name, .bool must, .int .i64 op, .int .i64 vk, .int .i64 vn, .string vs, .slice none 0 0]) := Lib.hid (Ob.below (OO4.out.put 1 (.string name)) hb (Ob.lt (OO4.out.put 1 (.string name))))
  clear hb cA cO fO OA4 OZ4 OO4 B4 E4 o1 o2
  have cA := OA5.out.c8e
  have cO := OO5.out.c8e
  have fO := OO5.out.f8e
  obtain ⟨V, hV⟩ : ∃ V, w2.setCell ⟨w.heap.size + 2, 6, none⟩ (.string vs) = V := ⟨_, rfl⟩
  have o3 : Only (w.heap.size + 2) w2 V := by rw [← hV]; exact Only.refl.setCell rfl _
  have B6 := Lib.hid (B5.out.trans (o3.below (by have := E5.out; omega) (by omega)))
  have E6 : Hid (w.heap.size + 3 ≤ V.heap.size) := by have h1 := o3.size; have h2 := E5.out; show _ ≤ _; omega
  have OA6 := Lib.hid (OA5.out.keep (o3.heap OA5.out.lt (by omega)))
  have OZ6 := Lib.hid (OZ5.out.keep (o3.heap OZ5.out.lt (by omega)))
  have OO6 : Hid (Ob V (w.heap.size + 2) 45 #[.int .i64 cat, .string name, .bool must, .int .i64 op, .int .i64 vk, .int .i64 vn, .string vs, .slice none 0 0]) := by rw [← hV]; exact Lib.hid (OO5.out.put 6 (.string vs))
  have cA6 := OA6.out.c8e
  have HV := Lib.hid hV
  clear o3 OA5 OZ5 OO5 hV
  go_upto_region 4 with fail
  rw [HV.out]
  clear HV cA cO fO B5 E5
  go_wp2_with fail
  go_loopw [28] (fun i wr => ∃ (k : Nat) (A' : Option Addr) (c' : Nat), k ≤ n ∧ i = .int .i64 k ∧ OwN wr V.heap.size A' k c' (cond.take k) ∧ Ob wr (w.heap.size + 2) 45 #[.int .i64 cat, .string name, .bool must, .int .i64 op, .int .i64 vk, .int .i64 vn, .string vs, .slice A' k c'] ∧ Only (w.heap.size + 2) V wr) (fun i _ => n - (intOf i).toNat)
  case atStart => exact ⟨0, none, 0, Nat.zero_le _, rfl, OwN.nil _ _ (Nat.le_refl _), OO6.out, Only.refl⟩
  case round =>
    obtain ⟨k, A', c', hk, rfl, ho, hO, hV⟩ := hrel
    have HO := Lib.hid ho
    have OO7 := Lib.hid hO
    have HV := Lib.hid hV
    have B7 := Lib.hid (B6.out.trans (hV.below (by have := E6.out; omega) (by omega)))
    have OZ7 := Lib.hid (OZ6.out.keep (hV.heap OZ6.out.lt (by omega)))
    have E7 : Hid (w.heap.size + 3 ≤ wr.heap.size) := by have h1 := hV.size; have h2 := E6.out; show _ ≤ _; omega
    clear ho hO hV
    by_cases hlt : k < n
    · obtain ⟨b, o, x, rfl, hRb, hbl, hx, hok, ⟨x0, x1, x2, x3, x4, x5, x6⟩⟩ := (HA.out.keep (Kept.all B7.out _) (fun _ h _ => h)).at_ hlt
      obtain ⟨xop, ⟨xk, xn, xs⟩, ⟨xc, xm, xu⟩⟩ := x
      simp only at x0 x1 x2 x3 x4 x5 x6
      have HX := Lib.hid hx
      have HK := Lib.hid hok
      have hxs := HS.out.2.2 _ (List.mem_of_getElem? hx)
      have ON := Lib.hid (Ob.made wr 41 #[.int .i64 xop, .int .i64 xk, .int .i64 xn, .string xs, .int .i64 xc, .string xm, .bool xu])
      have a1 : Below wr.heap.size wr (wr.alloc (.cells #[.int .i64 xop, .int .i64 xk, .int .i64 xn, .string xs, .int .i64 xc, .string xm, .bool xu] 41)) := (Below.refl _ _).alloc (Nat.le_refl _) _
      have A1 := Lib.hid a1
      have Q1 := Lib.hid (vclone xm hxs.1 (wr.alloc (.cells #[.int .i64 xop, .int .i64 xk, .int .i64 xn, .string xs, .int .i64 xc, .string xm, .bool xu] 41)))
      have Q2 := Lib.hid (vclone xs hxs.2 (wr.alloc (.cells #[.int .i64 xop, .int .i64 xk, .int .i64 xn, .string xs, .int .i64 xc, .string xm, .bool xu] 41)))
      have y3 := fun d os => cell_regrown (ON.out.cell 3) d os
      have y5 := fun d os => cell_regrown (ON.out.cell 5) d os
      clear hx hok hxs a1
      go_upto_region 7 with fail
      refine wp_region_below_tail 10 (by kernel_rfl) (by kernel_rfl) ?_
      simp only [List.take_succ_cons, List.take_zero, List.drop_succ_cons, List.drop_zero]
      repeat (go_big_quiet_step ((first
        | (go_at_call 61; with_reducible exact Q1.out _ _)
        | (go_at_call 61; with_reducible exact Q2.out _ _))))
      refine wpQuiet_nil ?_
      intro _ hw'
      obtain ⟨⟨dq, osq⟩, hw''⟩ := hw'
      subst hw''
      have hbel := below_regrown (wr.alloc (.cells #[.int .i64 xop, .int .i64 xk, .int .i64 xn, .string xs, .int .i64 xc, .string xm, .bool xu] 41)) dq osq
      have b8 := below_step A1.out hbel
      have ON8 := Lib.hid (ON.out.below hbel ON.out.lt)
      have HO8 := Lib.hid (HO.out.below b8)
      have OO8 := Lib.hid (OO7.out.below b8 OO7.out.lt)
      have B8 := Lib.hid b8
      clear y3 y5 hbel Q1 Q2 ON b8
      dsimp only at ON8 HO8 OO8 B8 ⊢
      generalize grow (redrawn (wr.alloc (.cells #[.int .i64 xop, .int .i64 xk, .int .i64 xn, .string xs, .int .i64 xc, .string xm, .bool xu] 41)) dq) osq = w8 at *
      obtain ⟨V8, hV8⟩ : ∃ V8, (w8.setCell ⟨wr.heap.size, 5, none⟩ (.string xm)).setCell ⟨wr.heap.size, 3, none⟩ (.string xs) = V8 := ⟨_, rfl⟩
      have o8 : Only wr.heap.size w8 V8 := by rw [← hV8]; exact Only.setCell (p := ⟨wr.heap.size, 3, none⟩) (Only.setCell (p := ⟨wr.heap.size, 5, none⟩) Only.refl rfl _) rfl _
      have ON9 : Hid (Ob V8 wr.heap.size 41 #[.int .i64 xop, .int .i64 xk, .int .i64 xn, .string xs, .int .i64 xc, .string xm, .bool xu]) := by rw [← hV8]; exact Lib.hid ((ON8.out.put 5 (.string xm)).put 3 (.string xs))
      have HO9 := Lib.hid (HO8.out.apart o8 (fun e => by have := (HO.out.1.lt _ e).2; omega))
      have OO9 := Lib.hid (OO8.out.keep (o8.heap OO8.out.lt (by have := OO7.out.lt; omega)))
      have B9 : Hid (Below wr.heap.size wr V8) := Lib.hid (B8.out.trans (o8.below B8.out.size (Nat.le_refl _)))
      have HV8 := Lib.hid hV8
      have c8 := ON8.out.cell 5
      have c9 := ON8.out.cell 3
      have f8 := ON8.out.frozen 5
      have f9 := ON8.out.frozen 3
      clear o8 hV8 HO8 OO8 B8
      go_upto_region 8 with fail
      rw [HV8.out]
      clear HV8 c8 c9 f8 f9 ON8
      have cO := OO9.out.c8e
      have fO := OO9.out.f8e
      have cN := ON9.out.c7v
      obtain ⟨A5, c5, w5, r5, o5, b5⟩ := OwN.push (x := ⟨xop, ⟨xk, xn, xs⟩, ⟨xc, xm, xu⟩⟩) (ty := 42) HO9.out HK.out (by have := HN.out; omega)
      have R5 := Lib.hid r5
      have O5 := Lib.hid o5
      have OO5 := Lib.hid (OO9.out.below b5 (by have := E6.out; omega))
      have B5 := Lib.hid b5
      clear r5 o5 b5
      have cO5 := OO5.out.c8e
      have fO5 := OO5.out.f8e
      go_wp2_with (first
        | (at_builtin; refine wpList_append_run (o := ⟨some 48, _, _, _, _, _⟩) rfl _ _ _ _ rfl rfl rfl R5.out ?_))
      go_roundw
      case rel =>
        have o2 : Only (w.heap.size + 2) w5 (w5.setCell ⟨w.heap.size + 2, 7, none⟩ (.slice A5 (k + 1) c5)) := Only.refl.setCell rfl _
        have bv : Below V.heap.size wr w5 := (B9.out.mono (HV.out.size)).trans B5.out
        have h5 := O5.out.only o2 (by have := E6.out; omega)
        rw [show cond.take k ++ [(⟨xop, ⟨xk, xn, xs⟩, ⟨xc, xm, xu⟩⟩ : Nod)] = cond.take (k + 1) by rw [List.take_add_one, HX.out]; rfl] at h5
        have hv5 : Only (w.heap.size + 2) V w5 := ⟨bv.os.trans HV.out.os, bv.tape.trans HV.out.tape, bv.output.trans HV.out.output, Nat.le_trans HV.out.size bv.size, fun i hi hne => (bv.block i hi).trans (HV.out.block i hi hne)⟩
        exact ⟨k + 1, A5, c5, by omega, by go_num, h5, OO5.out.put 7 _, hv5.trans o2⟩
      case measure => simp [intOf]; omega
    · obtain rfl : k = n := by omega
      have cO := OO7.out.c8e
      have cZ := OZ7.out.c8e
      have fZ := OZ7.out.f8e
      have P8 := put8_ob8 OZ7.out (.int .i64 cat) (.string name) (.bool must) (.int .i64 op) (.int .i64 vk) (.int .i64 vn) (.string vs) (.slice A' k c')
      have PO := put8_only (V := wr) (P := w.heap.size + 1) (.int .i64 cat) (.string name) (.bool must) (.int .i64 op) (.int .i64 vk) (.int .i64 vn) (.string vs) (.slice A' k c')
      have hl := HO.out
      rw [List.take_of_length_le (by have := HA.out.len; omega)] at hl
      have hd := hl.nds (by have := HN.out; omega)
      have hV := HV.out
      have hsz := E6.out
      have hF : Nds (put8W wr (w.heap.size + 1) (.int .i64 cat) (.string name) (.bool must) (.int .i64 op) (.int .i64 vk) (.int .i64 vn) (.string vs) (.slice A' k c')) (fun b => w.heap.size ≤ b) A' k c' cond := hd.keep (PO.kept9 (fun b hb => by show b ≠ _; omega)) (fun b hb _ => by show w.heap.size ≤ b; omega)
      have hB : Below w.heap.size w (put8W wr (w.heap.size + 1) (.int .i64 cat) (.string name) (.bool must) (.int .i64 op) (.int .i64 vk) (.int .i64 vn) (.string vs) (.slice A' k c')) := B7.out.trans (PO.below (by have := E7.out; omega) (by omega))
      simp only [put8W, put7W, put1W, put2W, put3W, put4W, put5W, put6W] at P8 hF hB
      have P8' := Lib.hid P8
      have HF := Lib.hid hF
      have HB := Lib.hid hB
      clear P8 PO hl hd hV hsz hF hB
      go_wp2_with fail
      try simp only [Exit.inBlock, Exit.then]
      refine bodyPost_ret (atm_ret (a := ⟨⟨⟨cat, name, must⟩, op, ⟨vk, vn, vs⟩⟩, cond⟩) rfl rfl P8'.out) rfl ?_
      exact ⟨A', k, c', rfl, HB.out, HF.out⟩
end Go.Proofs.Ytadjfkgnoklmiaa
/- The atoms that vars.Of gathers: no more than one beyond the limit (plain). -/
namespace Go.Proofs.Ytadjfkgnoklmiaa
set_option linter.unusedVariables false

def gathA (l : List Atm) (a : Atm) : List Atm := if 64 < l.length ∨ a ∈ l then l else l ++ [a]
def gathsA (l m : List Atm) : List Atm := m.foldl gathA l
theorem gathsA_cons (l : List Atm) (a : Atm) (m : List Atm) : gathsA l (a :: m) = gathsA (gathA l a) m := rfl
theorem gathsA_app (l m k : List Atm) : gathsA l (m ++ k) = gathsA (gathsA l m) k := List.foldl_append
theorem gathsA_snoc (l m : List Atm) (a : Atm) : gathsA l (m ++ [a]) = gathA (gathsA l m) a := by rw [gathsA_app]; rfl
theorem gathA_len {l : List Atm} (a : Atm) (h : l.length ≤ 65) : (gathA l a).length ≤ 65 ∧ l.length ≤ (gathA l a).length := by
  unfold gathA
  split
  · exact ⟨h, Nat.le_refl _⟩
  · rename_i hn
    rw [List.length_append]
    simp only [List.length_cons, List.length_nil]
    omega
theorem gathsA_len : ∀ (m : List Atm) {l : List Atm}, l.length ≤ 65 → (gathsA l m).length ≤ 65 ∧ l.length ≤ (gathsA l m).length
  | [], l, h => ⟨h, Nat.le_refl _⟩
  | a :: m, l, h => by
    have h1 := gathA_len a h
    have h2 := gathsA_len m h1.1
    rw [gathsA_cons]
    omega
theorem addA_len (l : List Atm) (a : Atm) : l.length ≤ (addA l a).length := by
  unfold addA
  split
  · exact Nat.le_refl _
  · rw [List.length_append]; omega
theorem addsA_len : ∀ (m l : List Atm), l.length ≤ (addsA l m).length
  | [], l => Nat.le_refl _
  | a :: m, l => Nat.le_trans (addA_len l a) (addsA_len m _)
theorem gathA_add {l : List Atm} {a : Atm} (h : l.length ≤ 64) : gathA l a = addA l a := by
  unfold gathA addA
  by_cases ha : a ∈ l
  · rw [if_pos (.inr ha), if_pos ha]
  · rw [if_neg (by rintro (h1 | h1); exact absurd h (by omega); exact ha h1), if_neg ha]
theorem gathsA_few : ∀ (m : List Atm) {l : List Atm}, (addsA l m).length ≤ 64 → gathsA l m = addsA l m
  | [], l, h => rfl
  | a :: m, l, h => by
    have h0 := addsA_len (a :: m) l
    rw [gathsA_cons, gathA_add (by omega), addsA_cons]
    exact gathsA_few m (by rwa [addsA_cons] at h)
theorem gathsA_many : ∀ (m : List Atm) {l : List Atm}, l.length ≤ 65 → (gathsA l m).length ≤ 64 → gathsA l m = addsA l m
  | [], l, _, h => rfl
  | a :: m, l, hl, h => by
    have h0 := gathsA_len (a :: m) hl
    have h1 := gathA_len a hl
    rw [gathsA_cons] at h0 h ⊢
    rw [addsA_cons, ← gathA_add (a := a) (by omega)]
    exact gathsA_many m h1.1 h
def gathP (p : Pol) : List Atm := gathsA [] (polA p)
theorem gath_len (p : Pol) : (gathP p).length ≤ 65 := (gathsA_len _ (by simp)).1
theorem gath_few {p : Pol} (h : (gathP p).length ≤ 64) : gathP p = atomsP p := gathsA_many _ (by simp) h
theorem atoms_few {p : Pol} (h : (atomsP p).length ≤ 64) : gathP p = atomsP p := gathsA_few _ h
theorem nodup_sub_len {α : Type} [DecidableEq α] : ∀ {l m : List α}, l.Nodup → (∀ x ∈ l, x ∈ m) → l.length ≤ m.length
  | [], m, _, _ => Nat.zero_le _
  | a :: l, m, hd, h => by
    rw [List.nodup_cons] at hd
    have ha := h a (by simp)
    have := nodup_sub_len (m := m.erase a) hd.2 fun x hx => (List.mem_erase_of_ne (by rintro rfl; exact hd.1 hx)).2 (h x (by simp [hx]))
    rw [List.length_erase_of_mem ha] at this
    have := List.length_pos_of_mem ha
    simp only [List.length_cons]
    omega
theorem kid_few {p k : Pol} (hk : k ∈ p.kids) (h : (atomsP p).length ≤ 64) : (atomsP k).length ≤ 64 :=
  Nat.le_trans (nodup_sub_len (atoms_nodup k) fun x hx => atoms_kid hk hx) h
theorem no_kids_of {p : Pol} (h : rightE p = 0) (hs : p.set = false) : p.kids = [] := by
  have e0 : polS (3 + 1) p ⟨[], 0⟩ = (0, (polS 4 p ⟨[], 0⟩).2) := by unfold rightE at h; rw [← h]
  have h2 := (polE_parts e0).1
  unfold fitsB at h2
  rw [hs] at h2
  simp at h2
  exact h2.2.1
end Go.Proofs.Ytadjfkgnoklmiaa
/- vars.with: one more atom, if it isn't there. -/
namespace Go.Proofs.Ytadjfkgnoklmiaa
set_option linter.unusedVariables false
open Go.RowKit

def GrA (w : World) (base : Nat) (A : Option Addr) (n c : Nat) (l : List Atm) : Prop := Gr 8 AtmAt w base 45 A n c l
theorem GrA.len {w : World} {base n c : Nat} {A : Option Addr} {l : List Atm} (h : GrA w base A n c l) : l.length = n := Gr.len h
theorem GrA.below {w w' : World} {base n c : Nat} {A : Option Addr} {l : List Atm} (h : GrA w base A n c l) (hb : Below w.heap.size w w') : GrA w' base A n c l := Gr.below keeps_atm h hb
theorem GrA.ats {w : World} {base n c : Nat} {A : Option Addr} {l : List Atm} (h : GrA w base A n c l) (hn : n ≤ 1000000) : Ats w (fun b => base ≤ b) A n c l := Gr.rw keeps_atm h (by omega)
theorem find_yes {l : List Atm} {a : Atm} (h : a ∈ l) : 0 ≤ findA l a := by
  have h1 := find_no (l := l) (a := a)
  have h2 : ¬ findA l a < 0 := fun e => h1.1 e h
  omega
set_option maxRecDepth 100000 in
set_option maxHeartbeats 3200000 in
theorem vwith_any {w : World} {base n c : Nat} {A : Option Addr} {l : List Atm} (h : GrA w base A n c l) (hn : n ≤ 65) {R : Nat → Prop} {A2 : Option Addr} {n2 c2 : Nat} {a : Atm} (ha : Nds w R A2 n2 c2 a.c) (hok : a.m.ok) (hs : ShortA a) :
    Calls Try.prog 31 #[.slice A n c, .agg #[.int .i64 a.m.a.cat, .string a.m.a.name, .bool a.m.a.must, .int .i64 a.m.op, .int .i64 a.m.v.k, .int .i64 a.m.v.n, .string a.m.v.s, .slice A2 n2 c2]] w fun e w' => ∃ A' n' c', e = .returned (.slice A' n' c') ∧ GrA w' base A' n' c' (gathA l a) ∧ Grew (.slice A n c) (.slice A' n' c') w w' := by
  have hlen := h.len
  have b1 : Below w.heap.size w (w.alloc (.cells #[.int .i64 a.m.a.cat, .string a.m.a.name, .bool a.m.a.must, .int .i64 a.m.op, .int .i64 a.m.v.k, .int .i64 a.m.v.n, .string a.m.v.s, .slice A2 n2 c2] 45)) := (Below.refl _ _).alloc (Nat.le_refl _) _
  have OB := Lib.hid (Ob.made w 45 #[.int .i64 a.m.a.cat, .string a.m.a.name, .bool a.m.a.must, .int .i64 a.m.op, .int .i64 a.m.v.k, .int .i64 a.m.v.n, .string a.m.v.s, .slice A2 n2 c2])
  have G1 := Lib.hid (h.below b1)
  have N1 := Lib.hid (ha.keep (Kept.all b1 R) (fun _ h _ => h))
  have B1 := Lib.hid b1
  have cB := OB.out.c8e
  clear b1 ha
  by_cases hc : 64 < n
  · have HE : Hid (gathA l a = l) := by show _ = _; unfold gathA; rw [if_pos (.inl (by omega))]
    have hci : (64 : Int) < (n : Int) := by omega
    clear hlen
    go_enter Try.func31, Try.ntmps31
    go_wp2_with fail
    go_ret
    exact ⟨A, n, c, rfl, by rw [HE.out]; exact G1.out, Grew.of_below B1.out _⟩
  · have hci : ¬ (64 : Int) < (n : Int) := by omega
    have FI := Lib.hid (vfind_any (G1.out.ats (by omega)) N1.out)
    by_cases hm : a ∈ l
    · have HE : Hid (gathA l a = l) := by show _ = _; unfold gathA; rw [if_pos (.inr hm)]
      have hz := find_yes hm
      generalize findA l a = z at *
      clear hlen hm
      go_enter Try.func31, Try.ntmps31
      go_wp2_with fail
      refine FI.out.mono ?_
      rintro e w1 ⟨rfl, hb⟩
      have B2 := Lib.hid (below_step B1.out hb)
      have G2 := Lib.hid (G1.out.below hb)
      clear hb
      go_wp2_with fail
      go_ret
      exact ⟨A, n, c, rfl, by rw [HE.out]; exact G2.out, Grew.of_below B2.out _⟩
    · have HE : Hid (gathA l a = l ++ [a]) := by show _ = _; unfold gathA; rw [if_neg]; rintro (h1 | h1); omega; exact hm h1
      have hz : ¬ 0 ≤ findA l a := by have := (find_no (l := l) (a := a)).2 hm; omega
      have HK := Lib.hid hok
      have HS := Lib.hid hs
      generalize findA l a = z at *
      clear hlen hm
      go_enter Try.func31, Try.ntmps31
      go_wp2_with fail
      refine FI.out.mono ?_
      rintro e w1 ⟨rfl, hb⟩
      have B2 := Lib.hid (below_step B1.out hb)
      have G2 := Lib.hid (G1.out.below hb)
      have N2 := Lib.hid (N1.out.keep (Kept.all hb R) (fun _ h _ => h))
      have OB2 := Lib.hid (OB.out.below hb OB.out.lt)
      clear hb cB OB N1 G1
      have cB := OB2.out.c8e
      go_wp2_with fail
      refine (apart_any N2.out HS.out).mono ?_
      rintro e w2 ⟨A3, n3, c3, rfl, hb, hd⟩
      have B3 := Lib.hid (below_step B2.out hb)
      obtain ⟨A5, c5, w5, r5, g5, gr5⟩ := push_atm (x := a) (Gr.below keeps_atm G2.out hb) HK.out (hd.keep (Kept.refl _ _) (fun b hb _ => G2.out.apart b hb)) (by omega)
      have R5 := Lib.hid r5
      have G5 : Hid (GrA w5 base A5 (n + 1) c5 (l ++ [a])) := Lib.hid g5
      have GR5 := Lib.hid ((Grew.of_below B3.out (.slice A n c)).trans gr5)
      clear hb hd r5 g5 gr5 cB
      go_wp2_with (first
        | (at_builtin; refine wpList_append_run (o := ⟨some 19, _, _, _, _, _⟩) rfl _ _ _ _ rfl rfl rfl R5.out ?_))
      go_ret
      exact ⟨A5, n + 1, c5, rfl, by rw [HE.out]; exact G5.out, GR5.out⟩
end Go.Proofs.Ytadjfkgnoklmiaa
/- vars.ofCond, vars.ofTarget. -/
namespace Go.Proofs.Ytadjfkgnoklmiaa
set_option linter.unusedVariables false
open Go.RowKit

theorem flat_step {α β : Type} {f : α → List β} {l : List α} {k : Nat} {x : α} (h : l[k]? = some x) : (l.take (k + 1)).flatMap f = (l.take k).flatMap f ++ f x := by
  rw [List.take_add_one, h]
  simp
theorem amap_step {α β : Type} {f : α → β} {l : List α} {k : Nat} {x : α} (h : l[k]? = some x) : (l.take (k + 1)).map f = (l.take k).map f ++ [f x] := by
  rw [List.take_add_one, h]
  simp
def anyA (o : List (List Mat)) : List Atm := o.flatMap fun a => a.map matA
def Gat (w : World) (base : Nat) (A : Option Addr) (n c : Nat) (l : List Atm) (wr : World) (v : Value) (L : List Atm) : Prop :=
  ∃ A' n' c', v = .slice A' n' c' ∧ GrA wr base A' n' c' (gathsA l L) ∧ Grew (.slice A n c) (.slice A' n' c') w wr
theorem zeroM_ok : zeroM.ok := by decide +kernel
set_option maxRecDepth 100000 in
set_option maxHeartbeats 1600000 in
theorem vcond_any {w : World} {base n c : Nat} {A : Option Addr} {l : List Atm} (h : GrA w base A n c l) (hn : n ≤ 65) {R : Nat → Prop} {A2 : Option Addr} {n2 c2 : Nat} {cond : List Nod} (ha : Nds w R A2 n2 c2 cond) (hs : ∀ x ∈ condA cond, ShortA x) :
    Calls Try.prog 22 #[.slice A n c, .slice A2 n2 c2] w fun e w' => ∃ A' n' c', e = .returned (.slice A' n' c') ∧ GrA w' base A' n' c' (gathsA l (condA cond)) ∧ Grew (.slice A n c) (.slice A' n' c') w w' := by
  have hlen := ha.len
  by_cases h0 : n2 = 0
  · subst h0
    obtain rfl : cond = [] := List.eq_nil_of_length_eq_zero hlen
    have H := Lib.hid h
    clear h ha hs hlen
    go_enter Try.func22, Try.ntmps22
    go_wp2_with fail
    go_ret
    exact ⟨A, n, c, rfl, H.out, Grew.refl _ _⟩
  · have hne : cond ≠ [] := by rintro rfl; exact h0 hlen.symm
    have e : condA cond = [conA cond] := if_neg hne
    have HC : Calls Try.prog 31 #[.slice A n c, .agg #[.int .i64 0, .string ⟨#[]⟩, .bool false, .int .i64 0, .int .i64 0, .int .i64 0, .string ⟨#[]⟩, .slice A2 n2 c2]] w fun e w' => ∃ A' n' c', e = .returned (.slice A' n' c') ∧ GrA w' base A' n' c' (gathA l (conA cond)) ∧ Grew (.slice A n c) (.slice A' n' c') w w' :=
      vwith_any (a := conA cond) h hn ha zeroM_ok (hs _ (by rw [e]; simp))
    have HE : Hid (gathsA l (condA cond) = gathA l (conA cond)) := by show _ = _; rw [e]; rfl
    have HCC := Lib.hid HC
    have h0' : ((n2 : Int) == 0) = false := by simpa using h0
    clear h ha hs hlen hne e HC
    go_enter Try.func22, Try.ntmps22
    go_wp2_with fail
    refine HCC.out.mono ?_
    rintro e w1 ⟨A', n', c', rfl, hg, hr⟩
    have HG := Lib.hid hg
    have HR := Lib.hid hr
    clear hg hr
    go_wp2_with fail
    go_ret
    exact ⟨A', n', c', rfl, by rw [HE.out]; exact HG.out, HR.out⟩
set_option maxRecDepth 100000 in
set_option maxHeartbeats 3200000 in
theorem vtarget_any {w : World} {base n c : Nat} {A : Option Addr} {l : List Atm} (h : GrA w base A n c l) (hn : n ≤ 65) {R : Nat → Prop} (hR : ∀ b, R b → b < base) {A2 : Option Addr} {n2 c2 : Nat} {t : Tgt} (ht : Tg w R A2 n2 c2 t) (hs : ∀ x ∈ tgA t, ShortA x) :
    Calls Try.prog 21 #[.slice A n c, .slice A2 n2 c2] w fun e w' => ∃ A' n' c', e = .returned (.slice A' n' c') ∧ GrA w' base A' n' c' (gathsA l (tgA t)) ∧ Grew (.slice A n c) (.slice A' n' c') w w' := by
  have hle := Rw.le ht
  have hcap := Rw.cap ht
  have HL := Lib.hid (Rw.len ht)
  have hbig := Rw.big ht
  unfold maxLen at hcap
  have H := Lib.hid ht
  have HS := Lib.hid hs
  have HN : Hid (∀ L, (gathsA l L).length ≤ 65) := fun L => (gathsA_len L (by rw [h.len]; exact hn)).1
  have HB := Lib.hid (fun b (hb : R b) => Gr.below_own h (.inl (hR b hb)))
  have H0 := Lib.hid h
  clear h ht hs hR hn
  go_enter Try.func21, Try.ntmps21
  go_wp2
  go_loopw [0, 13] (fun v i wr => ∃ k : Nat, k ≤ n2 ∧ i = .int .i64 k ∧ Gat w base A n c l wr v (tgA (t.take k))) (fun v i _ => n2 - (intOf i).toNat)
  case atStart => exact ⟨0, Nat.zero_le _, rfl, A, n, c, rfl, H0.out, Grew.refl _ _⟩
  case round =>
    obtain ⟨wo, hwo⟩ : ∃ wo, wo = wr := ⟨wr, rfl⟩
    subst hwo
    obtain ⟨k, hk, rfl, A3, n3, c3, rfl, hg, hr⟩ := hrel
    have HG := Lib.hid hg
    have HR := Lib.hid hr
    clear hg hr
    by_cases hlt : k < n2
    · obtain ⟨b, o, x, A4, n4, c4, rfl, hRb, hbl, hx, d0, hin⟩ := H.out.at_ hlt
      have d0' := (World.cell?_of_block ((HR.out.kept HB.out).2 b hRb hbl)).trans d0
      have HX := Lib.hid hx
      have HIN := Lib.hid hin
      have hle4 := Rw.le hin
      have hcap4 := Rw.cap hin
      unfold maxLen at hcap4
      clear hx hin d0
      go_wp2_with fail
      go_loopw [0, 19] (fun v i wq => ∃ j : Nat, j ≤ n4 ∧ i = .int .i64 j ∧ Gat w base A n c l wq v (tgA (t.take k) ++ anyA (x.take j))) (fun v i _ => n4 - (intOf i).toNat)
      case atStart => exact ⟨0, Nat.zero_le _, rfl, A3, n3, c3, rfl, by simpa [anyA] using HG.out, HR.out⟩
      case round =>
        obtain ⟨wq, hwq⟩ : ∃ wq, wq = wr := ⟨wr, rfl⟩
        subst hwq
        clear HG HR d0'
        obtain ⟨j, hj, rfl, A3, n3, c3, rfl, hg, hr⟩ := hrel
        have HG := Lib.hid hg
        have HR := Lib.hid hr
        clear hg hr
        by_cases hlt2 : j < n4
        · obtain ⟨b2, o2, y, A5, n5, c5, rfl, hRb2, hbl2, hy, e0, hin2⟩ := HIN.out.at_ hlt2
          have e0' := (World.cell?_of_block ((HR.out.kept HB.out).2 b2 hRb2 hbl2)).trans e0
          have HY := Lib.hid hy
          have HIN2 := Lib.hid hin2
          have hle5 := Rw.le hin2
          have hcap5 := Rw.cap hin2
          unfold maxLen at hcap5
          clear hy hin2 e0
          go_wp2_with fail
          go_loopw [0, 25] (fun v i wz => ∃ q : Nat, q ≤ n5 ∧ i = .int .i64 q ∧ Gat w base A n c l wz v (tgA (t.take k) ++ anyA (x.take j) ++ (y.take q).map matA)) (fun v i _ => n5 - (intOf i).toNat)
          case atStart => exact ⟨0, Nat.zero_le _, rfl, A3, n3, c3, rfl, by simpa using HG.out, HR.out⟩
          case round =>
            obtain ⟨wz, hwz⟩ : ∃ wz, wz = wr := ⟨wr, rfl⟩
            subst hwz
            clear HG HR e0'
            obtain ⟨q, hq, rfl, A3, n3, c3, rfl, hg, hr⟩ := hrel
            have HG := Lib.hid hg
            have HR := Lib.hid hr
            clear hg hr
            by_cases hlt3 : q < n5
            · obtain ⟨b3, o3, z, rfl, hRb3, hbl3, hz, hok, f0, f1, f2, f3, f4, f5, f6⟩ := HIN2.out.at_ hlt3
              have hbk := (HR.out.kept HB.out).2 b3 hRb3 hbl3
              have f0 := (World.cell?_of_block hbk).trans f0
              have f1 := (World.cell?_of_block hbk).trans f1
              have f2 := (World.cell?_of_block hbk).trans f2
              have f3 := (World.cell?_of_block hbk).trans f3
              have f4 := (World.cell?_of_block hbk).trans f4
              have f5 := (World.cell?_of_block hbk).trans f5
              have f6 := (World.cell?_of_block hbk).trans f6
              have HZ := Lib.hid hz
              have hmem : matA z ∈ tgA t := mem_tgA (List.mem_of_getElem? HX.out) (List.mem_of_getElem? HY.out) (List.mem_of_getElem? hz)
              have a1 : Below wz.heap.size wz (wz.alloc (.cells #[.int .i64 z.a.cat, .string z.a.name, .bool z.a.must, .int .i64 z.op, .int .i64 z.v.k, .int .i64 z.v.n, .string z.v.s] 39)) := (Below.refl _ _).alloc (Nat.le_refl _) _
              have HC := Lib.hid (vwith_any (a := matA z) (R := fun _ => True) (A2 := none) (n2 := 0) (c2 := 0) (HG.out.below a1) (by rw [← HG.out.len]; exact HN.out _) (Rw.nil_ _ _ _ _) hok (HS.out _ hmem))
              have A1 := Lib.hid a1
              clear hz hok hmem hbk a1
              go_wp2_with fail
              refine HC.out.mono ?_
              rintro e w1 ⟨A6, n6, c6, rfl, hg, hr⟩
              have HG2 := Lib.hid hg
              have HR2 := Lib.hid ((HR.out.trans (Grew.of_below A1.out _)).trans hr)
              clear hg hr
              go_wp2_with fail
              go_roundw
              case rel => exact ⟨q + 1, by omega, by go_num, A6, n6, c6, rfl, by rw [amap_step HZ.out, ← List.append_assoc, gathsA_snoc]; exact HG2.out, HR2.out⟩
              case measure => simp [intOf]; omega
            · obtain rfl : q = n5 := by omega
              have hl5 := HIN2.out.len
              go_wp2_with fail
              go_roundw
              case rel => exact ⟨j + 1, by omega, by go_num, A3, n3, c3, rfl, by
                have e : anyA (x.take (j + 1)) = anyA (x.take j) ++ y.map matA := flat_step HY.out
                have h := HG.out
                rw [show y.take q = y from List.take_of_length_le (by have := Rw.len HIN2.out; omega), List.append_assoc, ← e] at h
                exact h, HR.out⟩
              case measure => simp [intOf]; omega
        · obtain rfl : j = n4 := by omega
          go_wp2_with fail
          go_roundw
          case rel => exact ⟨k + 1, by omega, by go_num, A3, n3, c3, rfl, by
            have e : tgA (t.take (k + 1)) = tgA (t.take k) ++ anyA x := flat_step HX.out
            have h := HG.out
            rw [show x.take j = x from List.take_of_length_le (by have := Rw.len HIN.out; omega), ← e] at h
            exact h, HR.out⟩
          case measure => simp [intOf]; omega
    · obtain rfl : k = n2 := by omega
      go_wp2_with fail
      go_ret
      exact ⟨A3, n3, c3, rfl, by have h := HG.out; rwa [show t.take k = t from List.take_of_length_le (by have := HL.out; omega)] at h, HR.out⟩
end Go.Proofs.Ytadjfkgnoklmiaa
/- vars.ofPolicy. -/
namespace Go.Proofs.Ytadjfkgnoklmiaa
set_option linter.unusedVariables false
open Go.RowKit

def VOk (d : Nat) : Prop :=
  ∀ {w : World} {base n c : Nat} {A : Option Addr} {l : List Atm} {R : Nat → Prop} {p : Pol} {A1 A2 A3 A4 : Option Addr} {n1 k1 n2 k2 n3 k3 n4 k4 : Nat}, GrA w base A n c l → n ≤ 65 → (∀ b, R b → b < base) →
    Tg w R A1 n1 k1 p.tg → Rus w R A2 n2 k2 p.rules → Pls w R d A3 n3 k3 p.kids → (∀ x ∈ polA p, ShortA x) →
    Calls Try.prog 12 #[.slice A n c, .agg #[.string p.id, .bool p.set, .int .i64 p.alg, .slice A1 n1 k1, .slice A2 n2 k2, .slice A3 n3 k3, .slice A4 n4 k4]] w fun e w' => ∃ A' n' c', e = .returned (.slice A' n' c') ∧ GrA w' base A' n' c' (gathsA l (polA p)) ∧ Grew (.slice A n c) (.slice A' n' c') w w'
theorem Gat.ob {w wr : World} {base n c g : Nat} {A : Option Addr} {l L : List Atm} {v : Value} {t : TypeId} {cs : Array Value} (h : Gat w base A n c l wr v L) (o : Ob w g t cs) (hg : some g ≠ (Value.slice A n c).ownBlock) : Ob wr g t cs := by
  obtain ⟨A', n', c', rfl, h1, h2⟩ := h
  exact h2.ob o hg
set_option maxRecDepth 100000 in
set_option maxHeartbeats 6400000 in
theorem vpol_step (d : Nat) (ih : ∀ d', d = d' + 1 → VOk d') : VOk d := by
  intro w base n c A l R p A1 A2 A3 A4 n1 k1 n2 k2 n3 k3 n4 k4 h hn hR t1 t2 t3 hs
  have b1 : Below w.heap.size w (w.alloc (.cells #[.string p.id, .bool p.set, .int .i64 p.alg, .slice A1 n1 k1, .slice A2 n2 k2, .slice A3 n3 k3, .slice A4 n4 k4] 32)) := (Below.refl _ _).alloc (Nat.le_refl _) _
  have OB := Lib.hid (Ob.made w 32 #[.string p.id, .bool p.set, .int .i64 p.alg, .slice A1 n1 k1, .slice A2 n2 k2, .slice A3 n3 k3, .slice A4 n4 k4])
  have G1 := Lib.hid (h.below b1)
  have H1 := Lib.hid (t1.keep (Kept.all b1 R) (fun _ h _ => h))
  have H2 := Lib.hid (t2.keep (Kept.all b1 R) (fun _ h _ => h))
  have H3 := Lib.hid (t3.keep (Kept.all b1 R) (fun _ h _ => h))
  have hle2 := Rw.le t2
  have hcap2 := Rw.cap t2
  have hle3 := Rw.le t3
  have hcap3 := Rw.cap t3
  unfold maxLen at hcap2 hcap3
  have HL2 := Lib.hid (Rw.len t2)
  have HL3 := Lib.hid (Rw.len t3)
  have HN : Hid (∀ L, (gathsA l L).length ≤ 65) := fun L => (gathsA_len L (by rw [h.len]; exact hn)).1
  have HB := Lib.hid (fun b (hb : R b) => Gr.below_own h (.inl (hR b hb)))
  have HNE := Lib.hid (Gr.below_own h (.inr (Nat.le_refl w.heap.size)))
  have HR0 := Lib.hid hR
  have HIH := Lib.hid ih
  have HE := Lib.hid (polA_eq p)
  have HS := Lib.hid hs
  have B1 := Lib.hid b1
  have HC1 := Lib.hid (vtarget_any (hR := hR) G1.out hn H1.out (fun x hx => hs x (by rw [polA_eq]; simp [hx])))
  have q3 := OB.out.cell 3
  obtain ⟨W, hW⟩ : ∃ W, (w.alloc (.cells #[.string p.id, .bool p.set, .int .i64 p.alg, .slice A1 n1 k1, .slice A2 n2 k2, .slice A3 n3 k3, .slice A4 n4 k4] 32)) = W := ⟨_, rfl⟩
  have HW := Lib.hid hW
  clear hW
  clear h hn hR t1 t2 t3 hs ih b1
  go_enter Try.func12, Try.ntmps12
  go_wp2_with fail
  refine HC1.out.mono ?_
  have hW := HW.out
  rw [hW] at HC1 OB G1 H1 H2 H3 B1 ⊢
  clear hW HW q3
  rintro e w1 ⟨A5, n5, c5, rfl, hg, hr⟩
  have HG := Lib.hid hg
  have HR := Lib.hid hr
  have OB1 := Lib.hid (hr.ob OB.out HNE.out)
  have q4 := OB1.out.cell 4
  clear hg hr HC1
  go_wp2_with fail
  go_loopw [0, 16] (fun v i wr => ∃ k : Nat, k ≤ n2 ∧ i = .int .i64 k ∧ Gat W base A n c l wr v (tgA p.tg ++ (p.rules.take k).flatMap rulA)) (fun v i _ => n2 - (intOf i).toNat)
  case atStart => exact ⟨0, Nat.zero_le _, rfl, A5, n5, c5, rfl, by simpa using HG.out, HR.out⟩
  case round =>
    clear q4 OB1 HG HR
    obtain ⟨k, hk, rfl, A5, n5, c5, rfl, hg, hr⟩ := hrel
    have HG := Lib.hid hg
    have HR := Lib.hid hr
    have OB1 := Lib.hid (hr.ob OB.out HNE.out)
    clear hg hr
    by_cases hlt : k < n2
    · obtain ⟨b, o, r, B1', m1, d1, B2, m2, d2, B3, m3, d3, rfl, hRb, hbl, hx, hid, ⟨x0, x1, x2, x3, x4⟩, s1, s2, s3⟩ := H2.out.at_ hlt
      have hbk := (HR.out.kept HB.out).2 b hRb hbl
      have x0 := (World.cell?_of_block hbk).trans x0
      have x1 := (World.cell?_of_block hbk).trans x1
      have x2 := (World.cell?_of_block hbk).trans x2
      have x3 := (World.cell?_of_block hbk).trans x3
      have x4 := (World.cell?_of_block hbk).trans x4
      have HX := Lib.hid hx
      have hsub : ∀ y ∈ rulA r, ShortA y := fun y hy => HS.out y (by
        rw [HE.out]
        have : y ∈ p.rules.flatMap rulA := List.mem_flatMap.2 ⟨r, List.mem_of_getElem? hx, hy⟩
        simp [this])
      have HSR := Lib.hid hsub
      have S1 := Lib.hid s1
      have S2 := Lib.hid s2
      have ON := Lib.hid (Ob.made wr 51 #[.string r.id, .bool r.deny, .slice B1' m1 d1, .slice B2 m2 d2, .slice B3 m3 d3])
      have a1 : Below wr.heap.size wr (wr.alloc (.cells #[.string r.id, .bool r.deny, .slice B1' m1 d1, .slice B2 m2 d2, .slice B3 m3 d3] 51)) := (Below.refl _ _).alloc (Nat.le_refl _) _
      have A1 := Lib.hid a1
      have HNR := Lib.hid (Gr.below_own HG.out (.inr (Nat.le_refl wr.heap.size)))
      clear hx hsub s1 s2 s3 a1 hid hbk
      obtain ⟨V, hV⟩ : ∃ V, wr.alloc (.cells #[.string r.id, .bool r.deny, .slice B1' m1 d1, .slice B2 m2 d2, .slice B3 m3 d3] 51) = V := ⟨_, rfl⟩
      rw [hV] at ON A1
      have HV := Lib.hid hV
      clear hV
      go_upto_region 5 with fail
      rw [HV.out]
      clear HV x0 x1 x2 x3 x4
      refine wp_region_held_tail (fun w' => Ob w' wr.heap.size 51 #[.string r.id, .bool r.deny, .slice B1' m1 d1, .slice B2 m2 d2, .slice B3 m3 d3]) 7 (by kernel_rfl) (by kernel_rfl) ?_
      intro G
      change HeadW _ _ _ _ _ _ _ _ _ _ (V.drewN 1)
      have e1 : Below V.heap.size V (V.drewN 1) := below_drewN (Below.refl _ _) 1
      have S := Lib.hid (ON.out.below e1 ON.out.lt)
      have G2 := Lib.hid ((HG.out.below A1.out).below e1)
      have R2 := Lib.hid ((HR.out.trans (Grew.of_below A1.out _)).trans (Grew.of_below e1 _))
      clear e1 ON
      generalize V.drewN 1 = y0 at *
      have hk0 := R2.out.kept HB.out
      have HC2 := Lib.hid (vtarget_any (hR := HR0.out) G2.out (by rw [← G2.out.len]; exact HN.out _) (S1.out.keep hk0 (fun _ h _ => h)) (fun x hx => HSR.out x (List.mem_append.2 (.inl hx))))
      clear hk0
      refine HeadW_take (i := 0) (v := ?_) G rfl (by kernel_rfl) (by kernel_rfl) (by kernel_rfl) (fun _ _ _ h => h) (Or.inl ⟨by rfl, ?_⟩) S.out ?_
      rotate_left
      · intro wz hS
        have hc2 := Ob.cell hS 2
        have hc3 := Ob.cell hS 3
        go_simp
        try with_reducible rfl
      refine HeadW_take (i := 1) (v := ?_) G rfl (by kernel_rfl) (by kernel_rfl) (by kernel_rfl) (fun _ _ _ h => h) (Or.inl ⟨by rfl, ?_⟩) S.out ?_
      rotate_left
      · intro wz hS
        have hc2 := Ob.cell hS 2
        have hc3 := Ob.cell hS 3
        go_simp
        try with_reducible rfl
      refine HeadW_take (i := 2) (v := ?_) G rfl (by kernel_rfl) (by kernel_rfl) (by kernel_rfl) (fun _ _ _ h => h) (Or.inl ⟨by rfl, ?_⟩) S.out ?_
      rotate_left
      · intro wz hS
        have hc2 := Ob.cell hS 2
        have hc3 := Ob.cell hS 3
        go_simp
        try with_reducible rfl
      refine HeadW_take (i := 4) (v := ?_) G rfl (by kernel_rfl) (by kernel_rfl) (by kernel_rfl) (fun _ _ _ h => h) (Or.inl ⟨by rfl, ?_⟩) S.out ?_
      rotate_left
      · intro wz hS
        have hc2 := Ob.cell hS 2
        have hc3 := Ob.cell hS 3
        go_simp
        try with_reducible rfl
      refine HeadW_take (i := 5) (v := ?_) G rfl (by kernel_rfl) (by kernel_rfl) (by kernel_rfl) (fun _ _ _ h => h) (Or.inl ⟨by rfl, ?_⟩) S.out ?_
      rotate_left
      · intro wz hS
        have hc2 := Ob.cell hS 2
        have hc3 := Ob.cell hS 3
        go_simp
        try with_reducible rfl
      refine HeadW_ready (rs := [3]) (by kernel_rfl) rfl rfl ?_
      refine AllW.cons rfl (fun K hK => ?_) AllW.nil
      go_simp
      refine HC2.out.mono ?_
      rintro e y1 ⟨A6, n6, c6, rfl, hg, hr⟩
      have G3 := Lib.hid hg
      have R3 := Lib.hid (R2.out.trans hr)
      have HNR2 := Lib.hid (hr.other S.out.lt HNR.out)
      have S := Lib.hid (hr.ob S.out HNR.out)
      have HC3 := Lib.hid (vcond_any G3.out (by rw [← G3.out.len]; exact (gathsA_len _ (HN.out _)).1) (S2.out.keep (R3.out.kept HB.out) (fun _ h _ => h)) (fun x hx => HSR.out x (List.mem_append.2 (.inr hx))))
      clear hg hr
      refine hK _ _ S.out ?_
      clear hK K HC2
      refine HeadW_ready (rs := [6]) (by kernel_rfl) rfl rfl ?_
      refine AllW.cons rfl (fun K hK => ?_) AllW.nil
      go_simp
      refine HC3.out.mono ?_
      rintro e y2 ⟨A7, n7, c7, rfl, hg, hr⟩
      have G4 := Lib.hid hg
      have R4 := Lib.hid (R3.out.trans hr)
      have S := Lib.hid (hr.ob S.out HNR2.out)
      clear hg hr
      refine hK _ _ S.out ?_
      clear hK K HC3
      intro _
      refine ⟨by kernel_rfl, ?_⟩
      simp only [List.drop_succ_cons, List.drop_zero]
      go_wp2_with fail
      go_roundw
      case rel => exact ⟨k + 1, by omega, by go_num, A7, n7, c7, rfl, by
        have e : (p.rules.take (k + 1)).flatMap rulA = (p.rules.take k).flatMap rulA ++ (tgA r.tg ++ condA r.cond) := flat_step HX.out
        rw [e, ← List.append_assoc, gathsA_app, gathsA_app]
        exact G4.out, R4.out⟩
      case measure => simp [intOf]; omega
    · obtain rfl : k = n2 := by omega
      have hg := HG.out
      rw [show p.rules.take k = p.rules from List.take_of_length_le (by have := HL2.out; omega)] at hg
      have HG2 := Lib.hid hg
      have q5 := OB1.out.cell 5
      clear hg HG
      go_wp2_with fail
      go_loopw [0, 31] (fun v i wq => ∃ j : Nat, j ≤ n3 ∧ i = .int .i64 j ∧ Gat W base A n c l wq v (tgA p.tg ++ p.rules.flatMap rulA ++ (p.kids.take j).flatMap polA)) (fun v i _ => n3 - (intOf i).toNat)
      case atStart => exact ⟨0, Nat.zero_le _, rfl, A5, n5, c5, rfl, by simpa using HG2.out, HR.out⟩
      case round =>
        obtain ⟨wo, hwo⟩ : ∃ wo, wo = wr := ⟨wr, rfl⟩
        subst hwo
        clear q5 OB1 HG2 HR
        obtain ⟨j, hj, rfl, A5, n5, c5, rfl, hg, hr⟩ := hrel
        have HG := Lib.hid hg
        have HR := Lib.hid hr
        clear hg hr
        by_cases hlt2 : j < n3
        · obtain ⟨b, o, kid, d', B1, m1, d1, B2, m2, d2, B3, m3, d3, B4, m4, d4, rfl, hRb, hbl, hx, hd, ⟨hid, halg⟩, ⟨x0, x1, x2, x3, x4, x5, x6⟩, s1, s2, s3, s4⟩ := H3.out.at_ hlt2
          have hbk := (HR.out.kept HB.out).2 b hRb hbl
          have x0 := (World.cell?_of_block hbk).trans x0
          have x1 := (World.cell?_of_block hbk).trans x1
          have x2 := (World.cell?_of_block hbk).trans x2
          have x3 := (World.cell?_of_block hbk).trans x3
          have x4 := (World.cell?_of_block hbk).trans x4
          have x5 := (World.cell?_of_block hbk).trans x5
          have x6 := (World.cell?_of_block hbk).trans x6
          have HX := Lib.hid hx
          have hsub : ∀ y ∈ polA kid, ShortA y := fun y hy => HS.out y (by
            rw [HE.out]
            have : y ∈ p.kids.flatMap polA := List.mem_flatMap.2 ⟨kid, List.mem_of_getElem? hx, hy⟩
            simp [this])
          have a1 : Below wo.heap.size wo (wo.alloc (.cells #[.string kid.id, .bool kid.set, .int .i64 kid.alg, .slice B1 m1 d1, .slice B2 m2 d2, .slice B3 m3 d3, .slice B4 m4 d4] 32)) := (Below.refl _ _).alloc (Nat.le_refl _) _
          have R2 := Lib.hid (HR.out.trans (Grew.of_below a1 (.slice A5 n5 c5)))
          have hv := @Hid.out _ HIH d' hd
          unfold VOk at hv
          have HC := Lib.hid (hv (p := kid) (A4 := B4) (n4 := m4) (k4 := d4) (w := wo.alloc (.cells #[.string kid.id, .bool kid.set, .int .i64 kid.alg, .slice B1 m1 d1, .slice B2 m2 d2, .slice B3 m3 d3, .slice B4 m4 d4] 32)) (HG.out.below a1) (by rw [← HG.out.len]; exact HN.out _) HR0.out (s1.keep (R2.out.kept HB.out) (fun _ h _ => h)) (s2.keep (R2.out.kept HB.out) (fun _ h _ => h)) (s3.keep (R2.out.kept HB.out) (fun _ h _ => h)) hsub)
          clear hx hsub s1 s2 s3 s4 a1 hid halg hbk hd hv
          go_wp2_with fail
          refine HC.out.mono ?_
          rintro e y1 ⟨A6, n6, c6, rfl, hg, hr⟩
          have G3 := Lib.hid hg
          have R3 := Lib.hid (R2.out.trans hr)
          clear hg hr
          go_wp2_with fail
          go_roundw
          case rel => exact ⟨j + 1, by omega, by go_num, A6, n6, c6, rfl, by
            have e : (p.kids.take (j + 1)).flatMap polA = (p.kids.take j).flatMap polA ++ polA kid := flat_step HX.out
            rw [e, ← List.append_assoc, gathsA_app]
            exact G3.out, R3.out⟩
          case measure => simp [intOf]; omega
        · obtain rfl : j = n3 := by omega
          go_wp2_with fail
          go_ret
          have hg := HG.out
          rw [show p.kids.take j = p.kids from List.take_of_length_le (by have := HL3.out; omega), ← HE.out] at hg
          exact ⟨A5, n5, c5, rfl, hg, (Grew.of_below B1.out _).trans HR.out⟩
theorem vpol_all : ∀ d, VOk d
  | 0 => vpol_step 0 fun d' h => by omega
  | d + 1 => vpol_step (d + 1) fun d' h => by obtain rfl : d = d' := by omega
                                              exact vpol_all d
end Go.Proofs.Ytadjfkgnoklmiaa
/- vars.Of. -/
namespace Go.Proofs.Ytadjfkgnoklmiaa
set_option linter.unusedVariables false
open Go.RowKit

theorem Grew.none_ {v' : Value} {w w' : World} (h : Grew (.slice none 0 0) v' w w') : Below w.heap.size w w' :=
  ⟨h.1.os, h.1.tape, h.1.output, h.1.size, fun k hk => h.1.block k hk (fun e => by cases e)⟩
def ofE (p : Pol) : Int := if rightE p ≠ 0 then 1 else if 64 < (gathP p).length then 6 else 0
def ofL (p : Pol) : List Atm := if ofE p = 0 then atomsP p else []
set_option maxRecDepth 100000 in
set_option maxHeartbeats 3200000 in
theorem vof_any {w : World} {R : Nat → Prop} {p : Pol} {A1 A2 A3 A4 : Option Addr} {n1 k1 n2 k2 n3 k3 n4 k4 : Nat} (h : PolIn w R p A1 n1 k1 A2 n2 k2 A3 n3 k3 A4 n4 k4) (hs : ∀ x ∈ polA p, ShortA x) :
    Calls Try.prog 5 #[.agg #[.string p.id, .bool p.set, .int .i64 p.alg, .slice A1 n1 k1, .slice A2 n2 k2, .slice A3 n3 k3, .slice A4 n4 k4]] w fun e w' => ∃ A' n' c', e = .returned (.tuple #[.slice A' n' c', .int .i64 (ofE p)]) ∧ Below w.heap.size w w' ∧ Ats w' (fun b => w.heap.size ≤ b) A' n' c' (ofL p) := by
  have b1 : Below w.heap.size w (w.alloc (.cells #[.string p.id, .bool p.set, .int .i64 p.alg, .slice A1 n1 k1, .slice A2 n2 k2, .slice A3 n3 k3, .slice A4 n4 k4] 32)) := (Below.refl _ _).alloc (Nat.le_refl _) _
  have OB := Lib.hid (Ob.made w 32 #[.string p.id, .bool p.set, .int .i64 p.alg, .slice A1 n1 k1, .slice A2 n2 k2, .slice A3 n3 k3, .slice A4 n4 k4])
  have H1 := Lib.hid (h.then_ b1)
  have B1 := Lib.hid b1
  have RI := Lib.hid (right_pol H1.out)
  have HS := Lib.hid hs
  have q0 := OB.out.c7v
  clear h b1 hs
  by_cases hr : rightE p = 0
  · rw [hr] at RI
    have EV : Hid (ofE p = if 64 < (gathP p).length then 6 else 0) := by show _ = _; unfold ofE; rw [if_neg (by rw [hr]; simp)]
    clear hr
    go_enter Try.func5, Try.ntmps5
    go_wp2_with fail
    refine RI.out.mono ?_
    rintro e w1 ⟨rfl, hb⟩
    have B2 := Lib.hid (below_step B1.out hb)
    have OB2 := Lib.hid (OB.out.below hb OB.out.lt)
    have hp := (H1.out.then_ hb).keep (R' := fun b => b < w1.heap.size) (Kept.refl _ _) (fun b _ hlt => hlt)
    have VP := Lib.hid (by
      obtain ⟨_, t1, t2, ⟨m, t3⟩, _⟩ := hp
      exact (vpol_all m (w := w1) (base := w1.heap.size) (A := none) (n := 0) (c := 0) (l := []) (A4 := A4) (n4 := n4) (k4 := k4) (Gr.nil _ _ (Nat.le_refl _)) (by omega) (fun b hb => hb) t1 t2 t3 HS.out))
    have q1 := OB2.out.c7v
    clear hb hp q0 OB H1
    go_wp2_with fail
    refine VP.out.mono ?_
    rintro e w2 ⟨A', n', c', rfl, hg, hr⟩
    have hl : n' = (gathP p).length := (GrA.len hg).symm
    have hl65 := gath_len p
    have hat := GrA.ats hg (by omega)
    have D := Lib.hid (below_step B2.out hr.none_)
    have HA : Hid (Ats w2 (fun b => w.heap.size ≤ b) A' n' c' (gathP p)) := Lib.hid (hat.keep (Kept.refl _ _) (fun b hb _ => Nat.le_trans B2.out.size hb))
    have HL := Lib.hid hl
    clear hg hr hl hl65 hat q1
    by_cases hc : 64 < n'
    · have e6 : Hid (ofE p = 6) := by show _ = _; rw [EV.out, if_pos (by rw [← HL.out]; exact hc)]
      have hci : (64 : Int) < (n' : Int) := by omega
      go_wp2_with fail
      go_ret2
      refine ⟨none, 0, 0, by rw [e6.out]; rfl, D.out, ?_⟩
      rw [show ofL p = [] by unfold ofL; rw [if_neg (by rw [e6.out]; decide)]]
      exact Rw.nil_ _ _ _ _
    · have e0 : Hid (ofE p = 0) := by show _ = _; rw [EV.out, if_neg (by rw [← HL.out]; exact hc)]
      have hci : ¬ (64 : Int) < (n' : Int) := by omega
      go_wp2_with fail
      go_ret2
      refine ⟨A', n', c', by rw [e0.out]; rfl, D.out, ?_⟩
      rw [show ofL p = gathP p by unfold ofL; rw [if_pos e0.out, gath_few (by rw [← HL.out]; omega)]]
      exact HA.out
  · have e1 : Hid (ofE p = 1) := by show _ = _; unfold ofE; rw [if_pos hr]
    have hr' : (rightE p != 0) = true := by rw [bne_iff_ne]; exact hr
    generalize rightE p = r at *
    clear hr
    go_enter Try.func5, Try.ntmps5
    go_wp2_with fail
    refine RI.out.mono ?_
    rintro e w1 ⟨rfl, hb⟩
    have B2 := Lib.hid (below_step B1.out hb)
    clear hb
    go_wp2_with fail
    go_ret2
    refine ⟨none, 0, 0, by rw [e1.out]; rfl, B2.out, ?_⟩
    rw [show ofL p = [] by unfold ofL; rw [if_neg (by rw [e1.out]; decide)]]
    exact Rw.nil_ _ _ _ _
end Go.Proofs.Ytadjfkgnoklmiaa
/- bailiffkeep.Atoms of two rows that are the same. -/
namespace Go.Proofs.Ytadjfkgnoklmiaa
set_option linter.unusedVariables false
open Go.RowKit Go.Sort

set_option maxRecDepth 100000 in
set_option maxHeartbeats 3200000 in
theorem vsame_any {w : World} {R R' : Nat → Prop} {A A' : Option Addr} {n c n' c' : Nat} {l : List Atm} (h : Ats w R A n c l) (h' : Ats w R' A' n' c' l) :
    Calls Try.prog 7 #[.slice A n c, .slice A' n' c'] w fun e w' => e = .returned (.bool true) ∧ Below w.heap.size w w' := by
  obtain rfl := Rw.same_len h h'
  have hcap := Rw.cap h
  have hle := Rw.le h
  have hle' := Rw.le h'
  unfold maxLen at hcap
  have H := Lib.hid h
  have H' := Lib.hid h'
  clear h h'
  go_enter Try.func7, Try.ntmps7
  go_wp2
  go_loopw [13] (fun i wr => ∃ k : Nat, k ≤ n ∧ i = .int .i64 k ∧ Below w.heap.size w wr) (fun i _ => n - (intOf i).toNat)
  case atStart => exact ⟨0, Nat.zero_le _, rfl, Below.refl _ _⟩
  case round =>
    obtain ⟨k, hk, rfl, hb⟩ := hrel
    have HB := Lib.hid hb
    have T1 := Lib.hid (H.out.keep (Kept.all hb R) (fun _ h _ => h))
    have T2 := Lib.hid (H'.out.keep (Kept.all hb R') (fun _ h _ => h))
    clear hb
    by_cases hlt : k < n
    · obtain ⟨b, o, x, A1, n1, c1, rfl, _, _, hx, _, ⟨x0, x1, x2, x3, x4, x5, x6, x7⟩, hA⟩ := T1.out.at_ hlt
      obtain ⟨b', o', y, A2, n2, c2, rfl, _, _, hy, _, ⟨y0, y1, y2, y3, y4, y5, y6, y7⟩, hA'⟩ := T2.out.at_ hlt
      obtain rfl := Option.some.inj (hx.symm.trans hy)
      have Q1 := Lib.hid (same_nod_q hA hA')
      have hve := mat_eq x.m x.m
      simp only [decide_true] at hve
      clear hx hy hA hA'
      go_wp2_with fail
      have x0 := fun d os => cell_regrown x0 d os
      have x1 := fun d os => cell_regrown x1 d os
      have x2 := fun d os => cell_regrown x2 d os
      have x3 := fun d os => cell_regrown x3 d os
      have x4 := fun d os => cell_regrown x4 d os
      have x5 := fun d os => cell_regrown x5 d os
      have x6 := fun d os => cell_regrown x6 d os
      have x7 := fun d os => cell_regrown x7 d os
      have y0 := fun d os => cell_regrown y0 d os
      have y1 := fun d os => cell_regrown y1 d os
      have y2 := fun d os => cell_regrown y2 d os
      have y3 := fun d os => cell_regrown y3 d os
      have y4 := fun d os => cell_regrown y4 d os
      have y5 := fun d os => cell_regrown y5 d os
      have y6 := fun d os => cell_regrown y6 d os
      have y7 := fun d os => cell_regrown y7 d os
      refine wp_region_quiet_below (by kernel_rfl) (by kernel_rfl) ?_
      repeat (go_big_quiet_step ((go_at_call 14; exact Q1.out _ _)))
      refine wpQuiet_nil ?_
      intro _ hw'
      obtain ⟨⟨dq, osq⟩, hw''⟩ := hw'
      subst hw''
      have HB2 := Lib.hid (below_step HB.out (below_regrown wr dq osq))
      clear x0 x1 x2 x3 x4 x5 x6 x7 y0 y1 y2 y3 y4 y5 y6 y7 Q1 hve
      dsimp only at HB2 ⊢
      generalize grow (redrawn wr dq) osq = w2 at *
      go_wp2_with fail
      go_roundw
      case rel => exact ⟨k + 1, by omega, by go_num, HB2.out⟩
      case measure => simp [intOf]; omega
    · obtain rfl : k = n := by omega
      go_wp2
      go_ret
      exact ⟨rfl, HB.out⟩
end Go.Proofs.Ytadjfkgnoklmiaa
/- Tokens, plainly: what chapter 7 says of a text. -/
namespace Go.Proofs.Ytadjfkgnoklmiaa
set_option linter.unusedVariables false

def blk (c : UInt8) : Bool := decide (c.toNat = 32) || decide (c.toNat = 10)
def dgt (c : UInt8) : Bool := decide (48 ≤ c.toNat) && decide (c.toNat ≤ 57)
def inm (c : UInt8) : Bool := lett c || later c
def hexv (c : UInt8) : Option Nat := if dgt c = true then some (c.toNat - 48) else if 97 ≤ c.toNat ∧ c.toNat ≤ 102 then some (c.toNat - 87) else none
def numD (l : List UInt8) : Nat := l.foldl (fun a c => 10 * a + (c.toNat - 48)) 0
def decD (most : Nat) (d : List UInt8) : Option Nat := if d = [] ∨ (d.head? = some 48 ∧ d ≠ [48]) ∨ most < numD d then none else some (numD d)
def hexB (a b : Option Nat) : Option (UInt8 × Nat) :=
  match a, b with
  | some x, some y => if odd8 (UInt8.ofNat (16 * x + y)) = true then some (UInt8.ofNat (16 * x + y), 3) else none
  | _, _ => none
def escB : List UInt8 → Option (UInt8 × Nat)
  | a :: b :: _ => hexB (hexv a) (hexv b)
  | _ => none
def oneB : List UInt8 → Option (UInt8 × Nat)
  | [] => none
  | c :: r => if odd8 c = false then some (c, 1) else if c = 92 then escB r else none
theorem oneB_cons (c : UInt8) (r : List UInt8) : oneB (c :: r) = if odd8 c = false then some (c, 1) else if c = 92 then escB r else none := rfl
theorem oneB_plain {c : UInt8} {r : List UInt8} (h : odd8 c = false) : oneB (c :: r) = some (c, 1) := by rw [oneB_cons, if_pos h]
theorem oneB_odd {c : UInt8} {r : List UInt8} (h : odd8 c = true) (h2 : c ≠ 92) : oneB (c :: r) = none := by rw [oneB_cons, if_neg (by rw [h]; simp), if_neg h2]
theorem oneB_esc (r : List UInt8) : oneB (92 :: r) = escB r := by rw [oneB_cons, if_neg (by decide), if_pos rfl]
theorem oneB_short {r : List UInt8} (h : r.length < 2) : oneB (92 :: r) = none := by
  rw [oneB_esc]
  match r, h with
  | [], _ => rfl
  | [a], _ => rfl
theorem oneB_hex (a b : UInt8) (r : List UInt8) : oneB (92 :: a :: b :: r) = hexB (hexv a) (hexv b) := by rw [oneB_esc]; rfl
theorem hexB_some (x y : Nat) : hexB (some x) (some y) = if odd8 (UInt8.ofNat (16 * x + y)) = true then some (UInt8.ofNat (16 * x + y), 3) else none := rfl
theorem hexB_none1 (b : Option Nat) : hexB none b = none := by cases b <;> rfl
theorem hexB_none2 (a : Option Nat) : hexB a none = none := by cases a <;> rfl
theorem hexB_three {a b : Option Nat} {x : UInt8} {k : Nat} (h : hexB a b = some (x, k)) : k = 3 := by
  cases a with
  | none => rw [hexB_none1] at h; cases h
  | some p => cases b with
    | none => rw [hexB_none2] at h; cases h
    | some q =>
      rw [hexB_some] at h
      split at h
      · cases h; rfl
      · cases h
def qtB (l : List UInt8) : Option (List UInt8 × Nat) :=
  match l with
  | [] => none
  | c :: r => if c = 34 then some ([], 1) else
      match oneB (c :: r) with
      | none => none
      | some (x, k) => (qtB (r.drop (k - 1))).map fun p => (x :: p.1, k + p.2)
termination_by l.length
decreasing_by simp only [List.length_drop, List.length_cons]; omega
def mrk (c : UInt8) : Bool := c = 123 || c = 125 || c = 40 || c = 41 || c = 46 || c = 44 || c = 59 || c = 61 || c = 60 || c = 62 || c = 33
def tokB : List UInt8 → Option (Int × Int × List UInt8 × Nat)
  | [] => none
  | c :: r =>
    if lett c = true then (if Named ((c :: r).takeWhile inm) then some (1, 0, (c :: r).takeWhile inm, ((c :: r).takeWhile inm).length) else none)
    else if dgt c = true then (decD 9223372036854775807 ((c :: r).takeWhile dgt)).map fun (n : Nat) => (2, (n : Int), [], ((c :: r).takeWhile dgt).length)
    else if c = 45 then (decD 9223372036854775808 (r.takeWhile dgt)).bind fun (n : Nat) => if n = 0 then none else some (2, -(n : Int), [], (r.takeWhile dgt).length + 1)
    else if c = 64 then (decD 1099511627776 (r.takeWhile dgt)).map fun (n : Nat) => (3, (n : Int), [], (r.takeWhile dgt).length + 1)
    else if c = 35 then (if Named (r.takeWhile inm) then some (4, 0, r.takeWhile inm, (r.takeWhile inm).length + 1) else none)
    else if c = 34 then (qtB r).bind fun p => if p.1.length ≤ 64 then some (5, 0, p.1, p.2 + 1) else none
    else if mrk c = true then some (6, 0, [c], 1)
    else none

structure Tk where
  k : Int
  p : Int
  n : Int
  s : ByteArray
def Tk.l (t : Tk) : List UInt8 := t.s.data.toList
theorem Tk.ext' {a b : Tk} (h1 : a.k = b.k) (h2 : a.p = b.p) (h3 : a.n = b.n) (h4 : a.l = b.l) : a = b := by
  obtain ⟨k, p, n, s⟩ := a
  obtain ⟨k', p', n', s'⟩ := b
  obtain ⟨⟨x⟩⟩ := s
  obtain ⟨⟨y⟩⟩ := s'
  simp_all [Tk.l]
instance : DecidableEq Tk := fun a b => if h : a.k = b.k ∧ a.p = b.p ∧ a.n = b.n ∧ a.l = b.l then .isTrue (Tk.ext' h.1 h.2.1 h.2.2.1 h.2.2.2) else .isFalse (by rintro rfl; exact h ⟨rfl, rfl, rfl, rfl⟩)

def cat (ts : List Tk) : Except Nat (List Tk) → Except Nat (List Tk)
  | .error e => .error e
  | .ok l => .ok (ts ++ l)
theorem cat_nil (x : Except Nat (List Tk)) : cat [] x = x := by cases x <;> rfl
theorem cat_cat (a b : List Tk) (x : Except Nat (List Tk)) : cat a (cat b x) = cat (a ++ b) x := by cases x <;> simp [cat]

def lexB (l : List UInt8) (p : Nat) : Except Nat (List Tk) :=
  match l with
  | [] => .ok [⟨7, p, 0, ⟨#[]⟩⟩]
  | c :: r => if blk c = true then lexB r (p + 1) else
      match tokB (c :: r) with
      | none => .error p
      | some (k, n, s, m) => cat [⟨k, p, n, ⟨s.toArray⟩⟩] (lexB (r.drop (m - 1)) (p + m))
termination_by l.length
decreasing_by
  · simp
  · simp only [List.length_drop, List.length_cons]; omega

/-! ### Equations -/
theorem qtB_nil : qtB [] = none := by rw [qtB]
theorem qtB_end (r : List UInt8) : qtB (34 :: r) = some ([], 1) := by rw [qtB]; rfl
theorem oneB_pos {l : List UInt8} {x : UInt8} {k : Nat} (h : oneB l = some (x, k)) : 1 ≤ k ∧ k ≤ l.length := by
  cases l with
  | nil => cases h
  | cons c r =>
    rw [oneB_cons] at h
    split at h
    · cases h; simp
    · split at h
      · match r, h with
        | a :: b :: r', h => have := hexB_three h; subst this; simp
      · cases h
theorem drop_cons' {α : Type} {c : α} {r : List α} {k : Nat} (h : 1 ≤ k) : r.drop (k - 1) = (c :: r).drop k := by
  obtain ⟨j, rfl⟩ : ∃ j, k = j + 1 := ⟨k - 1, by omega⟩
  rfl
theorem qtB_one {c : UInt8} {r : List UInt8} {x : UInt8} {k : Nat} (hc : c ≠ 34) (h : oneB (c :: r) = some (x, k)) : qtB (c :: r) = (qtB ((c :: r).drop k)).map fun p => (x :: p.1, k + p.2) := by
  rw [qtB, if_neg hc, h]
  dsimp only
  rw [drop_cons' (oneB_pos h).1]
theorem qtB_bad {c : UInt8} {r : List UInt8} (hc : c ≠ 34) (h : oneB (c :: r) = none) : qtB (c :: r) = none := by
  rw [qtB, if_neg hc, h]
theorem lexB_nil (p : Nat) : lexB [] p = .ok [⟨7, p, 0, ⟨#[]⟩⟩] := by rw [lexB]
theorem lexB_blank {c : UInt8} {r : List UInt8} {p : Nat} (h : blk c = true) : lexB (c :: r) p = lexB r (p + 1) := by rw [lexB, if_pos h]
theorem lexB_bad {c : UInt8} {r : List UInt8} {p : Nat} (h : blk c = false) (ht : tokB (c :: r) = none) : lexB (c :: r) p = .error p := by
  rw [lexB, if_neg (by rw [h]; simp), ht]
theorem tk_len (p : UInt8 → Bool) (l : List UInt8) : (l.takeWhile p).length ≤ l.length := (List.takeWhile_sublist p).length_le
theorem qtB_le : ∀ (n : Nat) (l m : List UInt8) (j : Nat), l.length ≤ n → qtB l = some (m, j) → 1 ≤ j ∧ j ≤ l.length ∧ m.length ≤ j
  | n, [], m, j, _, h => by rw [qtB_nil] at h; cases h
  | 0, c :: r, m, j, hl, h => by simp at hl
  | n + 1, c :: r, m, j, hl, h => by
    by_cases hc : c = 34
    · subst hc; rw [qtB_end] at h; cases h; simp
    · cases ho : oneB (c :: r) with
      | none => rw [qtB_bad hc ho] at h; cases h
      | some xk =>
        obtain ⟨x, k⟩ := xk
        rw [qtB_one hc ho] at h
        obtain ⟨k1, k2⟩ := oneB_pos ho
        cases hq : qtB ((c :: r).drop k) with
        | none => rw [hq] at h; cases h
        | some q =>
          obtain ⟨m', j'⟩ := q
          rw [hq] at h
          simp only [Option.map_some, Option.some.injEq, Prod.mk.injEq] at h
          obtain ⟨rfl, rfl⟩ := h
          have := qtB_le n _ m' j' (by simp only [List.length_drop]; simp only [List.length_cons] at hl; simp only [List.length_cons]; omega) hq
          simp only [List.length_drop, List.length_cons] at this k2 ⊢
          omega
theorem tokB_pos {l : List UInt8} {k n : Int} {s : List UInt8} {m : Nat} (h : tokB l = some (k, n, s, m)) : 1 ≤ m ∧ m ≤ l.length ∧ s.length ≤ m := by
  cases l with
  | nil => cases h
  | cons c r =>
    have t1 := tk_len inm (c :: r)
    have t2 := tk_len dgt (c :: r)
    have t3 := tk_len dgt r
    have t4 := tk_len inm r
    simp only [List.length_cons] at t1 t2 t3 t4 ⊢
    rw [tokB] at h
    split at h
    · split at h
      · rename_i hn
        cases h
        have := hn.1
        omega
      · cases h
    · split at h
      · rename_i hd
        cases hq : decD 9223372036854775807 ((c :: r).takeWhile dgt) with
        | none => rw [hq] at h; cases h
        | some x =>
          rw [hq] at h
          cases h
          have : 1 ≤ ((c :: r).takeWhile dgt).length := by rw [List.takeWhile_cons, if_pos hd]; simp
          simp
          omega
      · split at h
        · cases hq : decD 9223372036854775808 (r.takeWhile dgt) with
          | none => rw [hq] at h; cases h
          | some x =>
            rw [hq] at h
            simp only [Option.bind_some] at h
            split at h
            · cases h
            · cases h; simp; omega
        · split at h
          · cases hq : decD 1099511627776 (r.takeWhile dgt) with
            | none => rw [hq] at h; cases h
            | some x => rw [hq] at h; cases h; simp; omega
          · split at h
            · split at h
              · cases h; simp; omega
              · cases h
            · split at h
              · cases hq : qtB r with
                | none => rw [hq] at h; cases h
                | some q =>
                  obtain ⟨m', j⟩ := q
                  rw [hq] at h
                  simp only [Option.bind_some] at h
                  split at h
                  · cases h
                    have := qtB_le _ _ _ _ (Nat.le_refl _) hq
                    omega
                  · cases h
              · split at h
                · cases h; simp
                · cases h
theorem lexB_tok {c : UInt8} {r : List UInt8} {p : Nat} {k n : Int} {s : List UInt8} {m : Nat} (h : blk c = false) (ht : tokB (c :: r) = some (k, n, s, m)) :
    lexB (c :: r) p = cat [⟨k, p, n, ⟨s.toArray⟩⟩] (lexB ((c :: r).drop m) (p + m)) := by
  rw [lexB, if_neg (by rw [h]; simp), ht]
  dsimp only
  rw [drop_cons' (tokB_pos ht).1]
theorem lexB_skip (l : List UInt8) (p : Nat) : lexB l p = lexB (l.drop (l.takeWhile blk).length) (p + (l.takeWhile blk).length) := by
  induction l generalizing p with
  | nil => simp
  | cons c r ih =>
    cases h : blk c with
    | true => rw [lexB_blank h, ih, List.takeWhile_cons, if_pos h]; simp only [List.length_cons, List.drop_succ_cons]; congr 1; omega
    | false => rw [List.takeWhile_cons, if_neg (by rw [h]; simp)]; simp
theorem drop_tw {p : UInt8 → Bool} {l : List UInt8} {c : UInt8} {r : List UInt8} (h : l.drop (l.takeWhile p).length = c :: r) : p c = false := by
  induction l with
  | nil => simp at h
  | cons d t ih =>
    cases hd : p d with
    | true => rw [List.takeWhile_cons, if_pos hd] at h; exact ih (by simpa using h)
    | false =>
      rw [List.takeWhile_cons, if_neg (by rw [hd]; simp)] at h
      simp at h
      rw [← h.1, hd]
end Go.Proofs.Ytadjfkgnoklmiaa
/- Tokens of texts set together, plainly. -/
namespace Go.Proofs.Ytadjfkgnoklmiaa
set_option linter.unusedVariables false

theorem lexB_ne : ∀ (n : Nat) (l : List UInt8) (p : Nat) (ts : List Tk), l.length ≤ n → lexB l p = .ok ts → ∃ us, ts = us ++ [⟨7, ((p + l.length : Nat) : Int), 0, ⟨#[]⟩⟩] ∧ us.length ≤ l.length
  | _, [], p, ts, _, h => by rw [lexB_nil] at h; cases h; exact ⟨[], by simp, by simp⟩
  | 0, c :: r, p, ts, hl, h => by simp at hl
  | n + 1, c :: r, p, ts, hl, h => by
    simp only [List.length_cons] at hl
    cases hb : blk c with
    | true =>
      rw [lexB_blank hb] at h
      obtain ⟨us, rfl, h2⟩ := lexB_ne n r (p + 1) ts (by omega) h
      exact ⟨us, by rw [List.length_cons, show p + 1 + r.length = p + (r.length + 1) by omega], by rw [List.length_cons]; omega⟩
    | false =>
      cases ht : tokB (c :: r) with
      | none => rw [lexB_bad hb ht] at h; cases h
      | some q =>
        obtain ⟨k, m, s, j⟩ := q
        have hj := tokB_pos ht
        rw [lexB_tok hb ht] at h
        cases hx : lexB ((c :: r).drop j) (p + j) with
        | error e => rw [hx] at h; cases h
        | ok ts' =>
          rw [hx] at h
          cases h
          obtain ⟨us, rfl, h2⟩ := lexB_ne n _ _ _ (by rw [List.length_drop, List.length_cons]; omega) hx
          rw [List.length_drop] at h2 ⊢
          exact ⟨⟨k, p, m, ⟨s.toArray⟩⟩ :: us, by rw [show p + j + ((c :: r).length - j) = p + (c :: r).length by omega]; rfl, by simp only [List.length_cons] at h2 ⊢; omega⟩
theorem lexB_places : ∀ (n : Nat) (l : List UInt8) (p : Nat) (ts : List Tk), l.length ≤ n → lexB l p = .ok ts → ∀ t ∈ ts, (p : Int) ≤ t.p ∧ t.p ≤ ((p + l.length : Nat) : Int)
  | _, [], p, ts, _, h => by rw [lexB_nil] at h; cases h; intro t ht; simp at ht; subst ht; simp
  | 0, c :: r, p, ts, hl, h => by simp at hl
  | n + 1, c :: r, p, ts, hl, h => by
    simp only [List.length_cons] at hl ⊢
    cases hb : blk c with
    | true =>
      rw [lexB_blank hb] at h
      intro t ht
      have := lexB_places n r (p + 1) ts (by omega) h t ht
      omega
    | false =>
      cases htk : tokB (c :: r) with
      | none => rw [lexB_bad hb htk] at h; cases h
      | some q =>
        obtain ⟨k, m, s, j⟩ := q
        have hj := tokB_pos htk
        rw [lexB_tok hb htk] at h
        cases hx : lexB ((c :: r).drop j) (p + j) with
        | error e => rw [hx] at h; cases h
        | ok ts' =>
          rw [hx] at h
          cases h
          intro t ht
          rcases List.mem_cons.1 ht with rfl | ht
          · dsimp only; omega
          · have := lexB_places n _ _ _ (by rw [List.length_drop, List.length_cons]; omega) hx t ht
            rw [List.length_drop] at this
            simp only [List.length_cons] at this hj
            omega
end Go.Proofs.Ytadjfkgnoklmiaa
