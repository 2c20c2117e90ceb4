/- Several texts in one: PolApp, PolicyExprsM, ExprMath, PolOw, Gr, VApp, AskMem, ExprMem, FunNum, VBoxPut, FunCall, Make, Clone, ExprSmall, ExprLaws, ExprDec, FunJudge, FunCalls, VHas, AskCopied, ExprReck, AskPlace. -/
import Derived.Test.YtmpldpfgnakbkaaExpA
import Derived.Maps.AppendAt
import Derived.Deep.RegionLaw
import Derived.Laws.OwnMore
import Derived.Laws.ResultCell
import Derived.Lib.Strings
import Derived.Lib.Walk
import Derived.Lib.BufferWrite
import Derived.Lib.UnsafeStr
import Derived.Laws.MakeOwn
/- Rows of structs of the call's own: append. -/
namespace Go.Proofs.Ytmpldpfgnakbkaa
set_option linter.unusedVariables false
open Go.RowKit

/-- The slice 'A n c' reads as these cells, one behind the other. -/
def Fl (w : World) (k : Nat) (A : Option Addr) (n : Nat) (ys : List Value) : Prop :=
  ys.length = n * k ∧ (∀ v ∈ ys, v.oneCell' = true) ∧ (n = 0 ∨ ∃ b o, A = some ⟨b, o, none⟩ ∧ ∀ j u, ys[j]? = some u → w.cell? ⟨b, o + j, none⟩ = some u)

/-- append of many structs to a row of the call's own. -/
theorem append_rows {P : Program} {T E : TypeId} {i : TypeInfo} {z : Value} {k by_ : Nat} (ht : P.underlying T = some (.slice E)) (hi : P.info? E = some i) (hz : i.zero = some z) (hs : i.size = k) (hb : i.bytes = by_) (hzs : z.cells.size = k) (hk : 0 < k) (hby : by_ ≤ 1000)
    {w : World} {base n c m c2 ty : Nat} {A A2 : Option Addr} {xs ys : List Value} (h : w.ownsRow base E k (.slice A n c) n xs) (hy : Fl w k A2 m ys) (hn : n + m ≤ 1000000) (hbase : base ≤ w.heap.size) :
    ∃ A' c' w', (Builtin.append_ #[T, T] ty #[.slice A n c, .slice A2 m c2]).run P w = .ok (.slice A' (n + m) c') w' ∧
      w'.ownsRow base E k (.slice A' (n + m) c') (n + m) (xs ++ ys) ∧ Below base w w' ∧ w.grownBy w' (Value.slice A n c).ownBlock ∧
      ((Value.slice A' (n + m) c').ownBlock = (Value.slice A n c).ownBlock ∨ (Value.slice A' (n + m) c').ownBlock = some w.heap.size) := by
  obtain ⟨hlen, h1, hy⟩ := hy
  have fin : ∀ (ad : Addr), A2 = some ad → (∀ j u, ys[j]? = some u → w.cell? (ad.add j) = some u) → ∃ A' c' w', (Builtin.append_ #[T, T] ty #[.slice A n c, .slice A2 m c2]).run P w = .ok (.slice A' (n + m) c') w' ∧
      w'.ownsRow base E k (.slice A' (n + m) c') (n + m) (xs ++ ys) ∧ Below base w w' ∧ w.grownBy w' (Value.slice A n c).ownBlock ∧
      ((Value.slice A' (n + m) c').ownBlock = (Value.slice A n c).ownBlock ∨ (Value.slice A' (n + m) c').ownBlock = some w.heap.size) := by
    rintro ad rfl hc
    have hb2 : (n + m) * by_ ≤ 1000000 * 1000 := Nat.mul_le_mul hn hby
    obtain ⟨v', w', hrun, h2, h3, h4, h5⟩ := run_append_own_at (P := P) w base T ty E i z k by_ ht hi hz hs hb hzs hk (.slice A n c) n xs h
      ad m c2 ys hlen hc h1 (by unfold maxLen; omega) (by omega) hbase
    have hform : ∃ A' c', v' = .slice A' (n + m) c' := by
      rcases h2.2 with ⟨hv, hz⟩ | ⟨g, cap, cur, hv, _⟩
      · exact ⟨_, _, by rw [hv, hz]⟩
      · exact ⟨_, _, hv⟩
    obtain ⟨A', c', rfl⟩ := hform
    exact ⟨A', c', w', hrun, h2, (Below.refl base w).grown h3 hbase (fun k hk => (h.lt k hk).1), h3, h5⟩
  rcases hy with h0 | ⟨b, o, e, hc⟩
  · subst h0
    obtain rfl : ys = [] := List.eq_nil_of_length_eq_zero (by omega)
    rcases A2 with _ | ad
    · exact ⟨A, c, w, append_nil_src ht hi h, by simpa using h, Below.refl _ _, ⟨rfl, rfl, rfl, Nat.le_refl _, fun _ _ _ => rfl⟩, .inl rfl⟩
    · exact fin ad rfl (fun j u hu => by simp at hu)
  · refine fin _ e fun j u hu => ?_
    have := hc j u hu
    by_cases hj : j = 0
    · subst hj; simpa [Addr.add] using this
    · simpa [Addr.add, hj] using this

theorem flatten_at {k : Nat} : ∀ {l : List (List Value)} {j : Nat} {x : List Value} {i : Nat} {v : Value}, (∀ y ∈ l, y.length = k) → l[j]? = some x → x[i]? = some v → l.flatten[j * k + i]? = some v
  | [], _, _, _, _, _, hx, _ => by simp at hx
  | y :: l, 0, x, i, v, hk, hx, hv => by
    simp at hx
    subst hx
    rw [List.flatten_cons, Nat.zero_mul, Nat.zero_add, List.getElem?_append_left (by rw [List.getElem?_eq_some_iff] at hv; exact hv.1)]
    exact hv
  | y :: l, j + 1, x, i, v, hk, hx, hv => by
    have hy := hk y (by simp)
    rw [List.flatten_cons, List.getElem?_append_right (by rw [hy, Nat.add_mul]; omega), hy, show (j + 1) * k + i - k = j * k + i by rw [Nat.add_mul]; omega]
    exact flatten_at (fun y h => hk y (by simp [h])) (by simpa using hx) hv
theorem flatten_len {k : Nat} : ∀ {l : List (List Value)}, (∀ y ∈ l, y.length = k) → l.flatten.length = l.length * k
  | [], _ => by simp
  | y :: l, h => by
    rw [List.flatten_cons, List.length_append, h y (by simp), flatten_len fun y hy => h y (by simp [hy]), List.length_cons, Nat.add_mul]
    omega
theorem flatten_of {k : Nat} (hk : 0 < k) {l : List (List Value)} {j : Nat} {u : Value} (hl : ∀ y ∈ l, y.length = k) (h : l.flatten[j]? = some u) : ∃ x, l[j / k]? = some x ∧ x[j % k]? = some u := by
  have hj : j < l.length * k := by rw [← flatten_len hl]; exact (List.getElem?_eq_some_iff.1 h).1
  have hd : j / k < l.length := Nat.div_lt_of_lt_mul (by rw [Nat.mul_comm]; exact hj)
  have hx : l[j / k]? = some l[j / k] := List.getElem?_eq_getElem hd
  refine ⟨l[j / k], hx, ?_⟩
  have hm : j % k < (l[j / k]).length := by rw [hl _ (List.getElem_mem hd)]; exact Nat.mod_lt _ hk
  have hv : (l[j / k])[j % k]? = some (l[j / k])[j % k] := List.getElem?_eq_getElem hm
  have := flatten_at hl hx hv
  rw [show j / k * k + j % k = j from by rw [Nat.mul_comm]; exact Nat.div_add_mod j k] at this
  rw [hv, ← this, h]

/-- What the cells of a row of structs are. -/
theorem Rw.raw {α : Type} {k : Nat} {P : List Value → α → Prop} {w : World} {R : Nat → Prop} {A : Option Addr} {n c : Nat} {l : List α} (h : Rw k P w R A n c l) :
    n = 0 ∨ ∃ raw : List (List Value), raw.length = n ∧ (∀ y ∈ raw, y.length = k) ∧ (∀ (j : Nat) (vs : List Value) (x : α), raw[j]? = some vs → l[j]? = some x → P vs x) ∧ ∃ b o, A = some ⟨b, o, none⟩ ∧ ∀ (j : Nat) (vs : List Value), raw[j]? = some vs → ∀ (i : Nat) v, vs[i]? = some v → w.cell? ⟨b, o + j * k + i, none⟩ = some v := by
  obtain ⟨h1, h2, h3, h4⟩ := h
  rcases h4 with h4 | ⟨b, o, e, hb, hlt, hc⟩
  · exact .inl h4
  right
  have hall : ∀ j, j < n → ∃ vs : List Value, vs.length = k ∧ (∀ (i : Nat) v, vs[i]? = some v → w.cell? ⟨b, o + j * k + i, none⟩ = some v) ∧ ∀ x, l[j]? = some x → P vs x := fun j hj => by
    have hl : j < l.length := by omega
    obtain ⟨vs, a1, a2, a3⟩ := hc j l[j] (List.getElem?_eq_getElem hl)
    refine ⟨vs, a1, a2, fun x hx => ?_⟩
    rw [List.getElem?_eq_getElem hl] at hx
    exact Option.some.inj hx ▸ a3
  obtain ⟨V, hV⟩ : ∃ V : Nat → List Value, ∀ j, j < n → (V j).length = k ∧ (∀ (i : Nat) v, (V j)[i]? = some v → w.cell? ⟨b, o + j * k + i, none⟩ = some v) ∧ ∀ x, l[j]? = some x → P (V j) x :=
    ⟨fun j => if hj : j < n then Classical.choose (hall j hj) else [], fun j hj => by simp only [hj, dif_pos]; exact Classical.choose_spec (hall j hj)⟩
  have hget : ∀ (j : Nat) (vs : List Value), ((List.range n).map V)[j]? = some vs → j < n ∧ vs = V j := fun j vs hj => by
    rw [List.getElem?_map, Option.map_eq_some_iff] at hj
    obtain ⟨i, hi, rfl⟩ := hj
    have hjn : j < n := by have := (List.getElem?_eq_some_iff.1 hi).1; simpa using this
    rw [List.getElem?_range hjn] at hi
    exact ⟨hjn, by rw [Option.some.inj hi]⟩
  refine ⟨(List.range n).map V, by simp, fun y hy => ?_, fun j vs x hj hx => ?_, b, o, e, fun j vs hj i v hv => ?_⟩
  · obtain ⟨i, hi, rfl⟩ := List.mem_map.1 hy
    exact (hV i (by simpa using hi)).1
  · obtain ⟨hjn, rfl⟩ := hget j vs hj
    exact (hV j hjn).2.2 x hx
  · obtain ⟨hjn, rfl⟩ := hget j vs hj
    exact (hV j hjn).2.1 i v hv

/-- A row of the call's own reads as what its cells say. -/
theorem Rw.of_own {α : Type} {k : Nat} {P : List Value → α → Prop} {w : World} {base n c : Nat} {E : TypeId} {A : Option Addr} {l : List α} {raw : List (List Value)} {R : Nat → Prop} (h : w.ownsRow base E k (.slice A n c) n raw.flatten)
    (hbig : n ≤ 140737488351232) (hl : raw.length = n) (hln : l.length = n) (hk : ∀ y ∈ raw, y.length = k) (hP : ∀ (j : Nat) (vs : List Value) (x : α), raw[j]? = some vs → l[j]? = some x → P vs x) (hR : ∀ ad, A = some ad → base ≤ ad.block → R ad.block) : Rw k P w R A n c l := by
  rcases h.2 with ⟨hv, hn⟩ | ⟨g, cap, cur, hv, hb, hg, hnc, hcm, hcs, ht⟩
  · injection hv with h1 h2 h3
    subst h1 h2 h3
    exact ⟨hln, Nat.le_refl _, ⟨by simp [maxLen], by omega⟩, .inl rfl⟩
  · injection hv with h1 h2 h3
    subst h1 h3
    refine ⟨hln, hnc, ⟨hcm, hbig⟩, .inr ⟨g, 0, rfl, hR _ rfl hb, ?_, fun j x hx => ?_⟩⟩
    · rcases Nat.lt_or_ge g w.heap.size with hlt | hge
      · exact hlt
      · rw [Array.getElem?_eq_none hge] at hg; cases hg
    · have hjr : j < raw.length := by have := (List.getElem?_eq_some_iff.1 hx).1; omega
      refine ⟨raw[j], hk _ (List.getElem_mem hjr), fun i v hv => ?_, hP j _ x (List.getElem?_eq_getElem hjr) hx⟩
      have := h.cells (g := g) rfl (j * k + i) v (flatten_at hk (List.getElem?_eq_getElem hjr) hv)
      have add : (⟨g, 0, none⟩ : Addr).add (j * k + i) = ⟨g, 0 + j * k + i, none⟩ := by by_cases hj : j * k + i = 0 <;> simp [Addr.add, hj]; omega
      rwa [add] at this
/-- Its cells, to be appended. -/
theorem Rw.fl {α : Type} {k : Nat} {P : List Value → α → Prop} {w : World} {R : Nat → Prop} {A : Option Addr} {n c : Nat} {l : List α} (h : Rw k P w R A n c l) (hk : 0 < k) (h1 : ∀ vs x, P vs x → ∀ v ∈ vs, v.oneCell' = true) :
    ∃ raw : List (List Value), raw.length = n ∧ (∀ y ∈ raw, y.length = k) ∧ (∀ (j : Nat) (vs : List Value) (x : α), raw[j]? = some vs → l[j]? = some x → P vs x) ∧ Fl w k A n raw.flatten := by
  rcases h.raw with h0 | ⟨raw, r1, r2, r3, b, o, e, r4⟩
  · subst h0
    exact ⟨[], rfl, by simp, by simp, by simp, by simp, .inl rfl⟩
  · refine ⟨raw, r1, r2, r3, by rw [flatten_len r2, r1], fun v hv => ?_, .inr ⟨b, o, e, fun j u hu => ?_⟩⟩
    · obtain ⟨y, hy, hv⟩ := List.mem_flatten.1 hv
      obtain ⟨j, hj, rfl⟩ := List.getElem_of_mem hy
      have hjl : j < l.length := by have := h.1; omega
      exact h1 _ _ (r3 j _ _ (List.getElem?_eq_getElem hj) (List.getElem?_eq_getElem hjl)) v hv
    · obtain ⟨x, hx, hv⟩ := flatten_of hk r2 hu
      have := r4 _ _ hx _ _ hv
      rwa [Nat.add_assoc, show j / k * k + j % k = j from by rw [Nat.mul_comm]; exact Nat.div_add_mod j k] at this

theorem Rw.flat_fl {α : Type} {k : Nat} {f : α → List Value} {okp : α → Prop} {w : World} {R : Nat → Prop} {A : Option Addr} {n c : Nat} {l : List α} (h : Rw k (fun vs x => vs = f x ∧ okp x) w R A n c l) (hk : 0 < k) (h1 : ∀ x, ∀ v ∈ f x, v.oneCell' = true) : Fl w k A n (l.flatMap f) := by
  obtain ⟨raw, r1, r2, r3, r4⟩ := Rw.fl h hk (fun vs x hp v hv => h1 x v (hp.1 ▸ hv))
  have hl := h.1
  have e : raw = l.map f := by
    apply List.ext_getElem?
    intro j
    by_cases hj : j < n
    · have a1 : raw[j]? = some raw[j] := List.getElem?_eq_getElem (by omega)
      have a2 : l[j]? = some l[j] := List.getElem?_eq_getElem (by omega)
      have := (r3 j _ _ a1 a2).1
      rw [a1, List.getElem?_map, a2, this]; rfl
    · rw [List.getElem?_eq_none (by omega), List.getElem?_eq_none (by rw [List.length_map]; omega)]
  rw [e, ← List.flatMap_def] at r4
  exact r4
theorem Rw.flat_own {α : Type} {k : Nat} {f : α → List Value} {okp : α → Prop} {w : World} {base n c : Nat} {E : TypeId} {A : Option Addr} {l : List α} {R : Nat → Prop} (h : w.ownsRow base E k (.slice A n c) n (l.flatMap f)) (hbig : n ≤ 140737488351232) (hln : l.length = n) (hf : ∀ x, (f x).length = k) (hok : ∀ x ∈ l, okp x)
    (hR : ∀ ad, A = some ad → base ≤ ad.block → R ad.block) : Rw k (fun vs x => vs = f x ∧ okp x) w R A n c l := by
  rw [List.flatMap_def] at h
  refine Rw.of_own h hbig (by rw [List.length_map]; exact hln) hln (fun y hy => ?_) (fun j vs x h1 h2 => ?_) hR
  · obtain ⟨x, _, rfl⟩ := List.mem_map.1 hy
    exact hf x
  · rw [List.getElem?_map, h2] at h1
    exact ⟨(Option.some.inj h1).symm, hok x (List.mem_of_getElem? h2)⟩
theorem Dut.one (x : Dut) : ∀ v ∈ x.cells, v.oneCell' = true := by intro v hv; simp [Dut.cells] at hv; rcases hv with rfl | rfl | rfl <;> rfl
theorem Nod.one (x : Nod) : ∀ v ∈ x.cells, v.oneCell' = true := by intro v hv; simp [Nod.cells] at hv; rcases hv with rfl | rfl | rfl | rfl | rfl | rfl | rfl <;> rfl
theorem Mat.one (x : Mat) : ∀ v ∈ x.cells, v.oneCell' = true := by intro v hv; simp [Mat.cells] at hv; rcases hv with rfl | rfl | rfl | rfl | rfl | rfl | rfl <;> rfl
theorem Dus.fl {w : World} {R : Nat → Prop} {A : Option Addr} {n c : Nat} {l : List Dut} (h : Dus w R A n c l) : Fl w 3 A n (l.flatMap Dut.cells) := Rw.flat_fl h (by omega) Dut.one
theorem Nds.fl {w : World} {R : Nat → Prop} {A : Option Addr} {n c : Nat} {l : List Nod} (h : Nds w R A n c l) : Fl w 7 A n (l.flatMap Nod.cells) := Rw.flat_fl h (by omega) Nod.one
theorem Ms.fl {w : World} {R : Nat → Prop} {A : Option Addr} {n c : Nat} {l : List Mat} (h : Ms w R A n c l) : Fl w 7 A n (l.flatMap Mat.cells) := Rw.flat_fl h (by omega) Mat.one
theorem Rw.all {α : Type} {k : Nat} {f : α → List Value} {okp : α → Prop} {w : World} {R : Nat → Prop} {A : Option Addr} {n c : Nat} {l : List α} (h : Rw k (fun vs x => vs = f x ∧ okp x) w R A n c l) : ∀ x ∈ l, okp x := by
  intro x hx
  obtain ⟨j, hj, rfl⟩ := List.getElem_of_mem hx
  obtain ⟨b, o, y, vs, _, _, _, hy, _, _, hp⟩ := h.at_ (j := j) (by have := h.1; omega)
  rw [List.getElem?_eq_getElem hj] at hy
  exact Option.some.inj hy ▸ hp.2
theorem own_none (w : World) (E : TypeId) (k : Nat) : (w.alloc (.cells #[] E)).ownsRow w.heap.size E k (.slice (some ⟨w.heap.size, 0, none⟩) 0 0) 0 [] :=
  World.ownsRow_lit w #[] 0 (Nat.le_refl _) (by simp [maxLen]) (by simp)
theorem flatMap_app {α β : Type} (f : α → List β) (l m : List α) : (l ++ m).flatMap f = l.flatMap f ++ m.flatMap f := List.flatMap_append

theorem info_of {P : Program} {E : TypeId} {z : Value} {k b : Nat} (h : (P.info? E).map (fun i => (i.zero, i.size, i.bytes)) = some (some z, k, b)) : ∃ i, P.info? E = some i ∧ i.zero = some z ∧ i.size = k ∧ i.bytes = b := by
  cases hi : P.info? E with
  | none => rw [hi] at h; cases h
  | some i =>
    rw [hi] at h
    simp only [Option.map_some, Option.some.injEq, Prod.mk.injEq] at h
    exact ⟨i, rfl, h.1, h.2.1, h.2.2⟩
theorem nodinfo : (Try.prog.info? 51).map (fun i => (i.zero, i.size, i.bytes)) = some (some (.agg #[.int .i64 0, .int .i64 0, .int .i64 0, .string ⟨#[]⟩, .int .i64 0, .string ⟨#[]⟩, .bool false]), 7, 72) := by kernel_rfl
theorem append_nods {w : World} {base n c m c2 ty : Nat} {R : Nat → Prop} {A A2 : Option Addr} {xs ys : List Nod} (h : w.ownsRow base 51 7 (.slice A n c) n (xs.flatMap Nod.cells)) (hy : Nds w R A2 m c2 ys) (hn : n + m ≤ 1000000) (hbase : base ≤ w.heap.size) :
    ∃ A' c' w', (Builtin.append_ #[56, 56] ty #[.slice A n c, .slice A2 m c2]).run Try.prog w = .ok (.slice A' (n + m) c') w' ∧
      w'.ownsRow base 51 7 (.slice A' (n + m) c') (n + m) ((xs ++ ys).flatMap Nod.cells) ∧ Below base w w' ∧ w.grownBy w' (Value.slice A n c).ownBlock ∧
      ((Value.slice A' (n + m) c').ownBlock = (Value.slice A n c).ownBlock ∨ (Value.slice A' (n + m) c').ownBlock = some w.heap.size) := by
  obtain ⟨i, hi, hz, hs, hb⟩ := info_of nodinfo
  rw [flatMap_app]
  exact append_rows Try.underlying56 hi hz hs hb rfl (by omega) (by omega) h hy.fl hn hbase

/-- append(append([]T{}, a...), b...). -/
theorem both_nds {w : World} {R : Nat → Prop} {A0 A1 : Option Addr} {p0 c0 p1 c1 q : Nat} {L0 L1 : List Nod} (h0 : Nds w R A0 p0 c0 L0) (h1 : Nds w R A1 p1 c1 L1) (h : p0 + p1 ≤ 1000000) (hq : q = p0 + p1) :
    ∃ A5 c5 w5 A6 c6 w6, (Builtin.append_ #[56, 56] 56 #[.slice (some ⟨w.heap.size, 0, none⟩) 0 0, .slice A0 p0 c0]).run Try.prog (w.alloc (.cells #[] 51)) = .ok (.slice A5 p0 c5) w5 ∧
      (Builtin.append_ #[56, 56] 56 #[.slice A5 p0 c5, .slice A1 p1 c1]).run Try.prog w5 = .ok (.slice A6 q c6) w6 ∧ Below w.heap.size w w6 ∧ Nds w6 (fun _ => True) A6 q c6 (L0 ++ L1) ∧ w6.ownsRow w.heap.size 51 7 (.slice A6 q c6) q ((L0 ++ L1).flatMap Nod.cells) := by
  subst hq
  have e1 : Below w.heap.size w (w.alloc (.cells #[] 51)) := (Below.refl _ _).alloc (Nat.le_refl _) _
  obtain ⟨A5, c5, w5, r5, o5, b5, _, _⟩ := append_nods (ty := 56) (xs := []) (own_none w 51 7) (h0.keep (Kept.all e1 R) (fun _ h _ => h)) (by omega) e1.size
  rw [Nat.zero_add] at r5 o5
  have e5 := e1.trans b5
  obtain ⟨A6, c6, w6, r6, o6, b6, _, _⟩ := append_nods (ty := 56) o5 (h1.keep (Kept.all e5 R) (fun _ h _ => h)) h e5.size
  refine ⟨A5, c5, w5, A6, c6, w6, r5, r6, e5.trans b6, ?_, o6⟩
  exact Rw.flat_own o6 (by omega) (by rw [List.length_append, Rw.len h0, Rw.len h1]) (fun _ => rfl) (fun x hx => (List.mem_append.1 hx).elim (Rw.all h0 x) (Rw.all h1 x)) (fun _ _ _ => trivial)
/-- append([]T{}, x). -/
theorem both_nds_one {w : World} (x : Nod) (hx : x.ok) :
    ∃ A5 c5 w5, (Builtin.append_ #[56, 56] 56 #[.slice (some ⟨w.heap.size, 0, none⟩) 0 0, .slice (some ⟨w.heap.size + 1, 0, none⟩) 1 1]).run Try.prog ((w.alloc (.cells #[] 51)).alloc (.cells x.cells.toArray 51)) = .ok (.slice A5 1 c5) w5 ∧
      Below w.heap.size w w5 ∧ Nds w5 (fun _ => True) A5 1 c5 [x] := by
  have h1 := Rw.lit (k := 7) (R := fun _ => True) (P := fun vs (y : Nod) => vs = y.cells ∧ y.ok) (w.alloc (.cells #[] 51)) 51 Nod.cells [x] (n := 1) rfl (by omega) trivial (fun _ _ => rfl) (fun y hy => ⟨rfl, by simp at hy; subst hy; exact hx⟩)
  rw [size_al] at h1
  have e1 : Below w.heap.size w ((w.alloc (.cells #[] 51)).alloc (.cells (List.flatMap Nod.cells [x]).toArray 51)) := ((Below.refl _ _).alloc (Nat.le_refl _) _).alloc (by simp only [size_al]; omega) _
  obtain ⟨A5, c5, w5, r5, o5, b5, _, _⟩ := append_nods (ty := 56) (xs := []) ((own_none w 51 7).alloc (.cells (List.flatMap Nod.cells [x]).toArray 51)) h1 (by omega) e1.size
  rw [Nat.zero_add] at r5 o5
  refine ⟨A5, c5, w5, by simpa using r5, e1.trans b5, ?_⟩
  exact Rw.flat_own o5 (by omega) rfl (fun _ => rfl) (fun y hy => by simp at hy; subst hy; exact hx) (fun _ _ _ => trivial)
end Go.Proofs.Ytmpldpfgnakbkaa
/- Expressions behind each other: what they leave; rows of nodes put together. -/
namespace Go.Proofs.Ytmpldpfgnakbkaa
set_option linter.unusedVariables false
open Go.RowKit

theorem popX_frame (op : Int) (s s' t : List Bool) (h : popX op s = some s') : popX op (s ++ t) = some (s' ++ t) := by
  rcases ops_cases op with rfl | rfl | rfl | rfl | rfl | rfl | rfl | rfl | rfl | rfl | rfl | rfl | rfl | hn
  case inr.inr.inr.inr.inr.inr.inr.inr.inr.inr.inr.inr.inr =>
    obtain ⟨h1, h2, h3, h4, h5, h6, h7, h8, h9, h10, h11, h12, h13⟩ := hn
    simp [popX, h1, h2, h3, h4, h5, h6, h7, h8, h9, h10, h11, h12, h13] at h
  all_goals
    rcases s with _ | ⟨_ | _, _ | ⟨_ | _, s⟩⟩ <;> simp [popX] at h ⊢ <;> (subst h; rfl)
theorem runX_frame : ∀ (l : List Nod) (s s' t : List Bool), runX l s = some s' → runX l (s ++ t) = some (s' ++ t)
  | [], s, s', t, h => by simp [runX] at h ⊢; rw [h]
  | x :: l, s, s', t, h => by
    simp only [runX] at h ⊢
    unfold stepX at h ⊢
    by_cases hh : holdsB x = true
    · rw [if_pos hh] at h ⊢
      cases hp : popX x.op s with
      | none => rw [hp] at h; cases h
      | some u =>
        rw [hp] at h
        rw [popX_frame _ _ _ t hp]
        exact runX_frame l u s' t h
    · rw [if_neg hh] at h; cases h
theorem exprE_ok {l : List Nod} (h : exprE l = 0) (hn : l ≠ []) : l.length ≤ 32 ∧ runX l [] = some [false] := by
  unfold exprE at h
  split at h
  · cases h
  · refine ⟨by omega, ?_⟩
    split at h
    · cases h
    · rename_i st hst
      split at h
      · rename_i hc
        rcases hc with hc | hc
        · exact absurd hc hn
        · rw [hst, hc]
      · cases h
def opN (f : Int) : Nod := ⟨f, zeroV, zeroA⟩
theorem holds_opN {f : Int} (h1 : f ≠ 1) (h2 : f ≠ 2) : holdsB (opN f) = true := by simp [holdsB, opN, h1, h2]
theorem expr_both {a b : List Nod} {f : Int} (ha : exprE a = 0) (hb : exprE b = 0) (na : a ≠ []) (nb : b ≠ []) (hf : 6 ≤ f ∧ f ≤ 9) : exprE (a ++ b ++ [opN f]) = if 32 < a.length + b.length + 1 then 6 else 0 := by
  obtain ⟨_, ra⟩ := exprE_ok ha na
  obtain ⟨_, rb⟩ := exprE_ok hb nb
  have r1 : runX (a ++ b) [] = some [false, false] := by
    rw [runX_app, ra]
    exact runX_frame b [] [false] [false] rb
  have hp : popX f [false, false] = some [false] := by
    have h1 : ¬ f = 1 := by omega
    have h2 : ¬ f = 2 := by omega
    have h3 : ¬ (f = 3 ∨ f = 4) := by omega
    have h5 : ¬ f = 5 := by omega
    have h11 : ¬ f = 11 := by omega
    have h6 : f = 6 ∨ f = 7 ∨ f = 8 ∨ f = 9 ∨ f = 10 ∨ f = 12 ∨ f = 13 := by omega
    simp only [popX, h1, h2, h3, h5, h11, h6, if_true, if_false]
  have r2 : runX (a ++ b ++ [opN f]) [] = some [false] := by
    rw [runX_app, r1]
    simp only [runX, stepX, holds_opN (show f ≠ 1 by omega) (show f ≠ 2 by omega), if_true]
    show (match popX f [false, false] with | some st' => some st' | none => none) = some [false]
    rw [hp]
  unfold exprE
  rw [r2, show (a ++ b ++ [opN f]).length = a.length + b.length + 1 by simp; omega]
  simp
theorem expr_size {a : List Nod} (ha : exprE a = 0) (na : a ≠ []) : exprE (a ++ [opN 4]) = if 32 < a.length + 1 then 6 else 1 := by
  obtain ⟨_, ra⟩ := exprE_ok ha na
  have r2 : runX (a ++ [opN 4]) [] = none := by
    rw [runX_app, ra]
    simp only [runX, stepX, holds_opN (show (4 : Int) ≠ 1 by omega) (show (4 : Int) ≠ 2 by omega), if_true]
    rfl
  unfold exprE
  rw [r2, show (a ++ [opN 4]).length = a.length + 1 by simp]
theorem opN_ok {f : Int} (h : 0 ≤ f ∧ f ≤ 100) : (opN f).ok := ⟨by unfold InI; show -9223372036854775808 ≤ f ∧ f ≤ 9223372036854775807; omega, (by decide +kernel : zeroV.ok), (by decide +kernel : zeroA.ok)⟩

/-- .. and one more node. -/
theorem nds_put {w : World} {base n c : Nat} {A : Option Addr} {l : List Nod} {f : Int} (h : w.ownsRow base 51 7 (.slice A n c) n (l.flatMap Nod.cells)) (hb : base ≤ w.heap.size) (hl : l.length = n) (hok : ∀ x ∈ l, x.ok) (hf : 0 ≤ f ∧ f ≤ 100) (hn : n < 1000000) :
    ∃ A5 c5 w5, (Builtin.append_ #[56, 56] 56 #[.slice A n c, .slice (some ⟨w.heap.size, 0, none⟩) 1 1]).run Try.prog (w.alloc (.cells #[.int .i64 f, .int .i64 0, .int .i64 0, .string ⟨#[]⟩, .int .i64 0, .string ⟨#[]⟩, .bool false] 51)) = .ok (.slice A5 (n + 1) c5) w5 ∧
      Below base w w5 ∧ Nds w5 (fun _ => True) A5 (n + 1) c5 (l ++ [opN f]) := by
  have h1 : Nds (w.alloc (.cells #[.int .i64 f, .int .i64 0, .int .i64 0, .string ⟨#[]⟩, .int .i64 0, .string ⟨#[]⟩, .bool false] 51)) (fun _ => True) (some ⟨w.heap.size, 0, none⟩) 1 1 [opN f] :=
    Nds.lit w (R := fun _ => True) [opN f] (n := 1) rfl (by omega) trivial (fun y hy => by simp at hy; subst hy; exact opN_ok hf)
  obtain ⟨A5, c5, w5, r5, o5, b5, _, _⟩ := append_nods (ty := 56) (h.alloc (.cells #[.int .i64 f, .int .i64 0, .int .i64 0, .string ⟨#[]⟩, .int .i64 0, .string ⟨#[]⟩, .bool false] 51)) h1 (by omega) (by rw [size_al]; omega)
  refine ⟨A5, c5, w5, r5, ((Below.refl _ _).alloc hb _).trans b5, ?_⟩
  exact Rw.flat_own o5 (by omega) (by rw [List.length_append, hl]; rfl) (fun _ => rfl) (fun y hy => by
    rcases List.mem_append.1 hy with hy | hy
    · exact hok y hy
    · simp at hy; subst hy; exact opN_ok hf) (fun _ _ _ => trivial)
/-- append([]Node{}, a...), and one more node. -/
theorem nds_one {w : World} {R : Nat → Prop} {A0 : Option Addr} {p0 c0 : Nat} {L0 : List Nod} {f : Int} (h0 : Nds w R A0 p0 c0 L0) (h : p0 < 1000000) (hf : 0 ≤ f ∧ f ≤ 100) :
    ∃ A5 c5 w5 A6 c6 w6, (Builtin.append_ #[56, 56] 56 #[.slice (some ⟨w.heap.size, 0, none⟩) 0 0, .slice A0 p0 c0]).run Try.prog (w.alloc (.cells #[] 51)) = .ok (.slice A5 p0 c5) w5 ∧
      (Builtin.append_ #[56, 56] 56 #[.slice A5 p0 c5, .slice (some ⟨w5.heap.size, 0, none⟩) 1 1]).run Try.prog (w5.alloc (.cells #[.int .i64 f, .int .i64 0, .int .i64 0, .string ⟨#[]⟩, .int .i64 0, .string ⟨#[]⟩, .bool false] 51)) = .ok (.slice A6 (p0 + 1) c6) w6 ∧
      Below w.heap.size w w6 ∧ Nds w6 (fun _ => True) A6 (p0 + 1) c6 (L0 ++ [opN f]) := by
  have e1 : Below w.heap.size w (w.alloc (.cells #[] 51)) := (Below.refl _ _).alloc (Nat.le_refl _) _
  obtain ⟨A5, c5, w5, r5, o5, b5, _, _⟩ := append_nods (ty := 56) (xs := []) (own_none w 51 7) (h0.keep (Kept.all e1 R) (fun _ h _ => h)) (by omega) e1.size
  rw [Nat.zero_add] at r5 o5
  have e5 := e1.trans b5
  obtain ⟨A6, c6, w6, r6, b6, h6⟩ := nds_put o5 e5.size (Rw.len h0) (Rw.all h0) hf h
  exact ⟨A5, c5, w5, A6, c6, w6, r5, r6, e5.trans b6, h6⟩
end Go.Proofs.Ytmpldpfgnakbkaa
/- Conditions, plainly: what an expression comes to over a request (chapter 12). -/
namespace Go.Proofs.Ytmpldpfgnakbkaa
set_option linter.unusedVariables false

/-- What a node made. -/
structure Prt where
  bag : List Vl
  v : Vl
  e : Int
/-- How many of what stands ahead a node takes. -/
def takesN (op : Int) : Nat := if op = 1 ∨ op = 2 then 0 else if op = 3 ∨ op = 4 ∨ op = 11 then 1 else 2
/-- Does one of both decide? -/
def decB (op : Int) : List Prt → Bool
  | [a, b] => (decide (op = 12) || decide (op = 13)) && (decide (a.v = truthV (decide (op = 13))) || decide (b.v = truthV (decide (op = 13))))
  | _ => false
def errL : List Prt → Int
  | [] => 0
  | p :: r => if p.e ≠ 0 then p.e else errL r
def singleV : List Vl → Vl × Int
  | [v] => (v, 0)
  | _ => (noneV, 4)
def reckP (op : Int) (of : List Prt) : Vl × Int :=
  if op = 3 then (match of with | p :: _ => singleV p.bag | [] => (noneV, 0))
  else if op = 4 then (match of with | p :: _ => (numV p.bag.length, 0) | [] => (noneV, 0))
  else if op = 5 then (match of with | p :: q :: _ => (truthV (hasB p.bag q.v), 0) | _ => (noneV, 0))
  else callV op (of.map Prt.v)
def madeP (ask : List Giv) (n : Nod) (of : List Prt) : Prt :=
  if n.op = 1 then ⟨[], n.v, 0⟩
  else if n.op = 2 then ⟨getR ask n.a, noneV, getE ask n.a⟩
  else if decB n.op of = true then ⟨[], truthV (decide (n.op = 13)), 0⟩
  else if errL of ≠ 0 then ⟨[], noneV, errL of⟩
  else ⟨[], (reckP n.op of).1, (reckP n.op of).2⟩
/-- One node; many. -/
def stepP (ask : List Giv) (st : List Prt) (n : Nod) : List Prt := st.take (st.length - takesN n.op) ++ [madeP ask n (st.drop (st.length - takesN n.op))]
def runP (ask : List Giv) (l : List Nod) (st : List Prt) : List Prt := l.foldl (stepP ask) st
def noneP : Prt := ⟨[], noneV, 0⟩
/-- P12.1. -/
def valP (ask : List Giv) (l : List Nod) : Vl × Int := if l = [] ∨ exprE l ≠ 0 then (noneV, 1) else (((runP ask l []).headD noneP).v, ((runP ask l []).headD noneP).e)
/-- P12.2. -/
def condP (ask : List Giv) (l : List Nod) : Int := if l = [] then 2 else if (valP ask l).1 = truthV true then 2 else if (valP ask l).1 = truthV false then 0 else 1

theorem runP_app (ask : List Giv) (l m : List Nod) (st : List Prt) : runP ask (l ++ m) st = runP ask m (runP ask l st) := List.foldl_append
theorem runP_cons (ask : List Giv) (n : Nod) (l : List Nod) (st : List Prt) : runP ask (n :: l) st = runP ask l (stepP ask st n) := rfl
theorem runP_nil (ask : List Giv) (st : List Prt) : runP ask [] st = st := rfl

theorem popX_len {op : Int} {s s' : List Bool} (h : popX op s = some s') : takesN op ≤ s.length ∧ s'.length = s.length - takesN op + 1 := by
  rcases ops_cases op with rfl | rfl | rfl | rfl | rfl | rfl | rfl | rfl | rfl | rfl | rfl | rfl | rfl | hn
  case inr.inr.inr.inr.inr.inr.inr.inr.inr.inr.inr.inr.inr =>
    obtain ⟨h1, h2, h3, h4, h5, h6, h7, h8, h9, h10, h11, h12, h13⟩ := hn
    simp [popX, h1, h2, h3, h4, h5, h6, h7, h8, h9, h10, h11, h12, h13] at h
  all_goals
    rcases s with _ | ⟨_ | _, _ | ⟨_ | _, s⟩⟩ <;> simp [popX] at h <;> (subst h; simp [takesN])
theorem stepX_len {n : Nod} {s s' : List Bool} (h : stepX n s = some s') : takesN n.op ≤ s.length ∧ s'.length = s.length - takesN n.op + 1 ∧ holdsB n = true := by
  unfold stepX at h
  by_cases hh : holdsB n = true
  · rw [if_pos hh] at h
    exact ⟨(popX_len h).1, (popX_len h).2, hh⟩
  · rw [if_neg hh] at h; cases h
theorem stepP_frame {ask : List Giv} {n : Nod} {t st : List Prt} (h : takesN n.op ≤ st.length) : stepP ask (t ++ st) n = t ++ stepP ask st n := by
  unfold stepP
  have e : (t ++ st).length - takesN n.op = t.length + (st.length - takesN n.op) := by rw [List.length_append]; omega
  rw [e, List.take_length_add_append, List.drop_length_add_append, List.append_assoc]
theorem stepP_len {ask : List Giv} {n : Nod} {st : List Prt} (h : takesN n.op ≤ st.length) : (stepP ask st n).length = st.length - takesN n.op + 1 := by
  unfold stepP
  rw [List.length_append, List.length_take]
  simp
/-- A run that the stack of kinds bears goes on over anything. -/
theorem runP_frame {ask : List Giv} : ∀ {l : List Nod} {s s' : List Bool} {t st : List Prt}, runX l s = some s' → st.length = s.length → runP ask l (t ++ st) = t ++ runP ask l st ∧ (runP ask l st).length = s'.length
  | [], s, s', t, st, h, hl => by
    simp [runX] at h
    subst h
    exact ⟨rfl, hl⟩
  | n :: l, s, s', t, st, h, hl => by
    simp only [runX] at h
    cases hs : stepX n s with
    | none => rw [hs] at h; cases h
    | some u =>
      rw [hs] at h
      obtain ⟨a, b, _⟩ := stepX_len hs
      rw [runP_cons, runP_cons, stepP_frame (by omega)]
      exact runP_frame h (by rw [stepP_len (by omega)]; omega)
/-- A right expression leaves one more, whatever stands ahead. -/
theorem run_right {ask : List Giv} {l : List Nod} (h : exprE l = 0) (hn : l ≠ []) : ∃ p, (∀ t, runP ask l t = t ++ [p]) ∧ valP ask l = (p.v, p.e) := by
  obtain ⟨_, hr⟩ := exprE_ok h hn
  have hf := fun t => runP_frame (ask := ask) (t := t) (st := []) hr rfl
  have hl := (hf []).2
  obtain ⟨p, hp⟩ := List.length_eq_one_iff.1 hl
  refine ⟨p, fun t => ?_, ?_⟩
  · have := (hf t).1
    rw [List.append_nil, hp] at this
    exact this
  · unfold valP
    rw [if_neg (by rintro (h0 | h0); exact hn h0; exact h0 h), hp]
    rfl
/-- Beside an error there is nothing. -/
def FineP (p : Prt) : Prop := p.e ≠ 0 → p.v = noneV
theorem numF_fine (p : Int × Int) (h : (numF p).2 ≠ 0) : (numF p).1 = noneV := by
  unfold numF at h ⊢
  split
  · rename_i h0; rw [if_pos h0] at h; exact absurd rfl h
  · rfl
theorem callV_fine {op : Int} {l : List Vl} (h : (callV op l).2 ≠ 0) : (callV op l).1 = noneV := by
  unfold callV at h ⊢
  split
  · rename_i h0
    rw [if_pos h0] at h
    match l, h with
    | [], h => rfl
    | [a], h =>
      simp only [callOf, notV] at h ⊢
      split
      · rename_i h1; rw [if_pos h1] at h; exact absurd rfl h
      · rfl
    | [a, b], h =>
      simp only [callOf, callTwo] at h ⊢
      split
      · rename_i h1; rw [if_pos h1] at h
        unfold sameV at h ⊢
        split
        · rename_i h2; rw [if_pos h2] at h; exact absurd rfl h
        · rfl
      · rename_i h1; rw [if_neg h1] at h
        split
        · rename_i h2; rw [if_pos h2] at h
          unfold lessV at h ⊢
          split
          · rename_i h3; rw [if_pos h3] at h; exact absurd rfl h
          · rfl
        · rename_i h2; rw [if_neg h2] at h
          split
          · rename_i h3; rw [if_pos h3] at h
            unfold bothV at h ⊢
            split
            · rename_i h4; rw [if_pos h4] at h; exact absurd rfl h
            · rfl
          · rename_i h3; rw [if_neg h3] at h
            unfold reckV at h ⊢
            split
            · rename_i h4; rw [if_pos h4] at h; exact numF_fine _ h
            · rfl
    | _ :: _ :: _ :: _, h => rfl
  · rfl
theorem singleV_fine {l : List Vl} (h : (singleV l).2 ≠ 0) : (singleV l).1 = noneV := by
  match l, h with
  | [], _ => rfl
  | [v], h => exact absurd rfl h
  | _ :: _ :: _, _ => rfl
theorem reckP_fine {op : Int} {of : List Prt} (h : (reckP op of).2 ≠ 0) : (reckP op of).1 = noneV := by
  unfold reckP at h ⊢
  split
  · rename_i h0; rw [if_pos h0] at h
    match of, h with
    | [], _ => rfl
    | p :: _, h => exact singleV_fine h
  · rename_i h0; rw [if_neg h0] at h
    split
    · rename_i h1; rw [if_pos h1] at h
      match of, h with
      | [], _ => rfl
      | p :: _, h => exact absurd rfl h
    · rename_i h1; rw [if_neg h1] at h
      split
      · rename_i h2; rw [if_pos h2] at h
        match of, h with
        | [], _ => rfl
        | [_], _ => rfl
        | p :: _ :: _, h => exact absurd rfl h
      · rename_i h2; rw [if_neg h2] at h
        exact callV_fine h
theorem madeP_fine (ask : List Giv) (n : Nod) (of : List Prt) : FineP (madeP ask n of) := by
  intro h
  unfold madeP at h ⊢
  split
  · rename_i h0; rw [if_pos h0] at h; exact absurd rfl h
  · rename_i h0; rw [if_neg h0] at h
    split
    · rfl
    · rename_i h1; rw [if_neg h1] at h
      split
      · rename_i h2; rw [if_pos h2] at h; exact absurd rfl h
      · rename_i h2; rw [if_neg h2] at h
        split
        · rfl
        · rename_i h3; rw [if_neg h3] at h; exact reckP_fine h
theorem runP_fine {ask : List Giv} : ∀ {l : List Nod} {st : List Prt}, (∀ p ∈ st, FineP p) → ∀ p ∈ runP ask l st, FineP p
  | [], st, h => h
  | n :: l, st, h => by
    rw [runP_cons]
    refine runP_fine fun p hp => ?_
    rcases List.mem_append.1 hp with hp | hp
    · exact h p (List.mem_of_mem_take hp)
    · simp at hp; subst hp; exact madeP_fine _ _ _
theorem run_fine {ask : List Giv} {l : List Nod} (h : exprE l = 0) (hn : l ≠ []) : ∃ p, (∀ t, runP ask l t = t ++ [p]) ∧ valP ask l = (p.v, p.e) ∧ FineP p := by
  obtain ⟨p, h1, h2⟩ := run_right (ask := ask) h hn
  refine ⟨p, h1, h2, ?_⟩
  have := runP_fine (ask := ask) (l := l) (st := []) (fun p hp => by cases hp)
  rw [h1 []] at this
  exact this p (by simp)
theorem valP_fine (ask : List Giv) (l : List Nod) (h : (valP ask l).2 ≠ 0) : (valP ask l).1 = noneV := by
  by_cases hc : l = [] ∨ exprE l ≠ 0
  · unfold valP; rw [if_pos hc]
  · have hn : l ≠ [] := fun e => hc (.inl e)
    have he : exprE l = 0 := by
      by_cases h : exprE l = 0
      · exact h
      · exact absurd (.inr h) hc
    obtain ⟨p, _, h2, hf⟩ := run_fine (ask := ask) he hn
    rw [h2] at h ⊢
    exact hf h
end Go.Proofs.Ytmpldpfgnakbkaa
/- Rows of the call's own whose elements lead to memory: append. -/
namespace Go.Proofs.Ytmpldpfgnakbkaa
set_option linter.unusedVariables false
open Go.RowKit

/-- A row of the call's own, of so many cells each, which say l. -/
def Ow {α : Type} (k : Nat) (P : List Value → α → Prop) (w : World) (base : Nat) (E : TypeId) (A : Option Addr) (n c : Nat) (l : List α) : Prop :=
  ∃ raw : List (List Value), w.ownsRow base E k (.slice A n c) n raw.flatten ∧ raw.length = n ∧ l.length = n ∧ (∀ y ∈ raw, y.length = k) ∧ ∀ (j : Nat) (vs : List Value) (x : α), raw[j]? = some vs → l[j]? = some x → P vs x
section
variable {α : Type} {k : Nat} {P P' : List Value → α → Prop} {w w' : World} {base : Nat} {E : TypeId} {A : Option Addr} {n c : Nat} {l : List α}
theorem Ow.len (h : Ow k P w base E A n c l) : l.length = n := by obtain ⟨_, _, _, h, _⟩ := h; exact h
theorem Ow.made (k : Nat) (P : List Value → α → Prop) (w : World) (E : TypeId) : Ow k P (w.alloc (.cells #[] E)) w.heap.size E (some ⟨w.heap.size, 0, none⟩) 0 0 [] :=
  ⟨[], own_none w E k, rfl, rfl, by simp, by simp⟩
theorem Ow.nil (k : Nat) (P : List Value → α → Prop) (w : World) (base : Nat) (E : TypeId) : Ow k P w base E none 0 0 [] :=
  ⟨[], ⟨by simp, .inl ⟨rfl, rfl⟩⟩, rfl, rfl, by simp, by simp⟩
theorem Ow.mapP (h : Ow k P w base E A n c l) (hP : ∀ vs x, x ∈ l → P vs x → P' vs x) : Ow k P' w base E A n c l := by
  obtain ⟨raw, h1, h2, h3, h4, h5⟩ := h
  exact ⟨raw, h1, h2, h3, h4, fun j vs x a b => hP vs x (List.mem_of_getElem? b) (h5 j vs x a b)⟩
theorem Ow.grown (h : Ow k P w base E A n c l) {row : Option Nat} (hg : w.grownBy w' row) (hne : (Value.slice A n c).ownBlock = none ∨ (Value.slice A n c).ownBlock ≠ row) : Ow k P w' base E A n c l := by
  obtain ⟨raw, h1, h2, h3, h4, h5⟩ := h
  exact ⟨raw, h1.kept (row := row) hg hne, h2, h3, h4, h5⟩
theorem Ow.below (h : Ow k P w base E A n c l) (hb : Below w.heap.size w w') : Ow k P w' base E A n c l := by
  refine h.grown (row := none) ⟨hb.os, hb.tape, hb.output, hb.size, fun k hk _ => hb.block k hk⟩ ?_
  by_cases hv : (Value.slice A n c).ownBlock = none
  · exact .inl hv
  · exact .inr hv
theorem Ow.alloc (h : Ow k P w base E A n c l) (o : Obj) : Ow k P (w.alloc o) base E A n c l := h.below ((Below.refl _ _).alloc (Nat.le_refl _) _)
theorem Ow.rw {R : Nat → Prop} (h : Ow k P w base E A n c l) (hbig : n ≤ 140737488351232) (hR : ∀ ad, A = some ad → base ≤ ad.block → R ad.block) : Rw k P w R A n c l := by
  obtain ⟨raw, h1, h2, h3, h4, h5⟩ := h
  exact Rw.of_own h1 hbig h2 h3 h4 h5 hR
theorem Ow.app {Pg : Program} {T : TypeId} {i : TypeInfo} {z : Value} {by_ : Nat} (ht : Pg.underlying T = some (.slice E)) (hi : Pg.info? E = some i) (hz : i.zero = some z) (hs : i.size = k) (hb : i.bytes = by_) (hzs : z.cells.size = k) (hk : 0 < k) (hby : by_ ≤ 1000)
    {m c2 ty : Nat} {A2 : Option Addr} {R : Nat → Prop} {ys : List α} (h : Ow k P w base E A n c l) (hy : Rw k P w R A2 m c2 ys) (h1 : ∀ vs x, P vs x → ∀ v ∈ vs, v.oneCell' = true) (hn : n + m ≤ 1000000) (hbase : base ≤ w.heap.size) :
    ∃ A' c' w', (Builtin.append_ #[T, T] ty #[.slice A n c, .slice A2 m c2]).run Pg w = .ok (.slice A' (n + m) c') w' ∧ Ow k P w' base E A' (n + m) c' (l ++ ys) ∧ Below base w w' ∧ w.grownBy w' (Value.slice A n c).ownBlock ∧
      ((Value.slice A' (n + m) c').ownBlock = (Value.slice A n c).ownBlock ∨ (Value.slice A' (n + m) c').ownBlock = some w.heap.size) := by
  obtain ⟨raw, o1, o2, o3, o4, o5⟩ := h
  obtain ⟨raw2, r1, r2, r3, r4⟩ := hy.fl hk h1
  obtain ⟨A', c', w', hrun, hown, hbel, hg, ha⟩ := append_rows (ty := ty) (c2 := c2) ht hi hz hs hb hzs hk hby o1 r4 hn hbase
  refine ⟨A', c', w', hrun, ⟨raw ++ raw2, by rw [List.flatten_append]; exact hown, by rw [List.length_append, o2, r1], by rw [List.length_append, o3, hy.1], fun y hy => (List.mem_append.1 hy).elim (o4 y) (r2 y), fun j vs x a b => ?_⟩, hbel, hg, ha⟩
  by_cases hj : j < n
  · rw [List.getElem?_append_left (by omega)] at a b
    exact o5 j vs x a b
  · rw [List.getElem?_append_right (by omega)] at a b
    rw [o2] at a
    rw [o3] at b
    exact r3 (j - n) vs x a b
end

/-- Cells of slices. -/
def AlP (w : World) (R : Nat → Prop) (vs : List Value) (l : List Mat) : Prop := ∃ A n c, vs = [.slice A n c] ∧ Ms w R A n c l
def AnP (w : World) (R : Nat → Prop) (vs : List Value) (l : List (List Mat)) : Prop := ∃ A n c, vs = [.slice A n c] ∧ Als w R A n c l
theorem AlP.one {w : World} {R : Nat → Prop} (vs : List Value) (l : List Mat) (h : AlP w R vs l) : ∀ v ∈ vs, v.oneCell' = true := by
  obtain ⟨A, n, c, rfl, _⟩ := h
  intro v hv
  simp at hv
  subst hv
  rfl
theorem AnP.one {w : World} {R : Nat → Prop} (vs : List Value) (l : List (List Mat)) (h : AnP w R vs l) : ∀ v ∈ vs, v.oneCell' = true := by
  obtain ⟨A, n, c, rfl, _⟩ := h
  intro v hv
  simp at hv
  subst hv
  rfl
theorem AnP.keep {w w' : World} {R R' : Nat → Prop} {vs : List Value} {l : List (List Mat)} (h : AnP w R vs l) (hk : Kept R w w') (hR : ∀ b, R b → b < w.heap.size → R' b) : AnP w' R' vs l := by
  obtain ⟨A, n, c, e, h⟩ := h
  exact ⟨A, n, c, e, h.keep hk hR⟩
theorem AlP.keep {w w' : World} {R R' : Nat → Prop} {vs : List Value} {l : List Mat} (h : AlP w R vs l) (hk : Kept R w w') (hR : ∀ b, R b → b < w.heap.size → R' b) : AlP w' R' vs l := by
  obtain ⟨A, n, c, e, h⟩ := h
  exact ⟨A, n, c, e, h.keep hk hR⟩
theorem any_mono {w : World} {R : Nat → Prop} {A : Option Addr} {n c : Nat} {l : Tgt} (h : Tg w R A n c l) : Tg w (fun b => b < w.heap.size) A n c l := h.keep (Kept.refl _ _) fun _ _ h => h

end Go.Proofs.Ytmpldpfgnakbkaa
/- Rows of the call's own that grow by one, whose elements lead to memory apart from the row itself. -/
namespace Go.Proofs.Ytmpldpfgnakbkaa
set_option linter.unusedVariables false
open Go.RowKit

/-- The blocks from base on but for the row's own. -/
def Nb (base : Nat) (v : Value) (b : Nat) : Prop := base ≤ b ∧ some b ≠ v.ownBlock
/-- Elements that are kept where the memory that they lead to is. -/
def Keeps {α : Type} (P : World → (Nat → Prop) → List Value → α → Prop) : Prop :=
  ∀ (w w' : World) (R R' : Nat → Prop) vs x, P w R vs x → Kept R w w' → (∀ b, R b → b < w.heap.size → R' b) → P w' R' vs x
def Gr {α : Type} (k : Nat) (P : World → (Nat → Prop) → List Value → α → Prop) (w : World) (base : Nat) (E : TypeId) (A : Option Addr) (n c : Nat) (l : List α) : Prop :=
  Ow k (P w (Nb base (.slice A n c))) w base E A n c l ∧ base ≤ w.heap.size

section
variable {α : Type} {k : Nat} {P : World → (Nat → Prop) → List Value → α → Prop} {w w' : World} {base : Nat} {E : TypeId} {A : Option Addr} {n c : Nat} {l : List α}
theorem Ow.lt {P : List Value → α → Prop} (h : Ow k P w base E A n c l) : ∀ b, (Value.slice A n c).ownBlock = some b → base ≤ b ∧ b < w.heap.size := by
  obtain ⟨raw, h1, _⟩ := h
  exact h1.lt
theorem Gr.nil (w : World) (base : Nat) (hb : base ≤ w.heap.size) : Gr k P w base E none 0 0 [] := ⟨Ow.nil _ _ _ _ _, hb⟩
theorem Gr.len (h : Gr k P w base E A n c l) : l.length = n := h.1.len
theorem Gr.below (hP : Keeps P) (h : Gr k P w base E A n c l) (hb : Below w.heap.size w w') : Gr k P w' base E A n c l :=
  ⟨(h.1.mapP (fun vs x _ hp => hP _ _ _ _ vs x hp (Kept.all hb _) (fun _ h _ => h))).below hb, Nat.le_trans h.2 hb.size⟩
/-- It reads as its list; row and elements lie from base on. -/
theorem Gr.rw (hP : Keeps P) (h : Gr k P w base E A n c l) (hbig : n ≤ 140737488351232) : Rw k (P w (fun b => base ≤ b)) w (fun b => base ≤ b) A n c l :=
  (h.1.mapP (fun vs x _ hp => hP _ _ _ (fun b => base ≤ b) vs x hp (Kept.refl _ _) (fun _ h _ => h.1))).rw hbig (fun _ _ h => h)
/-- One more, laid behind as a literal. -/
theorem Gr.push {Pg : Program} {T : TypeId} {i : TypeInfo} {z : Value} {by_ : Nat} (ht : Pg.underlying T = some (.slice E)) (hi : Pg.info? E = some i) (hz : i.zero = some z) (hs : i.size = k) (hb : i.bytes = by_) (hzs : z.cells.size = k) (hk : 0 < k) (hby : by_ ≤ 1000)
    {ty : Nat} {vs : List Value} {x : α} (hP : Keeps P) (h : Gr k P w base E A n c l) (hx : P w (Nb base (.slice A n c)) vs x) (hl : vs.length = k) (h1 : ∀ w R vs (x : α), P w R vs x → ∀ v ∈ vs, v.oneCell' = true) (hn : n < 1000000) :
    ∃ A' c' w', (Builtin.append_ #[T, T] ty #[.slice A n c, .slice (some ⟨w.heap.size, 0, none⟩) 1 1]).run Pg (w.alloc (.cells vs.toArray E)) = .ok (.slice A' (n + 1) c') w' ∧ Gr k P w' base E A' (n + 1) c' (l ++ [x]) ∧ Below base w w' := by
  have hbase := h.2
  have a1 : Below w.heap.size w (w.alloc (.cells vs.toArray E)) := (Below.refl _ _).alloc (Nat.le_refl _) _
  have h' := Gr.below hP h a1
  have hlit : Rw k (P (w.alloc (.cells vs.toArray E)) (Nb base (.slice A n c))) (w.alloc (.cells vs.toArray E)) (fun _ => True) (some ⟨w.heap.size, 0, none⟩) 1 1 [x] := by
    have := Rw.lit (P := P (w.alloc (.cells vs.toArray E)) (Nb base (.slice A n c))) (R := fun _ => True) w E (fun _ => vs) [x] (n := 1) rfl (by omega) trivial (fun _ _ => hl) (fun y hy => by simp at hy; subst hy; exact hP _ _ _ _ _ _ hx (Kept.all a1 _) (fun _ h _ => h))
    simpa using this
  obtain ⟨A', c', w', hrun, hown, hbel, hg, hob⟩ := Ow.app (ty := ty) ht hi hz hs hb hzs hk hby h'.1 hlit (h1 _ _) (by omega) h'.2
  refine ⟨A', c', w', hrun, ⟨hown.mapP fun vs x _ hp => hP _ _ _ _ vs x hp ⟨hg.size, fun b hR hlt => hg.block b hlt hR.2⟩ (fun b hR hlt => ⟨hR.1, ?_⟩), Nat.le_trans h'.2 hbel.size⟩, (a1.mono hbase).trans hbel⟩
  rcases hob with e | e
  · rw [e]; exact hR.2
  · rw [e]
    intro he
    injection he with he
    omega
end
theorem keeps_alp : Keeps AlP := fun _ _ _ _ _ _ h hk hR => h.keep hk hR
theorem keeps_anp : Keeps AnP := fun _ _ _ _ _ _ h hk hR => h.keep hk hR
theorem keeps_rul : Keeps RulAt := fun _ _ _ _ _ _ h hk hR => h.keep hk hR
theorem keeps_pol (d : Nat) : Keeps (fun w R => PolAt w R d) := fun _ _ _ _ _ _ h hk hR => PolAt.keep hk hR h
theorem copy_nods {w : World} {R : Nat → Prop} {A0 : Option Addr} {p0 c0 : Nat} {L0 : List Nod} (h0 : Nds w R A0 p0 c0 L0) (h : p0 ≤ 1000000) :
    ∃ A5 c5 w5, (Builtin.append_ #[56, 56] 56 #[.slice (some ⟨w.heap.size, 0, none⟩) 0 0, .slice A0 p0 c0]).run Try.prog (w.alloc (.cells #[] 51)) = .ok (.slice A5 p0 c5) w5 ∧ Below w.heap.size w w5 ∧ Nds w5 (fun b => w.heap.size ≤ b) A5 p0 c5 L0 := by
  have e1 : Below w.heap.size w (w.alloc (.cells #[] 51)) := (Below.refl _ _).alloc (Nat.le_refl _) _
  obtain ⟨A5, c5, w5, r5, o5, b5, _, _⟩ := append_nods (ty := 56) (xs := []) (own_none w 51 7) (h0.keep (Kept.all e1 R) (fun _ h _ => h)) (by omega) e1.size
  rw [Nat.zero_add] at r5 o5
  refine ⟨A5, c5, w5, r5, e1.trans b5, ?_⟩
  exact Rw.flat_own o5 (by omega) (Rw.len h0) (fun _ => rfl) (Rw.all h0) (fun _ _ h => h)
/-- What is new lies apart from a row that is older. -/
theorem Gr.apart {α : Type} {k : Nat} {P : World → (Nat → Prop) → List Value → α → Prop} {w : World} {base : Nat} {E : TypeId} {A : Option Addr} {n c : Nat} {l : List α} (h : Gr k P w base E A n c l) : ∀ b, w.heap.size ≤ b → Nb base (.slice A n c) b := fun b hb => by
  refine ⟨Nat.le_trans h.2 hb, fun e => ?_⟩
  have := (h.1.lt b e.symm).2
  omega
/-- A block that is known to be empty is a row of the call's own. -/
theorem own_ob {V : World} {E : TypeId} {k g base : Nat} (h : Ob V g E #[]) (hb : base ≤ g) : V.ownsRow base E k (.slice (some ⟨g, 0, none⟩) 0 0) 0 [] :=
  ⟨by simp, .inr ⟨g, 0, #[], rfl, hb, h, Nat.le_refl _, by simp [maxLen], by simp, by simp⟩⟩
theorem copy_nods_at {V : World} {R : Nat → Prop} {A0 : Option Addr} {p0 c0 g : Nat} {L0 : List Nod} (hg : Ob V g 51 #[]) (h0 : Nds V R A0 p0 c0 L0) (h : p0 ≤ 1000000) (hlt : g ≤ V.heap.size) :
    ∃ A5 c5 w5, (Builtin.append_ #[56, 56] 56 #[.slice (some ⟨g, 0, none⟩) 0 0, .slice A0 p0 c0]).run Try.prog V = .ok (.slice A5 p0 c5) w5 ∧ Below g V w5 ∧ Nds w5 (fun b => b = g ∨ b = V.heap.size) A5 p0 c5 L0 ∧ Kept (fun b => b ≠ g) V w5 := by
  obtain ⟨A5, c5, w5, r5, o5, b5, g5, t5⟩ := append_nods (ty := 56) (xs := []) (own_ob hg (Nat.le_refl g)) h0 (by omega) hlt
  rw [Nat.zero_add] at r5 o5
  exact ⟨A5, c5, w5, r5, b5, Rw.flat_own o5 (by omega) (Rw.len h0) (fun _ => rfl) (Rw.all h0) (fun ad e _ => by subst e; exact t5.elim (fun h => .inl (by injection h)) (fun h => .inr (by injection h))), g5.size, fun b hb hlt => g5.block b hlt (fun e => hb (by injection e))⟩
end Go.Proofs.Ytmpldpfgnakbkaa
/- Lists of values of the call's own: append. -/
namespace Go.Proofs.Ytmpldpfgnakbkaa
set_option linter.unusedVariables false
open Go.RowKit

def cells3 : List Vl → List Value
  | [] => []
  | v :: r => .int .i64 v.k :: .int .i64 v.n :: .string v.s :: cells3 r
theorem cells3_len (l : List Vl) : (cells3 l).length = l.length * 3 := by
  induction l with
  | nil => rfl
  | cons v r ih => simp [cells3, ih]; omega
theorem cells3_app (l m : List Vl) : cells3 (l ++ m) = cells3 l ++ cells3 m := by
  induction l with
  | nil => rfl
  | cons v r ih => simp [cells3, ih]
theorem cells3_one {l : List Vl} : ∀ v ∈ cells3 l, v.oneCell' = true := by
  induction l with
  | nil => intro v hv; cases hv
  | cons x r ih =>
    intro v hv
    simp only [cells3, List.mem_cons] at hv
    rcases hv with rfl | rfl | rfl | hv
    · rfl
    · rfl
    · rfl
    · exact ih v hv
theorem cells3_at {l : List Vl} {j : Nat} {v : Vl} (h : l[j]? = some v) : (cells3 l)[j * 3]? = some (.int .i64 v.k) ∧ (cells3 l)[j * 3 + 1]? = some (.int .i64 v.n) ∧ (cells3 l)[j * 3 + 2]? = some (.string v.s) := by
  induction l generalizing j with
  | nil => simp at h
  | cons x r ih =>
    cases j with
    | zero => simp at h; subst h; exact ⟨rfl, rfl, rfl⟩
    | succ j =>
      simp at h
      obtain ⟨a, b, c⟩ := ih h
      have e : (j + 1) * 3 = j * 3 + 1 + 1 + 1 := by omega
      rw [e]
      exact ⟨by simpa [cells3] using a, by simpa [cells3] using b, by simpa [cells3] using c⟩
theorem cells3_of {l : List Vl} {i : Nat} {u : Value} (h : (cells3 l)[i]? = some u) : ∃ j v, l[j]? = some v ∧ (i = j * 3 ∧ u = .int .i64 v.k ∨ i = j * 3 + 1 ∧ u = .int .i64 v.n ∨ i = j * 3 + 2 ∧ u = .string v.s) := by
  have hi : i < l.length * 3 := by rw [← cells3_len]; exact (List.getElem?_eq_some_iff.1 h).1
  have hj : i / 3 < l.length := by omega
  obtain ⟨a, b, c⟩ := cells3_at (List.getElem?_eq_getElem hj)
  refine ⟨i / 3, l[i / 3], List.getElem?_eq_getElem hj, ?_⟩
  have hm : i = i / 3 * 3 ∨ i = i / 3 * 3 + 1 ∨ i = i / 3 * 3 + 2 := by omega
  rcases hm with e | e | e
  · rw [← e, h] at a; exact .inl ⟨e, Option.some.inj a⟩
  · rw [← e, h] at b; exact .inr (.inl ⟨e, Option.some.inj b⟩)
  · rw [← e, h] at c; exact .inr (.inr ⟨e, Option.some.inj c⟩)

theorem valinfo : (Try.prog.info? 42).map (fun i => (i.zero, i.size, i.bytes)) = some (some (.agg #[.int .i64 0, .int .i64 0, .string ⟨#[]⟩]), 3, 32) := by kernel_rfl
theorem val_parts : ∃ i, Try.prog.info? 42 = some i ∧ i.zero = some (.agg #[.int .i64 0, .int .i64 0, .string ⟨#[]⟩]) ∧ i.size = 3 ∧ i.bytes = 32 := by
  have h := valinfo
  cases hi : Try.prog.info? 42 with
  | none => rw [hi] at h; cases h
  | some i =>
    rw [hi] at h
    simp only [Option.map_some, Option.some.injEq, Prod.mk.injEq] at h
    exact ⟨i, rfl, h.1, h.2.1, h.2.2⟩

/-- A list of the call's own reads as its values. -/
theorem Vs.of_own {w : World} {base n c : Nat} {A : Option Addr} {l : List Vl} (h : w.ownsRow base 42 3 (.slice A n c) n (cells3 l)) (hok : ∀ v ∈ l, v.ok) : Vs w w.heap.size A n c l := by
  have hl : l.length = n := by have := h.1; rw [cells3_len] at this; omega
  rcases h.2 with ⟨hv, hn⟩ | ⟨g, cap, cur, hv, hb, hg, hnc, hcm, hcs, ht⟩
  · injection hv with h1 h2 h3
    subst h1 h2 h3
    exact ⟨hl, Nat.le_refl _, by simp [maxLen], .inl rfl, hok⟩
  · injection hv with h1 h2 h3
    subst h1 h3
    refine ⟨hl, hnc, hcm, .inr ⟨g, 0, rfl, ?_, fun j v hv => ?_⟩, hok⟩
    · rcases Nat.lt_or_ge g w.heap.size with hlt | hge
      · exact hlt
      · rw [Array.getElem?_eq_none hge] at hg; cases hg
    · have add : ∀ j : Nat, (⟨g, 0, none⟩ : Addr).add j = ⟨g, 0 + j, none⟩ := fun j => by by_cases hj : j = 0 <;> simp [Addr.add, hj]
      obtain ⟨a, b, c⟩ := cells3_at hv
      have h1 := h.cells (g := g) rfl (j * 3) _ a
      have h2 := h.cells (g := g) rfl (j * 3 + 1) _ b
      have h3 := h.cells (g := g) rfl (j * 3 + 2) _ c
      rw [add] at h1 h2 h3
      exact ⟨h1, h2, h3⟩

/-- append(out, l...) of values that lie somewhere. -/
theorem append_vals {w : World} {base B n c m c2 ty : Nat} {A A2 : Option Addr} {xs ys : List Vl} (h : w.ownsRow base 42 3 (.slice A n c) n (cells3 xs)) (hy : Vs w B A2 m c2 ys) (hn : n + m ≤ 1000000) (hbase : base ≤ w.heap.size) :
    ∃ A' c' w', (Builtin.append_ #[25, 25] ty #[.slice A n c, .slice A2 m c2]).run Try.prog w = .ok (.slice A' (n + m) c') w' ∧
      w'.ownsRow base 42 3 (.slice A' (n + m) c') (n + m) (cells3 (xs ++ ys)) ∧ Below base w w' ∧ w.grownBy w' (Value.slice A n c).ownBlock := by
  obtain ⟨i, hi, hz, hs, hb⟩ := val_parts
  have hlen := hy.1
  have fin : ∀ (ad : Addr), A2 = some ad → (∀ j u, (cells3 ys)[j]? = some u → w.cell? (ad.add j) = some u) → ∃ A' c' w', (Builtin.append_ #[25, 25] ty #[.slice A n c, .slice A2 m c2]).run Try.prog w = .ok (.slice A' (n + m) c') w' ∧
      w'.ownsRow base 42 3 (.slice A' (n + m) c') (n + m) (cells3 (xs ++ ys)) ∧ Below base w w' ∧ w.grownBy w' (Value.slice A n c).ownBlock := by
    rintro ad rfl hc
    obtain ⟨v', w', hrun, h2, h3, h4⟩ := run_append_own (P := Try.prog) w base 25 ty 42 i _ 3 32 Try.underlying25 hi hz hs hb rfl (by omega) (.slice A n c) n (cells3 xs) h
      ad m c2 (cells3 ys) (by rw [cells3_len, hlen]) hc cells3_one (by unfold maxLen; omega) (by omega) hbase
    have hform : ∃ A' c', v' = .slice A' (n + m) c' := by
      rcases h2.2 with ⟨hv, hz⟩ | ⟨g, cap, cur, hv, _⟩
      · exact ⟨_, _, by rw [hv, hz]⟩
      · exact ⟨_, _, hv⟩
    obtain ⟨A', c', rfl⟩ := hform
    exact ⟨A', c', w', hrun, by rw [cells3_app]; exact h2, (Below.refl base w).grown h3 hbase (fun k hk => (h.lt k hk).1), h3⟩
  rcases hy.2.2.2.1 with h0 | ⟨b, o, e, hb', hc⟩
  · subst h0
    obtain rfl : ys = [] := List.eq_nil_of_length_eq_zero hlen
    rcases A2 with _ | ad
    · exact ⟨A, c, w, append_nil_src Try.underlying25 hi h, by simpa using h, Below.refl _ _, ⟨rfl, rfl, rfl, Nat.le_refl _, fun _ _ _ => rfl⟩⟩
    · exact fin ad rfl (fun j u hu => by simp [cells3] at hu)
  · refine fin _ e fun j u hu => ?_
    have add : ∀ j : Nat, (⟨b, o, none⟩ : Addr).add j = ⟨b, o + j, none⟩ := fun j => by by_cases hj : j = 0 <;> simp [Addr.add, hj]
    rw [add]
    obtain ⟨i', v, hv, hcase⟩ := cells3_of hu
    obtain ⟨c0, c1, c2⟩ := hc i' v hv
    rcases hcase with ⟨rfl, rfl⟩ | ⟨rfl, rfl⟩ | ⟨rfl, rfl⟩
    · exact c0
    · exact c1
    · exact c2

theorem Vs.keep1 {w w' : World} {B n c b o : Nat} {l : List Vl} (h : Vs w B (some ⟨b, o, none⟩) n c l) (hk : w'.heap[b]? = w.heap[b]?) : Vs w' B (some ⟨b, o, none⟩) n c l := by
  obtain ⟨h1, h2, h3, h4, h5⟩ := h
  refine ⟨h1, h2, h3, ?_, h5⟩
  rcases h4 with h4 | ⟨b', o', e, hb, hc⟩
  · exact .inl h4
  · injection e with e
    injection e with e1 e2
    subst e1 e2
    refine .inr ⟨b, o, rfl, hb, fun j v hv => ?_⟩
    obtain ⟨a1, a2, a3⟩ := hc j v hv
    exact ⟨(World.cell?_of_block hk).trans a1, (World.cell?_of_block hk).trans a2, (World.cell?_of_block hk).trans a3⟩

/-- append of values, as a step of a region that draws. -/
theorem step_append_vals {ops : Array Oper} {o : Oper} {a : Act} {w : World} {K : Act → World → Prop} {Q : Exit → Act → World → Prop} {E : Prop}
    {base B n c m c2 : Nat} {A A2 : Option Addr} {xs ys : List Vl} (N : Nat) (zs : List Vl) (hown : w.ownsRow base 42 3 (.slice A n c) n (cells3 xs)) (hsrc : Vs w B A2 m c2 ys) (hN : n + m = N) (hz : xs ++ ys = zs) (hn : N ≤ 1000000) (hbase : base ≤ w.heap.size)
    (hg : o.guard = none) (s x : Operand) (hop : o.op = Op.call { callee := Callee.builtin Builtin.append, args := #[s, x], argTypes := #[25, 25] })
    (hs : a.eval s = .slice A n c) (hx : a.eval x = .slice A2 m c2)
    (hK : ∀ A' c' w', w'.ownsRow base 42 3 (.slice A' N c') N (cells3 zs) → Below base w w' → w.grownBy w' (Value.slice A n c).ownBlock → K (a.put o.dst (.slice A' N c')) w') :
    if Region.wanted o (yielded ops a.tmps) = true then Oper.wp Try.prog o a w K Q else E := by
  subst hN hz
  obtain ⟨A', c', w', hrun, h1, h2, h3⟩ := append_vals (ty := o.type) hown hsrc hn hbase
  exact step_append_run hg s x _ _ hop hs hx hrun (hK A' c' w' h1 h2 h3)
theorem own_e1 (w : World) : (w.alloc (.cells #[] 42)).ownsRow w.heap.size 42 3 (.slice (some ⟨w.heap.size, 0, none⟩) 0 0) 0 (cells3 []) :=
  World.ownsRow_lit w #[] 0 (Nat.le_refl _) (by simp [maxLen]) rfl
theorem own_e2 (w : World) (o : Obj) : ((w.alloc (.cells #[] 42)).alloc o).ownsRow w.heap.size 42 3 (.slice (some ⟨w.heap.size, 0, none⟩) 0 0) 0 (cells3 []) :=
  (own_e1 w).alloc o
theorem own_e3 (w : World) (o : Obj) : ((w.alloc o).alloc (.cells #[] 42)).ownsRow (w.heap.size + 1) 42 3 (.slice (some ⟨w.heap.size + 1, 0, none⟩) 0 0) 0 (cells3 []) := by
  have := own_e1 (w.alloc o)
  rwa [size_al] at this
theorem lit_keep {w w6 : World} {v : Vl} (hv : v.ok) {B : Nat} (g : (((w.alloc (.cells #[] 42)).alloc (.cells #[.int .i64 v.k, .int .i64 v.n, .string v.s] 42)).drew).grownBy w6 (Value.slice (some ⟨w.heap.size, 0, none⟩) 0 B).ownBlock) :
    Vs w6 (w.heap.size + 2) (some ⟨w.heap.size + 1, 0, none⟩) 1 1 [v] := by
  have h := Vs.lit1 (w.alloc (.cells #[] 42)) v hv
  rw [size_al] at h
  refine h.keep1 (g.block _ ?_ ?_)
  · show _ < ((w.alloc _).alloc _).heap.size
    rw [size_al, size_al]
    omega
  · simp [Value.ownBlock]
theorem lit_below {w w6 : World} {v : Vl} (hv : v.ok) (b : Below (w.heap.size + 1) (((w.alloc (.cells #[.int .i64 v.k, .int .i64 v.n, .string v.s] 42)).alloc (.cells #[] 42)).drew) w6) :
    Vs w6 (w.heap.size + 1) (some ⟨w.heap.size, 0, none⟩) 1 1 [v] := by
  have h := Vs.lit1 w v hv
  have e : Below (w.heap.size + 1) (w.alloc (.cells #[.int .i64 v.k, .int .i64 v.n, .string v.s] 42)) ((w.alloc (.cells #[.int .i64 v.k, .int .i64 v.n, .string v.s] 42)).alloc (.cells #[] 42)) :=
    (Below.refl _ _).alloc (by rw [size_al]; exact Nat.le_refl _) _
  exact h.below ((below_drewN e 1).trans b)
theorem own_then {w w' : World} {base size n : Nat} {e : TypeId} {v : Value} {xs : List Value} (h : w.ownsRow base e size v n xs) (hb : Below w.heap.size w w') : w'.ownsRow base e size v n xs :=
  h.kept (row := none) ⟨hb.os, hb.tape, hb.output, hb.size, fun k hk _ => hb.block k hk⟩ (by by_cases hv : v.ownBlock = none; exact .inl hv; exact .inr hv)
theorem size_e3 (w : World) (x y : Obj) : w.heap.size + 1 ≤ (((w.alloc x).alloc y).drew).heap.size := by
  show _ ≤ ((w.alloc x).alloc y).heap.size
  rw [size_al, size_al]
  omega
end Go.Proofs.Ytmpldpfgnakbkaa
/- Requests in memory: rows of attributes, each with its bag. -/
namespace Go.Proofs.Ytmpldpfgnakbkaa
set_option linter.unusedVariables false
open Go.RowKit

/-- A row of values, in blocks that R lets in. -/
def Vls (w : World) (R : Nat → Prop) := Rw 3 (fun vs (v : Vl) => vs = v.cells ∧ v.ok) w R
/-- The cells of what is given. -/
def GivAt (w : World) (R : Nat → Prop) (vs : List Value) (g : Giv) : Prop := ∃ A n c, vs = [.int .i64 g.cat, .string g.name, .slice A n c] ∧ g.ok ∧ Vls w R A n c g.bag
def Gvs (w : World) (R : Nat → Prop) := Rw 3 (GivAt w R) w R
section
variable {w w' : World} {R R' : Nat → Prop} {A : Option Addr} {n c : Nat}
theorem Vls.keep {l : List Vl} (h : Vls w R A n c l) (hk : Kept R w w') (hR : ∀ b, R b → b < w.heap.size → R' b) : Vls w' R' A n c l := Rw.keep h hk hR fun _ _ _ h => h
theorem GivAt.keep {vs : List Value} {g : Giv} (h : GivAt w R vs g) (hk : Kept R w w') (hR : ∀ b, R b → b < w.heap.size → R' b) : GivAt w' R' vs g := by
  obtain ⟨A, n, c, e, h0, h1⟩ := h
  exact ⟨A, n, c, e, h0, h1.keep hk hR⟩
theorem Gvs.keep {l : List Giv} (h : Gvs w R A n c l) (hk : Kept R w w') (hR : ∀ b, R b → b < w.heap.size → R' b) : Gvs w' R' A n c l := Rw.keep h hk hR fun _ _ _ h => h.keep hk hR
theorem keeps_giv : Keeps GivAt := fun _ _ _ _ _ _ h hk hR => h.keep hk hR
theorem GivAt.one {w : World} {R : Nat → Prop} (vs : List Value) (g : Giv) (h : GivAt w R vs g) : ∀ v ∈ vs, v.oneCell' = true := by
  obtain ⟨A, n, c, rfl, _⟩ := h
  intro v hv
  simp at hv
  rcases hv with rfl | rfl | rfl <;> rfl
theorem Vl.one (v : Vl) : ∀ x ∈ v.cells, x.oneCell' = true := by
  intro x hx
  simp [Vl.cells] at hx
  rcases hx with rfl | rfl | rfl <;> rfl
theorem Vls.oks {l : List Vl} (h : Vls w R A n c l) : ∀ v ∈ l, v.ok := Rw.all h
theorem Vls.at_ {l : List Vl} (h : Vls w R A n c l) {j : Nat} (hj : j < n) : ∃ b o v, A = some ⟨b, o, none⟩ ∧ R b ∧ b < w.heap.size ∧ l[j]? = some v ∧ v.ok ∧
    (w.cell? ⟨b, o + j * 3, none⟩ = some (.int .i64 v.k) ∧ w.cell? ⟨b, o + j * 3 + 1, none⟩ = some (.int .i64 v.n) ∧ w.cell? ⟨b, o + j * 3 + 2, none⟩ = some (.string v.s)) := by
  obtain ⟨b, o, m, vs, e, hb, hlt, hm, hl, hv, rfl, hok⟩ := Rw.at_ h hj
  exact ⟨b, o, m, e, hb, hlt, hm, hok, hv 0 _ rfl, hv 1 _ rfl, hv 2 _ rfl⟩
theorem Gvs.at_ {l : List Giv} (h : Gvs w R A n c l) {j : Nat} (hj : j < n) : ∃ b o g A' n' c', A = some ⟨b, o, none⟩ ∧ R b ∧ b < w.heap.size ∧ l[j]? = some g ∧ g.ok ∧
    (w.cell? ⟨b, o + j * 3, none⟩ = some (.int .i64 g.cat) ∧ w.cell? ⟨b, o + j * 3 + 1, none⟩ = some (.string g.name) ∧ w.cell? ⟨b, o + j * 3 + 2, none⟩ = some (.slice A' n' c')) ∧ Vls w R A' n' c' g.bag := by
  obtain ⟨b, o, g, vs, e, hb, hlt, hm, hl, hv, A', n', c', rfl, hok, hin⟩ := Rw.at_ h hj
  exact ⟨b, o, g, A', n', c', e, hb, hlt, hm, hok, ⟨hv 0 _ rfl, hv 1 _ rfl, hv 2 _ rfl⟩, hin⟩
/-- As the texts of package value have it. -/
theorem Vls.vs {l : List Vl} (h : Vls w R A n c l) : Vs w w.heap.size A n c l := by
  refine ⟨Rw.len h, Rw.le h, Rw.cap h, ?_, h.oks⟩
  by_cases h0 : n = 0
  · exact .inl h0
  · right
    obtain ⟨b, o, v, e, hb, hlt, hv, _, _⟩ := h.at_ (j := 0) (by omega)
    refine ⟨b, o, e, hlt, fun j x hx => ?_⟩
    have hj : j < n := by have := (List.getElem?_eq_some_iff.1 hx).1; have := Rw.len h; omega
    obtain ⟨b', o', v', e', _, _, hv', _, c0, c1, c2⟩ := h.at_ hj
    rw [e] at e'
    injection e' with e'
    injection e' with e1 e2
    subst e1 e2
    rw [hx] at hv'
    injection hv' with hv'
    subst hv'
    exact ⟨c0, c1, c2⟩
theorem Vs.vls {B : Nat} {l : List Vl} (h : Vs w B A n c l) (hB : B ≤ w.heap.size) (hn : n ≤ 140737488351232) (hR : ∀ b o, A = some ⟨b, o, none⟩ → b < B → R b) : Vls w R A n c l := by
  obtain ⟨h1, h2, h3, h4, h5⟩ := h
  refine ⟨h1, h2, ⟨h3, hn⟩, ?_⟩
  rcases h4 with h4 | ⟨b, o, e, hb, hc⟩
  · exact .inl h4
  · refine .inr ⟨b, o, e, hR b o e hb, by omega, fun j x hx => ⟨x.cells, rfl, fun i v hi => ?_, rfl, h5 x (List.mem_of_getElem? hx)⟩⟩
    obtain ⟨c0, c1, c2⟩ := hc j x hx
    match i, hi with
    | 0, hi => injection hi with hi; subst hi; exact c0
    | 1, hi => injection hi with hi; subst hi; exact c1
    | 2, hi => injection hi with hi; subst hi; exact c2
    | i + 3, hi => simp [Vl.cells] at hi
theorem Gvs.oks {l : List Giv} (h : Gvs w R A n c l) : ∀ g ∈ l, g.ok ∧ ∀ v ∈ g.bag, v.ok := by
  intro g hg
  obtain ⟨j, hj, rfl⟩ := List.getElem_of_mem hg
  obtain ⟨b, o, x, A', n', c', e, _, _, hx, hok, _, hin⟩ := h.at_ (j := j) (by have := Rw.len h; omega)
  rw [List.getElem?_eq_getElem hj] at hx
  injection hx with hx
  rw [hx]
  exact ⟨hok, hin.oks⟩
end
theorem givinfo : (Try.prog.info? 27).map (fun i => (i.zero, i.size, i.bytes)) = some (some (.agg #[.int .i64 0, .string ⟨#[]⟩, .slice none 0 0]), 3, 48) := by kernel_rfl
/-- One more attribute behind a row of the call's own. -/
theorem push_giv {w : World} {base n c : Nat} {A : Option Addr} {l : List Giv} {A1 : Option Addr} {n1 c1 : Nat} {g : Giv} (h : Gr 3 GivAt w base 27 A n c l) (hok : g.ok) (hx : Vls w (Nb base (.slice A n c)) A1 n1 c1 g.bag) (hn : n < 1000000) :
    ∃ A' c' w', (Builtin.append_ #[22, 22] 22 #[.slice A n c, .slice (some ⟨w.heap.size, 0, none⟩) 1 1]).run Try.prog (w.alloc (.cells #[.int .i64 g.cat, .string g.name, .slice A1 n1 c1] 27)) = .ok (.slice A' (n + 1) c') w' ∧ Gr 3 GivAt w' base 27 A' (n + 1) c' (l ++ [g]) ∧ Below base w w' := by
  obtain ⟨i, hi, hz, hs, hb⟩ := info_of givinfo
  exact Gr.push (vs := [.int .i64 g.cat, .string g.name, .slice A1 n1 c1]) (x := g) Try.underlying22 hi hz hs hb rfl (by omega) (by omega) keeps_giv h ⟨A1, n1, c1, rfl, hok, hx⟩ rfl (fun _ _ _ _ => GivAt.one _ _) hn
/-- append([]Value{}, bag...). -/
theorem copy_bag {w : World} {R : Nat → Prop} {A0 : Option Addr} {p0 c0 : Nat} {L0 : List Vl} (h0 : Vls w R A0 p0 c0 L0) (h : p0 ≤ 1000000) :
    ∃ A5 c5 w5, (Builtin.append_ #[25, 25] 25 #[.slice (some ⟨w.heap.size, 0, none⟩) 0 0, .slice A0 p0 c0]).run Try.prog (w.alloc (.cells #[] 42)) = .ok (.slice A5 p0 c5) w5 ∧ Below w.heap.size w w5 ∧ Vls w5 (fun b => w.heap.size ≤ b) A5 p0 c5 L0 := by
  have e1 : Below w.heap.size w (w.alloc (.cells #[] 42)) := (Below.refl _ _).alloc (Nat.le_refl _) _
  obtain ⟨i, hi, hz, hs, hb⟩ := val_parts
  obtain ⟨A5, c5, w5, r5, o5, b5, _, _⟩ := append_rows (ty := 25) (c2 := c0) (m := p0) Try.underlying25 hi hz hs hb rfl (by omega) (by omega) (own_none w 42 3) (Rw.flat_fl (h0.keep (Kept.all e1 R) (fun _ h _ => h)) (by omega) Vl.one) (by omega) e1.size
  rw [Nat.zero_add] at r5 o5
  refine ⟨A5, c5, w5, r5, e1.trans b5, ?_⟩
  exact Rw.flat_own o5 (by omega) (Rw.len h0) (fun _ => rfl) (Rw.all h0) (fun _ _ h => h)
end Go.Proofs.Ytmpldpfgnakbkaa
/- What a node made, in memory; the stack, which is the call's own and is cut and grows. -/
namespace Go.Proofs.Ytmpldpfgnakbkaa
set_option linter.unusedVariables false
open Go.RowKit

/-- The cells of what a node made. -/
def PartAt (w : World) (R : Nat → Prop) (vs : List Value) (p : Prt) : Prop := ∃ A n c, vs = [.slice A n c, .int .i64 p.v.k, .int .i64 p.v.n, .string p.v.s, .int .i64 p.e] ∧ (p.v.ok ∧ InI p.e) ∧ Vls w R A n c p.bag
def Prts (w : World) (R : Nat → Prop) := Rw 5 (PartAt w R) w R
section
variable {w w' : World} {R R' : Nat → Prop} {A : Option Addr} {n c : Nat}
theorem PartAt.keep {vs : List Value} {p : Prt} (h : PartAt w R vs p) (hk : Kept R w w') (hR : ∀ b, R b → b < w.heap.size → R' b) : PartAt w' R' vs p := by
  obtain ⟨A, n, c, e, h0, h1⟩ := h
  exact ⟨A, n, c, e, h0, h1.keep hk hR⟩
theorem keeps_part : Keeps PartAt := fun _ _ _ _ _ _ h hk hR => h.keep hk hR
theorem Prts.keep {l : List Prt} (h : Prts w R A n c l) (hk : Kept R w w') (hR : ∀ b, R b → b < w.heap.size → R' b) : Prts w' R' A n c l := Rw.keep h hk hR fun _ _ _ h => h.keep hk hR
theorem PartAt.one {w : World} {R : Nat → Prop} (vs : List Value) (p : Prt) (h : PartAt w R vs p) : ∀ v ∈ vs, v.oneCell' = true := by
  obtain ⟨A, n, c, rfl, _⟩ := h
  intro v hv
  simp at hv
  rcases hv with rfl | rfl | rfl | rfl | rfl <;> rfl
theorem Prts.at_ {l : List Prt} (h : Prts w R A n c l) {j : Nat} (hj : j < n) : ∃ b o p A' n' c', A = some ⟨b, o, none⟩ ∧ R b ∧ b < w.heap.size ∧ l[j]? = some p ∧ (p.v.ok ∧ InI p.e) ∧
    (w.cell? ⟨b, o + j * 5, none⟩ = some (.slice A' n' c') ∧ w.cell? ⟨b, o + j * 5 + 1, none⟩ = some (.int .i64 p.v.k) ∧ w.cell? ⟨b, o + j * 5 + 2, none⟩ = some (.int .i64 p.v.n) ∧ w.cell? ⟨b, o + j * 5 + 3, none⟩ = some (.string p.v.s) ∧ w.cell? ⟨b, o + j * 5 + 4, none⟩ = some (.int .i64 p.e)) ∧ Vls w R A' n' c' p.bag := by
  obtain ⟨b, o, g, vs, e, hb, hlt, hm, hl, hv, A', n', c', rfl, hok, hin⟩ := Rw.at_ h hj
  exact ⟨b, o, g, A', n', c', e, hb, hlt, hm, hok, ⟨hv 0 _ rfl, hv 1 _ rfl, hv 2 _ rfl, hv 3 _ rfl, hv 4 _ rfl⟩, hin⟩
end
/-- A row from one of its places on. -/
theorem Rw.drop {α : Type} {k : Nat} {P : List Value → α → Prop} {w : World} {R : Nat → Prop} {A : Option Addr} {n c : Nat} {l : List α} (h : Rw k P w R A n c l) {m : Nat} (hm : m ≤ n) : Rw k P w R (if c = m then A else A.map (·.add (m * k))) (n - m) (c - m) (l.drop m) := by
  obtain ⟨h1, h2, h3, h4⟩ := h
  refine ⟨by rw [List.length_drop]; omega, by omega, ⟨by have := h3.1; omega, by have := h3.2; omega⟩, ?_⟩
  rcases h4 with h4 | ⟨b, o, e, hb, hlt, hc⟩
  · left; omega
  · by_cases hn : n = m
    · left; omega
    · right
      subst e
      rw [if_neg (by omega)]
      refine ⟨b, o + m * k, ?_, hb, hlt, fun j x hx => ?_⟩
      · by_cases hk0 : m * k = 0 <;> simp [Addr.add, hk0]
      · rw [List.getElem?_drop] at hx
        obtain ⟨vs, a1, a2, a3⟩ := hc (m + j) x hx
        refine ⟨vs, a1, fun i v hi => ?_, a3⟩
        rw [Nat.add_assoc o, ← Nat.add_mul]
        exact a2 i v hi
theorem flatten_take {k : Nat} : ∀ {raw : List (List Value)} {j : Nat}, (∀ y ∈ raw, y.length = k) → (raw.take j).flatten = raw.flatten.take (j * k)
  | [], j, _ => by simp
  | y :: raw, 0, _ => by simp
  | y :: raw, j + 1, h => by
    have hy := h y (by simp)
    rw [List.take_succ_cons, List.flatten_cons, List.flatten_cons, flatten_take fun z hz => h z (by simp [hz]), show (j + 1) * k = y.length + j * k by rw [hy, Nat.add_mul]; omega, List.take_length_add_append]
theorem own_block (A : Option Addr) (n n' c c' : Nat) : (Value.slice A n c).ownBlock = (Value.slice A n' c').ownBlock := by cases A <;> rfl
/-- A row of the call's own, cut. -/
theorem Gr.take {α : Type} {k : Nat} {P : World → (Nat → Prop) → List Value → α → Prop} {w : World} {base : Nat} {E : TypeId} {A : Option Addr} {n c : Nat} {l : List α} (hP : Keeps P) (h : Gr k P w base E A n c l) {j : Nat} (hj : j ≤ n) : Gr k P w base E A j c (l.take j) := by
  obtain ⟨⟨raw, ⟨h0, h1⟩, h2, h3, h4, h5⟩, hb⟩ := h
  have hl : ∀ y ∈ raw.take j, y.length = k := fun y hy => h4 y (List.mem_of_mem_take hy)
  have hr : (raw.take j).length = j := by rw [List.length_take]; omega
  refine ⟨⟨raw.take j, ⟨by rw [flatten_len hl, hr], ?_⟩, hr, by rw [List.length_take]; omega, hl, fun i vs x a b => ?_⟩, hb⟩
  · rcases h1 with ⟨hv, hn⟩ | ⟨g, cap, cur, a, b, r1, r2, r3, r4, r5⟩
    · obtain rfl : j = 0 := by omega
      injection hv with e1 e2 e3
      subst e1 e3
      exact .inl ⟨rfl, rfl⟩
    · injection a with e1 e2 e3
      subst e1 e3
      refine .inr ⟨g, c, cur, rfl, b, r1, by omega, r3, r4, ?_⟩
      rw [flatten_take h4, ← r5, List.take_take]
      congr 1
      exact (Nat.min_eq_left (Nat.mul_le_mul_right k hj)).symm
  · have hij : i < j := by have := (List.getElem?_eq_some_iff.1 a).1; omega
    rw [List.getElem?_take, if_pos hij] at a b
    exact hP _ _ _ _ vs x (h5 i vs x a b) (Kept.refl _ _) (fun b hb _ => ⟨hb.1, by rw [own_block A j n c c]; exact hb.2⟩)
theorem partinfo : (Try.prog.info? 87).map (fun i => (i.zero, i.size, i.bytes)) = some (some (.agg #[.slice none 0 0, .int .i64 0, .int .i64 0, .string ⟨#[]⟩, .int .i64 0]), 5, 64) := by kernel_rfl
/-- One more behind the stack. -/
theorem push_part {w : World} {base n c : Nat} {A : Option Addr} {l : List Prt} {A1 : Option Addr} {n1 c1 : Nat} {p : Prt} (h : Gr 5 PartAt w base 87 A n c l) (hok : p.v.ok ∧ InI p.e) (hx : Vls w (Nb base (.slice A n c)) A1 n1 c1 p.bag) (hn : n < 1000000) :
    ∃ A' c' w', (Builtin.append_ #[84, 84] 84 #[.slice A n c, .slice (some ⟨w.heap.size, 0, none⟩) 1 1]).run Try.prog (w.alloc (.cells #[.slice A1 n1 c1, .int .i64 p.v.k, .int .i64 p.v.n, .string p.v.s, .int .i64 p.e] 87)) = .ok (.slice A' (n + 1) c') w' ∧ Gr 5 PartAt w' base 87 A' (n + 1) c' (l ++ [p]) ∧ Below base w w' := by
  obtain ⟨i, hi, hz, hs, hb⟩ := info_of partinfo
  exact Gr.push (vs := [.slice A1 n1 c1, .int .i64 p.v.k, .int .i64 p.v.n, .string p.v.s, .int .i64 p.e]) (x := p) Try.underlying84 hi hz hs hb rfl (by omega) (by omega) keeps_part h ⟨A1, n1, c1, rfl, hok, hx⟩ rfl (fun _ _ _ _ => PartAt.one _ _) hn
end Go.Proofs.Ytmpldpfgnakbkaa
/- Add, Sub, Mul: the project's and the reference's. -/
namespace Go.Proofs.Ytmpldpfgnakbkaa
set_option linter.unusedVariables false
open Go.RowKit

theorem ret_fits {a x : Int} {p : Int × Int} (h : p = (a, x)) : Ending.returned (.tuple #[.int .i64 a, .int .i64 x]) = .returned (.tuple #[.int .i64 p.1, .int .i64 p.2]) := by rw [h]

theorem add_any (a b : Int) (ha : In64 a) (hb : In64 b) (w : World) :
    Calls Try.prog 96 #[.int .i64 a, .int .i64 b] w fun e w' => e = .returned (.tuple #[.int .i64 (fits (a + b)).1, .int .i64 (fits (a + b)).2]) ∧ w = w' := by
  obtain ⟨c, hc⟩ : ∃ c, IntKind.i64.wrap (a + b) = c := ⟨_, rfl⟩
  have HC := Lib.hid hc
  go_enter Try.func96, Try.ntmps96
  go_wp2_with fail
  all_goals
    rename_i h
    have H := Lib.hid h
    clear h
    go_ret2
  · exact ⟨ret_fits (sum_no ha hb HC.out (bne_iff_yes H.out)), rfl⟩
  · exact ⟨ret_fits (sum_yes ha hb HC.out (bne_iff_no H.out)), rfl⟩
theorem sub_any (a b : Int) (ha : In64 a) (hb : In64 b) (w : World) :
    Calls Try.prog 97 #[.int .i64 a, .int .i64 b] w fun e w' => e = .returned (.tuple #[.int .i64 (fits (a - b)).1, .int .i64 (fits (a - b)).2]) ∧ w = w' := by
  obtain ⟨c, hc⟩ : ∃ c, IntKind.i64.wrap (a - b) = c := ⟨_, rfl⟩
  have HC := Lib.hid hc
  go_enter Try.func97, Try.ntmps97
  go_wp2_with fail
  all_goals
    rename_i h
    have H := Lib.hid h
    clear h
    go_ret2
  · exact ⟨ret_fits (rest_no ha hb HC.out (bne_iff_yes H.out)), rfl⟩
  · exact ⟨ret_fits (rest_yes ha hb HC.out (bne_iff_no H.out)), rfl⟩
theorem mul_any (a b : Int) (ha : In64 a) (hb : In64 b) (w : World) :
    Calls Try.prog 98 #[.int .i64 a, .int .i64 b] w fun e w' => e = .returned (.tuple #[.int .i64 (fits (a * b)).1, .int .i64 (fits (a * b)).2]) ∧ w = w' := by
  by_cases h0 : a = 0
  · subst h0
    go_enter Try.func98, Try.ntmps98
    go_wp2_with fail
    go_ret2
    exact ⟨ret_fits (by rw [Int.zero_mul]; rfl), rfl⟩
  · by_cases h1 : a = -1
    · subst h1
      have C := Lib.hid (sub_any 0 b (by decide) hb)
      go_enter Try.func98, Try.ntmps98
      go_wp2_with fail
      refine (C.out _).mono ?_
      rintro e w' ⟨rfl, rfl⟩
      go_wp2_with fail
      go_ret2
      exact ⟨ret_fits (a := (fits (-b)).1) (x := (fits (-b)).2) (by rw [← neg_one, Int.zero_sub]), rfl⟩
    · have H0 := Lib.hid h0
      have H1 := Lib.hid h1
      have b0 : (a == 0) = false := by rw [beq_eq_false_iff_ne]; exact h0
      have b1 : (a == -1) = false := by rw [beq_eq_false_iff_ne]; exact h1
      obtain ⟨c, hc⟩ : ∃ c, IntKind.i64.wrap (a * b) = c := ⟨_, rfl⟩
      have HC := Lib.hid hc
      go_enter Try.func98, Try.ntmps98
      go_wp2_with fail
      all_goals
        rename_i h
        have H := Lib.hid h
        clear h
        go_ret2
      · exact ⟨ret_fits (prod_no ha hb H0.out H1.out HC.out (ne_yes H.out)), rfl⟩
      · exact ⟨ret_fits (prod_yes ha H0.out H1.out HC.out (ne_no H.out)), rfl⟩

end Go.Proofs.Ytmpldpfgnakbkaa
/- A value stored over another one in its block. -/
namespace Go.Proofs.Ytmpldpfgnakbkaa
open Go.RowKit

/-- A value stored over another one, cell by cell. -/
theorem Bx.put {w : World} {g : Nat} {k n : Int} {s : ByteArray} (h : Bx w g k n s) (k' n' : Int) (s' : ByteArray) : Bx (((w.setCell ⟨g, 0, none⟩ (.int .i64 k')).setCell ⟨g, 1, none⟩ (.int .i64 n')).setCell ⟨g, 2, none⟩ (.string s')) g k' n' s' := by
  unfold Bx
  simpa using ((Ob.put h 0 (.int .i64 k')).put 1 (.int .i64 n')).put 2 (.string s')
theorem Bx.past {w : World} {g g' : Nat} {k n : Int} {s : ByteArray} (h : Bx w g k n s) (hne : g ≠ g') (a b c : Value) : Bx (((w.setCell ⟨g', 0, none⟩ a).setCell ⟨g', 1, none⟩ b).setCell ⟨g', 2, none⟩ c) g k n s :=
  h.only (((Only.refl.setCell (p := ⟨g', 0, none⟩) rfl a).setCell (p := ⟨g', 1, none⟩) rfl b).setCell (p := ⟨g', 2, none⟩) rfl c) hne
theorem below_put {w0 w : World} {g B : Nat} (h : Below B w0 w) (hg : B ≤ g) (a b c : Value) : Below B w0 (((w.setCell ⟨g, 0, none⟩ a).setCell ⟨g, 1, none⟩ b).setCell ⟨g, 2, none⟩ c) :=
  ((h.setCell (p := ⟨g, 0, none⟩) hg a).setCell (p := ⟨g, 1, none⟩) hg b).setCell (p := ⟨g, 2, none⟩) hg c
end Go.Proofs.Ytmpldpfgnakbkaa
/- Package fun's and the reference's functions of values. -/
namespace Go.Proofs.Ytmpldpfgnakbkaa
set_option linter.unusedVariables false
open Go.RowKit

theorem box_ret {fn : Func} {p : Tmp} {tmps : Array Value} {w : World} {g : Nat} {k n : Int} {s : ByteArray} (h : fn.results = #[.cell p 42]) (hp : tmps.getD p undef = .pointer (some ⟨g, 0, none⟩)) (hg : Bx w g k n s) :
    (results fn tmps).run Try.prog w = .ok (.agg #[.int .i64 k, .int .i64 n, .string s]) w :=
  results_cell_row h tmps w g _ _ (0, 0) _ hp hg Try.underlying42 rfl (by kernel_rfl)
theorem box_ret2 {fn : Func} {p u : Tmp} {tmps : Array Value} {w : World} {g : Nat} {k n : Int} {s : ByteArray} {v : Value} (h : fn.results = #[.cell p 42, .tmp u]) (hp : tmps.getD p undef = .pointer (some ⟨g, 0, none⟩)) (hu : tmps.getD u undef = v) (hg : Bx w g k n s) :
    (results fn tmps).run Try.prog w = .ok (.tuple #[.agg #[.int .i64 k, .int .i64 n, .string s], v]) w := by
  rw [results_cell_tmp h, hp, hu]
  have hl := run_loadVar_row (P := Try.prog) w g 42 _ _ (0, 0) _ hg Try.underlying42 rfl (by kernel_rfl)
  simp [asAddr, hl, Result.andThen]

theorem below1 (w : World) (x : Obj) : Below w.heap.size w (w.alloc x) := (Below.refl _ _).alloc (Nat.le_refl _) _
theorem below2 (w : World) (x y : Obj) : Below w.heap.size w ((w.alloc x).alloc y) := (below1 w x).alloc (by rw [size_al]; omega) _
theorem ftruth_any (b : Bool) (w : World) : Calls Try.prog 93 #[.bool b] w fun e w' => e = .returned (.agg #[.int .i64 1, .int .i64 (truthN b), .string ⟨#[]⟩]) ∧ Below w.heap.size w w' := by
  cases b
  all_goals
    go_enter Try.func93, Try.ntmps93
    go_wp2_with fail
    try simp only [Exit.inBlock, Exit.then]
    refine bodyPost_ret (box_ret rfl rfl ((Bx.made _ _ _ _).alloc _)) rfl ?_
    exact ⟨rfl, below2 _ _ _⟩
theorem known_any (op : Int) (w : World) : Calls Try.prog 86 #[.int .i64 op] w fun e w' => e = .returned (.bool (decide (6 ≤ op ∧ op ≤ 13))) ∧ w = w' := by
  by_cases h1 : 6 ≤ op <;> by_cases h2 : op ≤ 13
  all_goals
    go_enter Try.func86, Try.ntmps86
    go_wp2
    go_ret
    exact ⟨ret_bool (by simp [h1, h2]), rfl⟩
theorem ftakes_any (op : Int) (w : World) : Calls Try.prog 87 #[.int .i64 op] w fun e w' => e = .returned (.int .i64 (needs op : Int)) ∧ w = w' := by
  by_cases h : op = 11
  · subst h
    go_enter Try.func87, Try.ntmps87
    go_wp2
    go_ret
    exact ⟨rfl, rfl⟩
  · have hb : (op == 11) = false := by rw [beq_eq_false_iff_ne]; exact h
    have H : Hid (needs op = 2) := if_neg h
    go_enter Try.func87, Try.ntmps87
    go_wp2
    go_ret
    exact ⟨ret_int (by rw [H.out]; rfl), rfl⟩
theorem below3 {w w' : World} {x y z : Obj} (h : Below (((w.alloc x).alloc y).alloc z).heap.size (((w.alloc x).alloc y).alloc z) w') : Below w.heap.size w w' := Below.lit (Below.lit (Below.lit h))
theorem box3 (w : World) (x y : Obj) (k n : Int) (s : ByteArray) : Bx (((w.alloc x).alloc y).alloc (.cells #[.int .i64 k, .int .i64 n, .string s] 42)) (w.heap.size + 1 + 1) k n s := by
  have := Bx.made ((w.alloc x).alloc y) k n s
  rwa [size_al, size_al] at this
theorem ret_v {k n e : Int} {s : ByteArray} {p : Vl × Int} (h : p = (⟨k, n, s⟩, e)) : Ending.returned (.tuple #[.agg #[.int .i64 k, .int .i64 n, .string s], .int .i64 e]) = .returned (.tuple #[p.1.val, .int .i64 p.2]) := by rw [h]; rfl
theorem lt2 {n : Nat} : n ≤ n + 1 + 1 := by omega

set_option maxHeartbeats 1600000 in
theorem same_any (a b : Vl) (w : World) : Calls Try.prog 88 #[a.val, b.val] w fun e w' => e = .returned (.tuple #[(sameV a b).1.val, .int .i64 (sameV a b).2]) ∧ Below w.heap.size w w' := by
  obtain ⟨k, n, s⟩ := a
  obtain ⟨k', n', s'⟩ := b
  show Calls _ _ #[.agg #[.int .i64 k, .int .i64 n, .string s], .agg #[.int .i64 k', .int .i64 n', .string s']] w _
  by_cases h : k = k'
  · subst h
    have hve := val_eq k n k n' s s'
    have hb := ftruth_any (veq ⟨k, n, s⟩ ⟨k, n', s'⟩)
    have hs : sameV ⟨k, n, s⟩ ⟨k, n', s'⟩ = (truthV (veq ⟨k, n, s⟩ ⟨k, n', s'⟩), 0) := if_pos rfl
    generalize veq ⟨k, n, s⟩ ⟨k, n', s'⟩ = bb at *
    have HB := Lib.hid hb
    have HS := Lib.hid hs
    clear hb hs
    go_enter Try.func88, Try.ntmps88
    go_wp2_with fail
    refine (HB.out _).mono ?_
    rintro e w1 ⟨rfl, hb1⟩
    have R1 := Lib.hid ((box3 w _ _ 0 0 ⟨#[]⟩).then_ hb1)
    have D1 := Lib.hid (below3 hb1)
    have c := R1.out.c3
    have f := R1.out.fz
    clear hb1
    go_wp2_with fail
    try simp only [Exit.inBlock, Exit.then]
    refine bodyPost_ret (box_ret2 rfl rfl rfl (R1.out.put _ _ _)) rfl ?_
    exact ⟨ret_v HS.out, below_put D1.out lt2 _ _ _⟩
  · have hk : (k != k') = true := by rw [bne_iff_ne]; exact h
    have HK := Lib.hid h
    clear h
    go_enter Try.func88, Try.ntmps88
    go_wp2_with fail
    try simp only [Exit.inBlock, Exit.then]
    refine bodyPost_ret (box_ret2 rfl rfl rfl (box3 _ _ _ _ _ _)) rfl ?_
    exact ⟨ret_v (if_neg HK.out), below3 (Below.refl _ _)⟩

theorem fless_is (a b : Vl) (ha : a.s.size ≤ maxLen) (hb : b.s.size ≤ maxLen) (x : Bool) (e : Int) (h : lessOf a b = (x, e)) (w : World) :
    Calls Try.prog 38 #[.agg #[.int .i64 a.k, .int .i64 a.n, .string a.s], .agg #[.int .i64 b.k, .int .i64 b.n, .string b.s]] w fun z w' => z = .returned (.tuple #[.bool x, .int .i64 e]) ∧ Below w.heap.size w w' := by
  have := less_any a b ha hb w
  rwa [h] at this

set_option maxHeartbeats 1600000 in
theorem fless_any (a b : Vl) (ha : a.s.size ≤ maxLen) (hb : b.s.size ≤ maxLen) (w : World) : Calls Try.prog 89 #[a.val, b.val] w fun e w' => e = .returned (.tuple #[(lessV a b).1.val, .int .i64 (lessV a b).2]) ∧ Below w.heap.size w w' := by
  obtain ⟨x, e, hx⟩ : ∃ x e, lessOf a b = (x, e) := ⟨_, _, rfl⟩
  have hc := fless_is a b ha hb x e hx
  have hl : lessV a b = if e = 0 then (truthV x, 0) else (noneV, e) := by unfold lessV; rw [hx]
  generalize lessV a b = R at *
  obtain ⟨k, n, s⟩ := a
  obtain ⟨k', n', s'⟩ := b
  show Calls _ _ #[.agg #[.int .i64 k, .int .i64 n, .string s], .agg #[.int .i64 k', .int .i64 n', .string s']] w _
  have HC := Lib.hid hc
  clear hc hx
  by_cases h : e = 0
  · subst h
    rw [if_pos rfl] at hl
    have HL := Lib.hid hl
    have HB := Lib.hid (ftruth_any x)
    clear hl
    go_enter Try.func89, Try.ntmps89
    go_wp2_with fail
    refine (HC.out _).mono ?_
    rintro e w1 ⟨rfl, hb1⟩
    have R1 := Lib.hid ((box3 w _ _ 0 0 ⟨#[]⟩).then_ hb1)
    have D1 := Lib.hid (below3 hb1)
    clear hb1
    go_wp2_with fail
    refine (HB.out _).mono ?_
    rintro e w2 ⟨rfl, hb2⟩
    have R2 := Lib.hid (R1.out.then_ hb2)
    have D2 := Lib.hid (below_step D1.out hb2)
    have c := R2.out.c3
    have f := R2.out.fz
    clear hb2 R1 D1
    go_wp2_with fail
    try simp only [Exit.inBlock, Exit.then]
    refine bodyPost_ret (box_ret2 rfl rfl rfl (R2.out.put _ _ _)) rfl ?_
    exact ⟨ret_v HL.out, below_put D2.out lt2 _ _ _⟩
  · rw [if_neg h] at hl
    have HL := Lib.hid hl
    have he : (e != 0) = true := by rw [bne_iff_ne]; exact h
    clear hl h
    go_enter Try.func89, Try.ntmps89
    go_wp2_with fail
    refine (HC.out _).mono ?_
    rintro e' w1 ⟨rfl, hb1⟩
    have R1 := Lib.hid ((box3 w _ _ 0 0 ⟨#[]⟩).then_ hb1)
    have D1 := Lib.hid (below3 hb1)
    have c := R1.out.c3
    have f := R1.out.fz
    clear hb1
    go_wp2_with fail
    try simp only [Exit.inBlock, Exit.then]
    refine bodyPost_ret (box_ret2 rfl rfl rfl (R1.out.put _ _ _)) rfl ?_
    exact ⟨ret_v HL.out, below_put D1.out lt2 _ _ _⟩

set_option maxHeartbeats 1600000 in
theorem allright_any {w : World} {B n c : Nat} {A : Option Addr} {l : List Vl} (h : Vs w B A n c l) (hB : B ≤ w.heap.size) :
    Calls Try.prog 85 #[.slice A n c] w fun e w' => e = .returned (.bool (allR l)) ∧ Below w.heap.size w w' := by
  have hlen := h.1
  have hcap := h.2.2.1
  have hle := h.2.1
  unfold maxLen at hcap
  have HV := Lib.hid h
  have HL := Lib.hid hlen
  clear h hlen
  go_enter Try.func85, Try.ntmps85
  go_wp2_with fail
  go_loopw [7] (fun i wr => ∃ k : Nat, k ≤ n ∧ i = .int .i64 k ∧ RightTo l k ∧ Below w.heap.size w wr) (fun i _ => n - (intOf i).toNat)
  case atStart => exact ⟨0, Nat.zero_le _, rfl, fun j x _ hj => by omega, Below.refl _ _⟩
  case round =>
    obtain ⟨k, hk, rfl, ht, hb⟩ := hrel
    have HT := Lib.hid ht
    have HB := Lib.hid hb
    by_cases hlt : k < n
    · obtain ⟨b, o, x, rfl, hbB, hx, hok, x0, x1, x2⟩ := (HV.out.below (hb.mono hB)).at_ hlt
      obtain ⟨kx, nx, sx⟩ := x
      have HX := Lib.hid hx
      have qr := right_any kx nx sx hok.2.2
      have D1 := Lib.hid (hb.alloc hb.size (.cells #[.int .i64 kx, .int .i64 nx, .string sx] 42))
      clear ht hb hx hok
      by_cases hr : RightV kx nx sx.data.toList
      · have HR : Hid (Vl.right ⟨kx, nx, sx⟩) := hr
        rw [decide_eq_true hr] at qr
        have QR := Lib.hid qr
        clear qr hr
        go_wp2_with fail
        refine (QR.out _).mono ?_
        rintro e w2 ⟨rfl, hb2⟩
        have D2 := Lib.hid (below_step D1.out hb2)
        clear hb2
        go_wp2_with fail
        go_roundw
        case rel => exact ⟨k + 1, by omega, by go_num, HT.out.step HX.out HR.out, D2.out⟩
        case measure => simp [intOf]; omega
      · have HR : Hid (¬ Vl.right ⟨kx, nx, sx⟩) := hr
        rw [decide_eq_false hr] at qr
        have QR := Lib.hid qr
        clear qr hr
        go_wp2_with fail
        refine (QR.out _).mono ?_
        rintro e w2 ⟨rfl, hb2⟩
        have D2 := Lib.hid (below_step D1.out hb2)
        clear hb2
        go_wp2_with fail
        go_ret
        exact ⟨ret_bool (allR_bad HX.out HR.out).symm, D2.out⟩
    · obtain rfl : k = n := by omega
      clear ht hb
      go_wp2_with fail
      go_ret
      exact ⟨ret_bool (HT.out.all HL.out).symm, HB.out⟩
end Go.Proofs.Ytmpldpfgnakbkaa
/- Rows of bytes in new memory: what a byte's type is, and make. -/
namespace Go.Proofs.Ytmpldpfgnakbkaa
open Go.RowKit

theorem u8info : (Try.prog.info? 5).map (fun i => (i.zero, i.size, i.bytes)) = some (some (.int .u8 0), 1, 1) := by kernel_rfl

theorem madeBytes (n : Nat) : madeCells (Value.int .u8 0).cells (n * 1) = (List.replicate n (Value.int .u8 0)).toArray := by
  apply Array.ext
  · simp [madeCells]
  · intro i h1 h2; simp [madeCells, Value.cells, Nat.mod_one]

theorem make_bytes (n c : Nat) (hnc : n ≤ c) (h : c ≤ 140737488355328) (W : World) :
    (Instr.makeSlice 38 (.int .i64 (n : Int)) (.int .i64 (c : Int))).run Try.prog W = .ok (.slice (some ⟨W.heap.size, 0, none⟩) n c) (W.alloc (.cells (List.replicate c (Value.int .u8 0)).toArray 5)) := by
  obtain ⟨i, hi, hz0, hz1, hz2⟩ := info_parts u8info
  have hr := run_make (P := Try.prog) W 38 5 i _ Try.underlying38 hi hz0 .i64 .i64 n c (by omega) (by omega) (by rw [hz2]; omega) (by omega)
  rw [hz1] at hr
  simp only [Int.toNat_natCast, madeBytes] at hr
  exact hr

end Go.Proofs.Ytmpldpfgnakbkaa
/- strings.Clone. -/
namespace Go.Proofs.Ytmpldpfgnakbkaa
set_option linter.unusedVariables false
open Go.RowKit

set_option maxRecDepth 10000 in
set_option maxHeartbeats 4000000 in
theorem slclone_any (s : ByteArray) (w : World) (hlim : s.size ≤ 1000000) :
    Calls Try.prog 76 #[.string s] w fun e w' => e = .returned (.string s) ∧ Below w.heap.size w w' := by
  by_cases h0 : s.size = 0
  · have hs : s = ⟨#[]⟩ := by
      apply ByteArray.ext
      exact Array.eq_empty_of_size_eq_zero h0
    subst hs
    clear h0 hlim
    go_enter Try.func76, Try.ntmps76
    go_wp2_with fail
    go_ret
    exact ⟨rfl, Below.refl _ _⟩
  · obtain ⟨i0, hi, hz0, hz1, hz2⟩ := info_parts u8info
    have hinfo : (Try.prog.info? 5).map (·.size) = some 1 := by rw [hi]; simp [hz1]
    have hco : Try.prog.cellsOf 5 = 1 := by simp [Program.cellsOf, hi, hz1]
    obtain ⟨M, hM⟩ : ∃ M, M = madeCells (Value.int .u8 0).cells (((s.size : Nat) : Int).toNat * i0.size) := ⟨_, rfl⟩
    have hMs : M.size = s.size := by rw [hM, size_madeCells, hz1]; simp
    have hmk : ∀ W : World, (Instr.makeSlice 38 (.int .i64 (s.size : Int)) (.int .i64 (s.size : Int))).run Try.prog W = .ok (.slice (some ⟨W.heap.size, 0, none⟩) s.size s.size) (W.alloc (.cells M 5)) := fun W => by
      have h := run_make (P := Try.prog) W 38 5 i0 (.int .u8 0) Try.underlying38 hi hz0 .i64 .i64 (s.size : Int) (s.size : Int) (by omega) (by omega) (by rw [hz2]; omega) (by omega)
      rw [← hM] at h
      simpa using h
    clear hM
    have hcp := Lib.run_copy_row_string (P := Try.prog) (w.alloc (.cells M 5)) 38 9 3 5 w.heap.size 0 s.size s.size s M 5 Try.underlying38 hinfo (heap_alloc_new w _) (Nat.le_refl _) (by omega)
    obtain ⟨Y, hY⟩ : ∃ Y, Y = (M.toList.take 0 ++ Lib.byteCells s.data.toList ++ M.toList.drop (0 + s.size)).toArray := ⟨_, rfl⟩
    rw [← hY] at hcp
    have hYl : Y.toList = Lib.byteCells s.data.toList := by
      rw [hY, List.toList_toArray, List.take_zero, List.nil_append, List.drop_of_length_le (by rw [Array.length_toList]; omega), List.append_nil]
    have hYs : Y.size = s.size := by rw [← Array.length_toList, hYl, Lib.byteCells_length, ← Lib.size_eq]
    have hgY : ((w.alloc (.cells M 5)).setRow w.heap.size Y).heap[w.heap.size]? = some (.cells Y 5 (0, 0)) := setRow_heap _ _ M _ 5 (0, 0) (heap_alloc_new w _)
    have hne : s.data.toList ≠ [] := fun e => h0 (by rw [Lib.size_eq, e]; rfl)
    have hUS := Lib.run_unsafeString_row (P := Try.prog) ((w.alloc (.cells M 5)).setRow w.heap.size Y) 113 3 9 5 Try.underlying113 hco w.heap.size Y.size (by unfold World.shape?; rw [hgY]) s.data.toList hne (by rw [← Lib.size_eq]; omega) (by rw [← Lib.size_eq]; omega)
      (fun j x hx => Lib.cells_of_row hgY Y.size j _ (by rw [List.take_of_length_le (by rw [Array.length_toList]; exact Nat.le_refl _), hYl]; simp [Lib.byteCells, hx]))
    rw [← Lib.size_eq] at hUS
    have H0 := Lib.hid hYl
    have H1 := Lib.hid hne
    have H2 := Lib.hid hgY
    clear hY hYl hne hgY hco hinfo hi hz0 hz1 hz2
    go_enter Try.func76, Try.ntmps76
    go_wp2_with fail
    go_ret
    have hb1 : Below w.heap.size w (w.alloc (.cells M 5)) := (Below.refl _ w).alloc (Nat.le_refl _) _
    have hb2 : Below w.heap.size (w.alloc (.cells M 5)) ((w.alloc (.cells M 5)).setRow w.heap.size Y) := ⟨rfl, rfl, rfl, by simp, fun k hk => setRow_other _ _ _ _ (by omega)⟩
    exact ⟨rfl, Lib.below_freeze (hb1.trans hb2) (p := ⟨w.heap.size, 0, none⟩) (Nat.le_refl _) _⟩

set_option maxHeartbeats 800000 in
theorem clone_any (s : ByteArray) (w : World) (hlim : s.size ≤ 1000000) :
    Calls Try.prog 64 #[.string s] w fun e w' => e = .returned (.string s) ∧ Below w.heap.size w w' := by
  have H := Lib.hid (slclone_any s w hlim)
  clear hlim
  go_enter Try.func64, Try.ntmps64
  go_wp2_with (go_at_call 76; refine H.out.mono ?_; rintro e w' ⟨rfl, hb⟩)
  go_ret
  exact ⟨rfl, hb⟩
end Go.Proofs.Ytmpldpfgnakbkaa
/- Package expr's small functions: takes, truth, single, literal. -/
namespace Go.Proofs.Ytmpldpfgnakbkaa
set_option linter.unusedVariables false
open Go.RowKit

theorem etakes_any (op : Int) (w : World) : Calls Try.prog 54 #[.int .i64 op] w fun e w' => e = .returned (.int .i64 (takesN op : Int)) ∧ w = w' := by
  by_cases h1 : op = 1
  · subst h1
    go_enter Try.func54, Try.ntmps54
    go_wp2
    go_ret
    exact ⟨rfl, rfl⟩
  by_cases h2 : op = 2
  · subst h2
    go_enter Try.func54, Try.ntmps54
    go_wp2
    go_ret
    exact ⟨rfl, rfl⟩
  by_cases h3 : op = 3
  · subst h3
    go_enter Try.func54, Try.ntmps54
    go_wp2
    go_ret
    exact ⟨rfl, rfl⟩
  by_cases h4 : op = 4
  · subst h4
    go_enter Try.func54, Try.ntmps54
    go_wp2
    go_ret
    exact ⟨rfl, rfl⟩
  by_cases h11 : op = 11
  · subst h11
    go_enter Try.func54, Try.ntmps54
    go_wp2
    go_ret
    exact ⟨rfl, rfl⟩
  have b1 : (op == 1) = false := by rw [beq_eq_false_iff_ne]; exact h1
  have b2 : (op == 2) = false := by rw [beq_eq_false_iff_ne]; exact h2
  have b3 : (op == 3) = false := by rw [beq_eq_false_iff_ne]; exact h3
  have b4 : (op == 4) = false := by rw [beq_eq_false_iff_ne]; exact h4
  have b11 : (op == 11) = false := by rw [beq_eq_false_iff_ne]; exact h11
  have H : Hid (takesN op = 2) := by show takesN op = 2; unfold takesN; rw [if_neg (by omega), if_neg (by omega)]
  clear h1 h2 h3 h4 h11
  go_enter Try.func54, Try.ntmps54
  go_wp2
  go_ret
  exact ⟨ret_int (by rw [H.out]; rfl), rfl⟩
theorem etruth_any (b : Bool) (w : World) : Calls Try.prog 59 #[.bool b] w fun e w' => e = .returned (.agg #[.int .i64 1, .int .i64 (truthN b), .string ⟨#[]⟩]) ∧ Below w.heap.size w w' := by
  cases b
  all_goals
    go_enter Try.func59, Try.ntmps59
    go_wp2_with fail
    try simp only [Exit.inBlock, Exit.then]
    refine bodyPost_ret (box_ret rfl rfl ((Bx.made _ _ _ _).alloc _)) rfl ?_
    exact ⟨rfl, below2 _ _ _⟩

/-- A value and a number, as they come back. -/
theorem ret_pair {v : Vl} {e : Int} {p : Vl × Int} (h : p = (v, e)) : Ending.returned (.tuple #[.agg #[.int .i64 v.k, .int .i64 v.n, .string v.s], .int .i64 e]) = .returned (.tuple #[p.1.val, .int .i64 p.2]) := by rw [h]; rfl
set_option maxHeartbeats 1600000 in
theorem esingle_any {w : World} {R : Nat → Prop} {A : Option Addr} {n c : Nat} {l : List Vl} (h : Vls w R A n c l) :
    Calls Try.prog 80 #[.slice A n c] w fun e w' => e = .returned (.tuple #[(singleV l).1.val, .int .i64 (singleV l).2]) ∧ Below w.heap.size w w' := by
  have hle := Rw.le h
  have hcap := Rw.cap h
  have hlen := Rw.len h
  unfold maxLen at hcap
  by_cases h1 : n = 1
  · subst h1
    obtain ⟨v, rfl⟩ := List.length_eq_one_iff.1 hlen
    have h' := h.keep (w' := w.alloc (.cells #[.int .i64 0, .int .i64 0, .string ⟨#[]⟩] 42)) (Kept.all (below1 w _) R) (fun _ h _ => h)
    obtain ⟨b, o, x, rfl, hRb, hbl, hx, hok, x0, x1, x2⟩ := h'.at_ (j := 0) (by omega)
    simp at hx
    subst hx
    simp only [Nat.zero_mul, Nat.add_zero] at x0 x1 x2
    have HQ := Lib.hid (show singleV [v] = (v, 0) from rfl)
    have hR := (Bx.made w 0 0 ⟨#[]⟩)
    have c0 := hR.c3
    have f0 := hR.fz
    clear h hlen h' hRb hok
    go_enter Try.func80, Try.ntmps80
    go_wp2_with fail
    try simp only [Exit.inBlock, Exit.then]
    refine bodyPost_ret (box_ret2 rfl rfl rfl (Bx.made _ _ _ _)) rfl ?_
    exact ⟨ret_pair HQ.out, below1 _ _⟩
  · have HQ : Hid (singleV l = (noneV, 4)) := by
      show singleV l = _
      match l, hlen with
      | [], _ => rfl
      | [v], e => exact absurd e.symm h1
      | _ :: _ :: _, _ => rfl
    have hne : ((n : Int) != 1) = true := by rw [bne_iff_ne]; omega
    clear h hlen
    go_enter Try.func80, Try.ntmps80
    go_wp2_with fail
    try simp only [Exit.inBlock, Exit.then]
    refine bodyPost_ret (box_ret2 rfl rfl rfl (Bx.made _ _ _ _)) rfl ?_
    exact ⟨ret_pair (v := noneV) HQ.out, below1 _ _⟩

/-- What a node made, in a block of its own, as it comes back. -/
theorem part_ret {fn : Func} {p : Tmp} {tmps : Array Value} {w : World} {g : Nat} {A : Option Addr} {n c : Nat} {k m e : Int} {s : ByteArray} (h : fn.results = #[.cell p 87]) (hp : tmps.getD p undef = .pointer (some ⟨g, 0, none⟩)) (hg : Ob w g 87 #[.slice A n c, .int .i64 k, .int .i64 m, .string s, .int .i64 e]) :
    (results fn tmps).run Try.prog w = .ok (.agg #[.slice A n c, .int .i64 k, .int .i64 m, .string s, .int .i64 e]) w :=
  results_cell_row h tmps w g _ _ (0, 0) _ hp hg Try.underlying87 rfl (by kernel_rfl)
theorem ob_put5 {w : World} {g : Nat} {t : TypeId} {x0 x1 x2 x3 x4 : Value} (h : Ob w g t #[x0, x1, x2, x3, x4]) (a b c d e : Value) : Ob (((((w.setCell ⟨g, 0, none⟩ a).setCell ⟨g, 1, none⟩ b).setCell ⟨g, 2, none⟩ c).setCell ⟨g, 3, none⟩ d).setCell ⟨g, 4, none⟩ e) g t #[a, b, c, d, e] := by
  have := ((((h.put 0 a).put 1 b).put 2 c).put 3 d).put 4 e
  simpa using this
theorem below_put5 {w0 w : World} {g B : Nat} (h : Below B w0 w) (hg : B ≤ g) (a b c d e : Value) : Below B w0 (((((w.setCell ⟨g, 0, none⟩ a).setCell ⟨g, 1, none⟩ b).setCell ⟨g, 2, none⟩ c).setCell ⟨g, 3, none⟩ d).setCell ⟨g, 4, none⟩ e) :=
  ((((h.setCell (p := ⟨g, 0, none⟩) hg a).setCell (p := ⟨g, 1, none⟩) hg b).setCell (p := ⟨g, 2, none⟩) hg c).setCell (p := ⟨g, 3, none⟩) hg d).setCell (p := ⟨g, 4, none⟩) hg e
set_option maxRecDepth 100000 in
set_option maxHeartbeats 1600000 in
theorem eliteral_any (v : Vl) (hs : v.s.size ≤ 1000000) (w : World) :
    Calls Try.prog 72 #[.agg #[.int .i64 v.k, .int .i64 v.n, .string v.s]] w fun e w' => e = .returned (.agg #[.slice none 0 0, .int .i64 v.k, .int .i64 v.n, .string v.s, .int .i64 0]) ∧ Below w.heap.size w w' := by
  obtain ⟨k, n, s⟩ := v
  simp only at hs ⊢
  have HCL := Lib.hid (fun W => clone_any s W hs)
  have HSZ := Lib.hid (size_al w (.cells #[.int .i64 k, .int .i64 n, .string s] 42))
  go_enter Try.func72, Try.ntmps72
  go_wp2_with (go_at_call 64; refine (HCL.out _).mono ?_; rintro e w1 ⟨rfl, hb1⟩
               have R1 := Lib.hid (((Bx.made w k n s).alloc (.cells #[.slice none 0 0, .int .i64 0, .int .i64 0, .string ⟨#[]⟩, .int .i64 0] 87)).then_ hb1)
               have O1 := Lib.hid ((Ob.made (w.alloc (.cells #[.int .i64 k, .int .i64 n, .string s] 42)) 87 #[.slice none 0 0, .int .i64 0, .int .i64 0, .string ⟨#[]⟩, .int .i64 0]).below hb1 (by simp))
               have D1 := Lib.hid (Below.lit (Below.lit hb1))
               have c0 := R1.out.c3
               have f0 := R1.out.fz
               rw [HSZ.out] at O1
               have o0 := O1.out.cell
               have g0 := O1.out.frozen
               clear hb1)
  try simp only [Exit.inBlock, Exit.then]
  have O2 := O1.out.keep (w' := w1.setCell ⟨w.heap.size, 2, none⟩ (.string s)) (Below.heap_setCell w1 _ _ _ (by show w.heap.size + 1 ≠ w.heap.size; omega))
  refine bodyPost_ret (part_ret rfl rfl (ob_put5 O2 _ _ _ _ _)) rfl ?_
  exact ⟨rfl, below_put5 (D1.out.setCell (p := ⟨w.heap.size, 2, none⟩) (Nat.le_refl _) _) (by omega) _ _ _ _ _⟩
end Go.Proofs.Ytmpldpfgnakbkaa
/- What conditions come to, plainly: expressions behind each other, truths, what isn't asked for. -/
namespace Go.Proofs.Ytmpldpfgnakbkaa
set_option linter.unusedVariables false

theorem expr_un {a : List Nod} {f : Int} (ha : exprE a = 0) (na : a ≠ []) (hf : f ≠ 1 ∧ f ≠ 2) (hp : popX f [false] = some [false]) (hl : a.length + 1 ≤ 32) : exprE (a ++ [opN f]) = 0 := by
  obtain ⟨_, ra⟩ := exprE_ok ha na
  have r2 : runX (a ++ [opN f]) [] = some [false] := by
    rw [runX_app, ra]
    simp only [runX, stepX, holds_opN hf.1 hf.2, if_true]
    show (match popX f [false] with | some st' => some st' | none => none) = some [false]
    rw [hp]
  unfold exprE
  rw [r2, if_neg (by simp; omega)]
  simp
theorem expr_bin {a b : List Nod} {f : Int} (ha : exprE a = 0) (hb : exprE b = 0) (na : a ≠ []) (nb : b ≠ []) (hf : f ≠ 1 ∧ f ≠ 2) (hp : popX f [false, false] = some [false]) (hl : a.length + b.length + 1 ≤ 32) : exprE (a ++ b ++ [opN f]) = 0 := by
  obtain ⟨_, ra⟩ := exprE_ok ha na
  obtain ⟨_, rb⟩ := exprE_ok hb nb
  have r1 : runX (a ++ b) [] = some [false, false] := by
    rw [runX_app, ra]
    exact runX_frame b [] [false] [false] rb
  have r2 : runX (a ++ b ++ [opN f]) [] = some [false] := by
    rw [runX_app, r1]
    simp only [runX, stepX, holds_opN hf.1 hf.2, if_true]
    show (match popX f [false, false] with | some st' => some st' | none => none) = some [false]
    rw [hp]
  unfold exprE
  rw [r2, if_neg (by simp; omega)]
  simp
theorem val_of {ask : List Giv} {l : List Nod} {p : Prt} (h : exprE l = 0) (hn : l ≠ []) (hr : runP ask l [] = [p]) : valP ask l = (p.v, p.e) := by
  unfold valP
  rw [if_neg (by rintro (h0 | h0); exact hn h0; exact h0 h), hr]
  rfl
theorem val_bin {ask : List Giv} {a b : List Nod} {p q : Prt} {f : Int} (hp : ∀ t, runP ask a t = t ++ [p]) (hq : ∀ t, runP ask b t = t ++ [q]) (ht : takesN f = 2) : runP ask (a ++ b ++ [opN f]) [] = [madeP ask (opN f) [p, q]] := by
  rw [runP_app, runP_app, hp, hq]
  show stepP ask _ (opN f) = _
  unfold stepP
  rw [show (opN f).op = f from rfl, ht]
  rfl
theorem val_un {ask : List Giv} {a : List Nod} {p : Prt} {f : Int} (hp : ∀ t, runP ask a t = t ++ [p]) (ht : takesN f = 1) : runP ask (a ++ [opN f]) [] = [madeP ask (opN f) [p]] := by
  rw [runP_app, hp]
  show stepP ask _ (opN f) = _
  unfold stepP
  rw [show (opN f).op = f from rfl, ht]
  rfl

/-- Cond's answer to a value. -/
def condV (v : Vl) : Int := if v = truthV true then 2 else if v = truthV false then 0 else 1
theorem truth_ne : truthV true ≠ truthV false := by decide
theorem none_t : noneV ≠ truthV true := by decide
theorem none_f : noneV ≠ truthV false := by decide
theorem condV_none : condV noneV = 1 := by unfold condV; rw [if_neg none_t, if_neg none_f]
theorem condV_t : condV (truthV true) = 2 := if_pos rfl
theorem condV_f : condV (truthV false) = 0 := by unfold condV; rw [if_neg truth_ne.symm, if_pos rfl]
theorem condP_val {ask : List Giv} {l : List Nod} (hn : l ≠ []) : condP ask l = condV (valP ask l).1 := by unfold condP; rw [if_neg hn]; rfl
theorem condV_cases (v : Vl) : v = truthV true ∧ condV v = 2 ∨ v = truthV false ∧ condV v = 0 ∨ (v ≠ truthV true ∧ v ≠ truthV false) ∧ condV v = 1 := by
  by_cases h1 : v = truthV true
  · subst h1; exact .inl ⟨rfl, condV_t⟩
  · by_cases h2 : v = truthV false
    · subst h2; exact .inr (.inl ⟨rfl, condV_f⟩)
    · exact .inr (.inr ⟨⟨h1, h2⟩, by unfold condV; rw [if_neg h1, if_neg h2]⟩)
theorem truth_right (b : Bool) : (truthV b).right := by cases b <;> decide
theorem truth_of {v : Vl} (h : v.right) (hk : v.k = 1) : v = truthV true ∨ v = truthV false := by
  obtain ⟨k, n, s⟩ := v
  simp only at hk
  subst hk
  unfold Vl.right RightV at h
  rcases h with ⟨_, hl, hn | hn⟩ | ⟨h, _⟩ | ⟨h, _⟩ | ⟨h, _⟩ | ⟨h, _⟩
  · exact .inr (Vl.ext' rfl hn hl)
  · exact .inl (Vl.ext' rfl hn hl)
  all_goals cases h
theorem made_and {ask : List Giv} {p q : Prt} (hp : FineP p) (hq : FineP q) : condV (madeP ask (opN 12) [p, q]).v = min (condV p.v) (condV q.v) := by
  have hd : decB 12 [p, q] = (decide (p.v = truthV false) || decide (q.v = truthV false)) := by simp [decB]
  have hm : madeP ask (opN 12) [p, q] = if decB 12 [p, q] = true then ⟨[], truthV false, 0⟩ else if errL [p, q] ≠ 0 then ⟨[], noneV, errL [p, q]⟩ else ⟨[], (reckP 12 [p, q]).1, (reckP 12 [p, q]).2⟩ := rfl
  rw [hm, hd]
  rcases condV_cases p.v with ⟨e1, c1⟩ | ⟨e1, c1⟩ | ⟨⟨e1, f1⟩, c1⟩ <;> rcases condV_cases q.v with ⟨e2, c2⟩ | ⟨e2, c2⟩ | ⟨⟨e2, f2⟩, c2⟩
  case inr.inl.inl | inr.inl.inr.inl | inr.inl.inr.inr | inl.inr.inl | inr.inr.inr.inl =>
    rw [if_pos (by simp [e1, e2]), c1, c2]
    exact condV_f
  all_goals
    rw [if_neg (by simp [*, truth_ne])]
    rw [c1, c2]
  · have pe : p.e = 0 := by
      by_cases h : p.e = 0
      · exact h
      · exact absurd ((hp h).symm.trans e1) none_t
    have qe : q.e = 0 := by
      by_cases h : q.e = 0
      · exact h
      · exact absurd ((hq h).symm.trans e2) none_t
    rw [if_neg (by simp [errL, pe, qe])]
    show condV (callV 12 [p.v, q.v]).1 = _
    rw [e1, e2]
    decide
  all_goals
    split
    · exact condV_none
    · show condV (callV 12 [p.v, q.v]).1 = _
      have : (callV 12 [p.v, q.v]).1 = noneV := by
        unfold callV
        split
        · rename_i hh
          show (bothV 12 p.v q.v).1 = _
          unfold bothV
          rw [if_neg ?_]
          rintro ⟨k1, k2⟩
          have r1 := truth_of (allR_iff.1 hh.1 p.v (by simp)) k1
          have r2 := truth_of (allR_iff.1 hh.1 q.v (by simp)) k2
          rcases r1 with r1 | r1 <;> rcases r2 with r2 | r2 <;> first | contradiction | (exact absurd (r1.symm.trans e1) truth_ne) | skip
        · rfl
      rw [this]
      exact condV_none
theorem made_or {ask : List Giv} {p q : Prt} (hp : FineP p) (hq : FineP q) : condV (madeP ask (opN 13) [p, q]).v = max (condV p.v) (condV q.v) := by
  have hd : decB 13 [p, q] = (decide (p.v = truthV true) || decide (q.v = truthV true)) := by simp [decB]
  have hm : madeP ask (opN 13) [p, q] = if decB 13 [p, q] = true then ⟨[], truthV true, 0⟩ else if errL [p, q] ≠ 0 then ⟨[], noneV, errL [p, q]⟩ else ⟨[], (reckP 13 [p, q]).1, (reckP 13 [p, q]).2⟩ := rfl
  rw [hm, hd]
  rcases condV_cases p.v with ⟨e1, c1⟩ | ⟨e1, c1⟩ | ⟨⟨e1, f1⟩, c1⟩ <;> rcases condV_cases q.v with ⟨e2, c2⟩ | ⟨e2, c2⟩ | ⟨⟨e2, f2⟩, c2⟩
  case inl.inl | inl.inr.inl | inl.inr.inr | inr.inl.inl | inr.inr.inl =>
    rw [if_pos (by simp [e1, e2]), c1, c2]
    exact condV_t
  all_goals
    rw [if_neg (by simp [*, truth_ne.symm])]
    rw [c1, c2]
  · have pe : p.e = 0 := by
      by_cases h : p.e = 0
      · exact h
      · exact absurd ((hp h).symm.trans e1) none_f
    have qe : q.e = 0 := by
      by_cases h : q.e = 0
      · exact h
      · exact absurd ((hq h).symm.trans e2) none_f
    rw [if_neg (by simp [errL, pe, qe])]
    show condV (callV 13 [p.v, q.v]).1 = _
    rw [e1, e2]
    decide
  all_goals
    split
    · exact condV_none
    · show condV (callV 13 [p.v, q.v]).1 = _
      have : (callV 13 [p.v, q.v]).1 = noneV := by
        unfold callV
        split
        · rename_i hh
          show (bothV 13 p.v q.v).1 = _
          unfold bothV
          rw [if_neg ?_]
          rintro ⟨k1, k2⟩
          have r1 := truth_of (allR_iff.1 hh.1 p.v (by simp)) k1
          have r2 := truth_of (allR_iff.1 hh.1 q.v (by simp)) k2
          rcases r1 with r1 | r1 <;> rcases r2 with r2 | r2 <;> first | contradiction | skip
        · rfl
      rw [this]
      exact condV_none
theorem made_not {ask : List Giv} {p : Prt} (hp : FineP p) : condV (madeP ask (opN 11) [p]).v = 2 - condV p.v := by
  have hm : madeP ask (opN 11) [p] = if errL [p] ≠ 0 then ⟨[], noneV, errL [p]⟩ else ⟨[], (reckP 11 [p]).1, (reckP 11 [p]).2⟩ := rfl
  rw [hm]
  rcases condV_cases p.v with ⟨e1, c1⟩ | ⟨e1, c1⟩ | ⟨⟨e1, f1⟩, c1⟩ <;> rw [c1]
  · have pe : p.e = 0 := by
      by_cases h : p.e = 0
      · exact h
      · exact absurd ((hp h).symm.trans e1) none_t
    rw [if_neg (by simp [errL, pe])]
    show condV (callV 11 [p.v]).1 = _
    rw [e1]
    decide
  · have pe : p.e = 0 := by
      by_cases h : p.e = 0
      · exact h
      · exact absurd ((hp h).symm.trans e1) none_f
    rw [if_neg (by simp [errL, pe])]
    show condV (callV 11 [p.v]).1 = _
    rw [e1]
    decide
  · split
    · exact condV_none
    · show condV (callV 11 [p.v]).1 = _
      have : (callV 11 [p.v]).1 = noneV := by
        unfold callV
        split
        · rename_i hh
          show (notV p.v).1 = _
          unfold notV
          rw [if_neg ?_]
          intro k1
          rcases truth_of (allR_iff.1 hh.1 p.v (by simp)) k1 with r1 | r1 <;> contradiction
        · rfl
      rw [this]
      exact condV_none
/-- and, or, not of two right expressions. -/
theorem cond_and {ask : List Giv} {a b : List Nod} (ha : exprE a = 0) (hb : exprE b = 0) (na : a ≠ []) (nb : b ≠ []) (hl : a.length + b.length + 1 ≤ 32) : condP ask (a ++ b ++ [opN 12]) = min (condP ask a) (condP ask b) := by
  obtain ⟨p, p1, p2, p3⟩ := run_fine (ask := ask) ha na
  obtain ⟨q, q1, q2, q3⟩ := run_fine (ask := ask) hb nb
  rw [condP_val (by simp), condP_val na, condP_val nb, p2, q2, val_of (expr_bin ha hb na nb (by decide) (by decide) hl) (by simp) (val_bin p1 q1 rfl)]
  exact made_and p3 q3
theorem cond_or {ask : List Giv} {a b : List Nod} (ha : exprE a = 0) (hb : exprE b = 0) (na : a ≠ []) (nb : b ≠ []) (hl : a.length + b.length + 1 ≤ 32) : condP ask (a ++ b ++ [opN 13]) = max (condP ask a) (condP ask b) := by
  obtain ⟨p, p1, p2, p3⟩ := run_fine (ask := ask) ha na
  obtain ⟨q, q1, q2, q3⟩ := run_fine (ask := ask) hb nb
  rw [condP_val (by simp), condP_val na, condP_val nb, p2, q2, val_of (expr_bin ha hb na nb (by decide) (by decide) hl) (by simp) (val_bin p1 q1 rfl)]
  exact made_or p3 q3
theorem cond_not {ask : List Giv} {a : List Nod} (ha : exprE a = 0) (na : a ≠ []) (hl : a.length + 1 ≤ 32) : condP ask (a ++ [opN 11]) = 2 - condP ask a := by
  obtain ⟨p, p1, p2, p3⟩ := run_fine (ask := ask) ha na
  rw [condP_val (by simp), condP_val na, p2, val_of (expr_un ha na (by decide) (by decide) hl) (by simp) (val_un p1 rfl)]
  exact made_not p3
/-- What isn't asked for doesn't matter. -/
theorem run_same {ask ask' : List Giv} : ∀ {l : List Nod} {st : List Prt}, (∀ n ∈ l, n.op = 2 → getR ask n.a = getR ask' n.a ∧ getE ask n.a = getE ask' n.a) → runP ask l st = runP ask' l st
  | [], _, _ => rfl
  | n :: l, st, h => by
    have e : stepP ask st n = stepP ask' st n := by
      unfold stepP madeP
      by_cases h2 : n.op = 2
      · obtain ⟨a, b⟩ := h n (by simp) h2
        rw [a, b]
      · simp only [h2, if_false]
    rw [runP_cons, runP_cons, e]
    exact run_same fun m hm => h m (by simp [hm])
theorem val_same {ask ask' : List Giv} {l : List Nod} (h : ∀ n ∈ l, n.op = 2 → getR ask n.a = getR ask' n.a ∧ getE ask n.a = getE ask' n.a) : valP ask l = valP ask' l := by
  unfold valP
  rw [run_same h]
end Go.Proofs.Ytmpldpfgnakbkaa
/- decided: does one of both decide? -/
namespace Go.Proofs.Ytmpldpfgnakbkaa
set_option linter.unusedVariables false
open Go.RowKit

theorem ret_vb {k n : Int} {s : ByteArray} {b b' : Bool} (h : b = b') : Ending.returned (.tuple #[.agg #[.int .i64 k, .int .i64 n, .string s], .bool b]) = .returned (.tuple #[.agg #[.int .i64 k, .int .i64 n, .string s], .bool b']) := by rw [h]
set_option maxHeartbeats 1600000 in
theorem edecided_no {op : Int} (h1 : op ≠ 12) (h2 : op ≠ 13) (A : Option Addr) (n c : Nat) (w : World) :
    Calls Try.prog 73 #[.int .i64 op, .slice A n c] w fun e w' => e = .returned (.tuple #[.agg #[.int .i64 0, .int .i64 0, .string ⟨#[]⟩], .bool false]) ∧ Below w.heap.size w w' := by
  have b1 : (op != 12) = true := by rw [bne_iff_ne]; exact h1
  have b2 : (op != 13) = true := by rw [bne_iff_ne]; exact h2
  clear h1 h2
  go_enter Try.func73, Try.ntmps73
  go_wp2_with fail
  try simp only [Exit.inBlock, Exit.then]
  refine bodyPost_ret (box_ret2 rfl rfl rfl (Bx.made _ _ _ _)) rfl ?_
  exact ⟨rfl, below1 _ _⟩
/-- The value that decides. -/
def decV (op : Int) : Vl := truthV (decide (op = 13))
set_option maxRecDepth 100000 in
set_option maxHeartbeats 3200000 in
theorem edecided_two {op : Int} (hop : op = 12 ∨ op = 13) {w : World} {R : Nat → Prop} {A : Option Addr} {c : Nat} {p q : Prt} (h : Prts w R A 2 c [p, q]) :
    Calls Try.prog 73 #[.int .i64 op, .slice A 2 c] w fun e w' => e = .returned (.tuple #[.agg #[.int .i64 (if decB op [p, q] = true then 1 else 0), .int .i64 (if decB op [p, q] = true then truthN (decide (op = 13)) else 0), .string ⟨#[]⟩], .bool (decB op [p, q])]) ∧ Below w.heap.size w w' := by
  have hle := Rw.le h
  have hcap := Rw.cap h
  unfold maxLen at hcap
  have HD : Hid (decB op [p, q] = (decide (p.v = decV op) || decide (q.v = decV op))) := by show _ = _; rcases hop with rfl | rfl <;> simp [decB, decV]
  have HT := Lib.hid (etruth_any (decide (op = 13)))
  obtain ⟨b, o, p0, A0, n0, c0, rfl, hRb, hbl, hx, hok, ⟨x0, x1, x2, x3, x4⟩, hin⟩ := h.at_ (j := 0) (by omega)
  obtain ⟨b', o', p1, A1, n1, c1, hA, _, _, hy, hok1, ⟨y0, y1, y2, y3, y4⟩, hin1⟩ := h.at_ (j := 1) (by omega)
  injection hA with hA
  injection hA with hA1 hA2
  subst hA1 hA2
  simp at hx hy
  subst hx hy
  simp only [Nat.zero_mul, Nat.add_zero] at x1 x2 x3
  simp only [Nat.one_mul] at y1 y2 y3
  have KX := Lib.hid (fun W (hW : Below w.heap.size w W) => (⟨(World.cell?_of_block (hW.block b hbl)).trans x1, (World.cell?_of_block (hW.block b hbl)).trans x2, (World.cell?_of_block (hW.block b hbl)).trans x3⟩ : _ ∧ _ ∧ _))
  have KY := Lib.hid (fun W (hW : Below w.heap.size w W) => (⟨(World.cell?_of_block (hW.block b hbl)).trans y1, (World.cell?_of_block (hW.block b hbl)).trans y2, (World.cell?_of_block (hW.block b hbl)).trans y3⟩ : _ ∧ _ ∧ _))
  have two : ∀ (tb : Bool) (tn : Int), (Hid (∀ W : World, Calls Try.prog 59 #[.bool tb] W fun e w' => e = .returned (.agg #[.int .i64 1, .int .i64 tn, .string ⟨#[]⟩]) ∧ Below W.heap.size W w')) → decV op = ⟨1, tn, ⟨#[]⟩⟩ → truthN (decide (op = 13)) = tn → ((op == 13) = tb) →
      Calls Try.prog 73 #[.int .i64 op, .slice (some ⟨b, o, none⟩) 2 c] w fun e w' => e = .returned (.tuple #[.agg #[.int .i64 (if decB op [p, q] = true then 1 else 0), .int .i64 (if decB op [p, q] = true then truthN (decide (op = 13)) else 0), .string ⟨#[]⟩], .bool (decB op [p, q])]) ∧ Below w.heap.size w w' := by
    intro tb tn HTB hdv htn htb
    rw [hdv] at HD
    rw [htn]
    have hopb : (op != 12 && op != 13) = false := by rcases hop with rfl | rfl <;> rfl
    obtain ⟨pb, ⟨pk, pn, ps⟩, pe⟩ := p
    obtain ⟨qb, ⟨qk, qn, qs⟩, qe⟩ := q
    simp only at KX KY HD
    have e1 := fun W => val_eq pk pn 1 tn ps ⟨#[]⟩ W
    have e2 := fun W => val_eq qk qn 1 tn qs ⟨#[]⟩ W
    generalize decB op _ = dd at *
    have HD' : Hid (dd = (veq ⟨pk, pn, ps⟩ ⟨1, tn, ⟨#[]⟩⟩ || veq ⟨qk, qn, qs⟩ ⟨1, tn, ⟨#[]⟩⟩)) := HD
    generalize veq ⟨pk, pn, ps⟩ ⟨1, tn, ⟨#[]⟩⟩ = v1 at *
    generalize veq ⟨qk, qn, qs⟩ ⟨1, tn, ⟨#[]⟩⟩ = v2 at *
    clear HD hin hin1 x0 x4 y0 y4 x1 x2 x3 y1 y2 y3 h hok hok1 hRb hdv htn HT hop
    obtain ⟨rk, rn, hrk, hrn⟩ : ∃ rk rn, (if dd = true then (1 : Int) else 0) = rk ∧ (if dd = true then tn else 0) = rn := ⟨_, _, rfl, rfl⟩
    rw [hrk, hrn]
    have HRK := Lib.hid hrk
    have HRN := Lib.hid hrn
    clear hrk hrn
    have fin : ∀ v1b v2b : Bool, v1 = v1b → v2 = v2b → Calls Try.prog 73 #[.int .i64 op, .slice (some ⟨b, o, none⟩) 2 c] w fun e w' => e = .returned (.tuple #[.agg #[.int .i64 rk, .int .i64 rn, .string ⟨#[]⟩], .bool dd]) ∧ Below w.heap.size w w' := by
      intro v1b v2b ev1 ev2
      subst ev1 ev2
      by_cases h12 : (op != 12) = true
      · have h13 : (op != 13) = false := by rw [h12] at hopb; simpa using hopb
        go_enter Try.func73, Try.ntmps73
        go_wp2_with (go_at_call 59; refine (HTB.out _).mono ?_; rintro e w1 ⟨rfl, hb1⟩; have B1 := Lib.hid hb1; have R1 := Lib.hid ((Bx.made w 0 0 ⟨#[]⟩).then_ hb1); clear hb1)
        have D2 : Below w.heap.size w (w1.alloc (.cells #[.int .i64 1, .int .i64 tn, .string ⟨#[]⟩] 42)) := (Below.lit B1.out).alloc (Below.lit B1.out).size _
        have KXW := KX.out _ D2
        have KYW := KY.out _ D2
        have z := (Bx.made w1 1 tn ⟨#[]⟩).c3
        have R2 := Lib.hid (R1.out.alloc (.cells #[.int .i64 1, .int .i64 tn, .string ⟨#[]⟩] 42))
        have D2' := Lib.hid D2
        have Z := Lib.hid (Bx.made w1 1 tn ⟨#[]⟩)
        clear D2 R1 KX KY
        generalize hW2 : w1.alloc (.cells #[.int .i64 1, .int .i64 tn, .string ⟨#[]⟩] 42) = W2 at *
        cases v1
        · simp only [Bool.false_or] at HD'
          have hdd := HD'.out
          subst hdd
          cases dd
          · go_quiet (fail)
            have f2 := (R2.out.drewN nq).fz
            have k2 := (R2.out.drewN nq).c3
            go_wp2_with fail
            try simp only [Exit.inBlock, Exit.then]
            refine bodyPost_ret (box_ret2 rfl rfl rfl ((R2.out.drewN nq).put _ _ _)) rfl ?_
            refine ⟨?_, below_put (below_drewN D2'.out nq) (Nat.le_refl _) _ _ _⟩
            rw [← HRK.out, ← HRN.out]
            rfl
          · go_quiet (fail)
            have f2 := (R2.out.drewN nq).fz
            have k2 := (R2.out.drewN nq).c3
            have z2 := (Z.out.drewN nq).c3
            go_wp2_with fail
            try simp only [Exit.inBlock, Exit.then]
            refine bodyPost_ret (box_ret2 rfl rfl rfl ((R2.out.drewN nq).put _ _ _)) rfl ?_
            refine ⟨?_, below_put (below_drewN D2'.out nq) (Nat.le_refl _) _ _ _⟩
            rw [← HRK.out, ← HRN.out]
            rfl
        · simp only [Bool.true_or] at HD'
          have hdd := HD'.out
          subst hdd
          go_quiet (fail)
          have f2 := (R2.out.drewN nq).fz
          have k2 := (R2.out.drewN nq).c3
          have z2 := (Z.out.drewN nq).c3
          go_wp2_with fail
          try simp only [Exit.inBlock, Exit.then]
          refine bodyPost_ret (box_ret2 rfl rfl rfl ((R2.out.drewN nq).put _ _ _)) rfl ?_
          refine ⟨?_, below_put (below_drewN D2'.out nq) (Nat.le_refl _) _ _ _⟩
          rw [← HRK.out, ← HRN.out]
          rfl
      · have h12 : (op != 12) = false := by simpa using h12
        go_enter Try.func73, Try.ntmps73
        go_wp2_with (go_at_call 59; refine (HTB.out _).mono ?_; rintro e w1 ⟨rfl, hb1⟩; have B1 := Lib.hid hb1; have R1 := Lib.hid ((Bx.made w 0 0 ⟨#[]⟩).then_ hb1); clear hb1)
        have D2 : Below w.heap.size w (w1.alloc (.cells #[.int .i64 1, .int .i64 tn, .string ⟨#[]⟩] 42)) := (Below.lit B1.out).alloc (Below.lit B1.out).size _
        have KXW := KX.out _ D2
        have KYW := KY.out _ D2
        have z := (Bx.made w1 1 tn ⟨#[]⟩).c3
        have R2 := Lib.hid (R1.out.alloc (.cells #[.int .i64 1, .int .i64 tn, .string ⟨#[]⟩] 42))
        have D2' := Lib.hid D2
        have Z := Lib.hid (Bx.made w1 1 tn ⟨#[]⟩)
        clear D2 R1 KX KY
        generalize hW2 : w1.alloc (.cells #[.int .i64 1, .int .i64 tn, .string ⟨#[]⟩] 42) = W2 at *
        cases v1
        · simp only [Bool.false_or] at HD'
          have hdd := HD'.out
          subst hdd
          cases dd
          · go_quiet (fail)
            have f2 := (R2.out.drewN nq).fz
            have k2 := (R2.out.drewN nq).c3
            go_wp2_with fail
            try simp only [Exit.inBlock, Exit.then]
            refine bodyPost_ret (box_ret2 rfl rfl rfl ((R2.out.drewN nq).put _ _ _)) rfl ?_
            refine ⟨?_, below_put (below_drewN D2'.out nq) (Nat.le_refl _) _ _ _⟩
            rw [← HRK.out, ← HRN.out]
            rfl
          · go_quiet (fail)
            have f2 := (R2.out.drewN nq).fz
            have k2 := (R2.out.drewN nq).c3
            have z2 := (Z.out.drewN nq).c3
            go_wp2_with fail
            try simp only [Exit.inBlock, Exit.then]
            refine bodyPost_ret (box_ret2 rfl rfl rfl ((R2.out.drewN nq).put _ _ _)) rfl ?_
            refine ⟨?_, below_put (below_drewN D2'.out nq) (Nat.le_refl _) _ _ _⟩
            rw [← HRK.out, ← HRN.out]
            rfl
        · simp only [Bool.true_or] at HD'
          have hdd := HD'.out
          subst hdd
          go_quiet (fail)
          have f2 := (R2.out.drewN nq).fz
          have k2 := (R2.out.drewN nq).c3
          have z2 := (Z.out.drewN nq).c3
          go_wp2_with fail
          try simp only [Exit.inBlock, Exit.then]
          refine bodyPost_ret (box_ret2 rfl rfl rfl ((R2.out.drewN nq).put _ _ _)) rfl ?_
          refine ⟨?_, below_put (below_drewN D2'.out nq) (Nat.le_refl _) _ _ _⟩
          rw [← HRK.out, ← HRN.out]
          rfl
    exact fin v1 v2 rfl rfl
  rcases hop with rfl | rfl
  · exact two false 0 HT rfl rfl rfl
  · exact two true 1 HT rfl rfl rfl
end Go.Proofs.Ytmpldpfgnakbkaa
/- Package fun: judge. -/
namespace Go.Proofs.Ytmpldpfgnakbkaa
set_option linter.unusedVariables false
open Go.RowKit

theorem eq_dec {a b : Int} : (a == b) = decide (a = b) := by rw [Bool.eq_iff_iff]; simp
set_option maxHeartbeats 3200000 in
theorem judge_any {w : World} {B n c : Nat} {A : Option Addr} {l : List Vl} (h : Vs w B A n c l) (hB : B ≤ w.heap.size) (hn : n ≤ 1000000) (hR : ∀ v ∈ l, v.right) (op : Int) :
    Calls Try.prog 91 #[.int .i64 op, .slice A n c] w fun e w' => e = .returned (.tuple #[(judgeL op l).1.val, .int .i64 (judgeL op l).2]) ∧ Below w.heap.size w w' := by
  have hlen := h.1
  have hcap := h.2.2.1
  have hle := h.2.1
  unfold maxLen at hcap
  have HV := Lib.hid h
  have HL := Lib.hid hlen
  have HR := Lib.hid hR
  clear h hlen hR
  go_enter Try.func91, Try.ntmps91
  go_wp2_with fail
  go_loopw [6, 11] (fun o i wr => ∃ (k : Nat) (m : Int), k ≤ n ∧ i = .int .i64 k ∧ o = .int .i64 m ∧ KindTo l k m ∧ Bx wr w.heap.size 0 0 ⟨#[]⟩ ∧ Below w.heap.size w wr) (fun _ i _ => n - (intOf i).toNat)
  case atStart => exact ⟨0, 0, Nat.zero_le _, rfl, rfl, ⟨rfl, rfl, Int.le_refl _, Int.le_refl _⟩, Bx.made _ _ _ _, below1 _ _⟩
  case round =>
    obtain ⟨k, m, hk, rfl, rfl, ht, hbx, hb⟩ := hrel
    have HT := Lib.hid ht
    have HB := Lib.hid hb
    have HX := Lib.hid hbx
    have m0 := ht.2.2.1
    have m1 := ht.2.2.2
    by_cases hlt : k < n
    · obtain ⟨b, o, x, rfl, hbB, hx, hok, x0, x1, x2⟩ := (HV.out.below (hb.mono hB)).at_ hlt
      obtain ⟨kx, nx, sx⟩ := x
      have HI := Lib.hid hx
      have D1 := Lib.hid (hb.alloc hb.size (.cells #[.int .i64 kx, .int .i64 nx, .string sx] 42))
      have R1 := Lib.hid (hbx.alloc (.cells #[.int .i64 kx, .int .i64 nx, .string sx] 42))
      have hr := HR.out _ (List.mem_of_getElem? hx)
      have HRX := Lib.hid hr
      have c0 := R1.out.c3
      have f0 := R1.out.fz
      by_cases h1 : kx = 1
      · subst h1
        have hn := truth_n hr rfl
        have hw : IntKind.i64.wrap (m + nx) = m + nx := IntWalk.i64_in _ (by have : nx = 0 ∨ nx = 1 := hn; omega)
        clear ht hb hx hok hbx hr hn
        go_wp2_with fail
        go_roundw
        case rel => exact ⟨k + 1, m + nx, by omega, by go_num, rfl, HT.out.step HI.out HRX.out rfl, R1.out, D1.out⟩
        case measure => simp [intOf]; omega
      · have hne : (kx != 1) = true := by rw [bne_iff_ne]; exact h1
        have H1 := Lib.hid h1
        clear ht hb hx hok hbx hr h1
        go_wp2_with fail
        try simp only [Exit.inBlock, Exit.then]
        refine bodyPost_ret (box_ret2 rfl rfl rfl (R1.out.put _ _ _)) rfl ?_
        exact ⟨ret_v (judge_bad (kinds_bad HI.out H1.out)), below_put D1.out (Nat.le_refl _) _ _ _⟩
    · obtain rfl : k = n := by omega
      have hj := judge_ok (op := op) HT.out HL.out
      clear ht hb hbx
      by_cases h11 : op = 11
      · subst h11
        rw [if_pos rfl] at hj
        have HJ := Lib.hid hj
        clear hj
        have c0 := HX.out.c3
        go_wp2_with fail
        refine (ftruth_any _ _).mono ?_
        rintro e w1 ⟨rfl, hb1⟩
        have R1 := Lib.hid (HX.out.then_ hb1)
        have D1 := Lib.hid (below_step HB.out hb1)
        have c := R1.out.c3
        have f := R1.out.fz
        clear hb1 c0
        go_wp2_with fail
        try simp only [Exit.inBlock, Exit.then]
        refine bodyPost_ret (box_ret2 rfl rfl rfl (R1.out.put _ _ _)) rfl ?_
        exact ⟨ret_v (HJ.out.trans (by first | rfl | rw [eq_dec] | rfl)), below_put D1.out (Nat.le_refl _) _ _ _⟩
      · have h11' : (op == 11) = false := by rw [beq_eq_false_iff_ne]; exact h11
        rw [if_neg h11] at hj
        by_cases h12 : op = 12
        · subst h12
          rw [if_pos rfl] at hj
          have HJ := Lib.hid hj
          clear hj h11
          have c0 := HX.out.c3
          go_wp2_with fail
          refine (ftruth_any _ _).mono ?_
          rintro e w1 ⟨rfl, hb1⟩
          have R1 := Lib.hid (HX.out.then_ hb1)
          have D1 := Lib.hid (below_step HB.out hb1)
          have c := R1.out.c3
          have f := R1.out.fz
          clear hb1 c0
          go_wp2_with fail
          try simp only [Exit.inBlock, Exit.then]
          refine bodyPost_ret (box_ret2 rfl rfl rfl (R1.out.put _ _ _)) rfl ?_
          exact ⟨ret_v (HJ.out.trans (by first | rfl | rw [eq_dec] | rfl)), below_put D1.out (Nat.le_refl _) _ _ _⟩
        · have h12' : (op == 12) = false := by rw [beq_eq_false_iff_ne]; exact h12
          rw [if_neg h12] at hj
          have HJ := Lib.hid hj
          clear hj h11 h12
          have c0 := HX.out.c3
          go_wp2_with fail
          refine (ftruth_any _ _).mono ?_
          rintro e w1 ⟨rfl, hb1⟩
          have R1 := Lib.hid (HX.out.then_ hb1)
          have D1 := Lib.hid (below_step HB.out hb1)
          have c := R1.out.c3
          have f := R1.out.fz
          clear hb1 c0
          go_wp2_with fail
          try simp only [Exit.inBlock, Exit.then]
          refine bodyPost_ret (box_ret2 rfl rfl rfl (R1.out.put _ _ _)) rfl ?_
          exact ⟨ret_v (HJ.out.trans (by first | rfl | rw [eq_dec] | rfl)), below_put D1.out (Nat.le_refl _) _ _ _⟩
end Go.Proofs.Ytmpldpfgnakbkaa
/- Package fun: number, reckon, Call. -/
namespace Go.Proofs.Ytmpldpfgnakbkaa
set_option linter.unusedVariables false
open Go.RowKit Go.Sort

theorem num_is {f a b x e : Int} {w : World} {id : FuncId} {p : Int × Int} (hp : p = (x, e)) (h : Calls Try.prog id #[.int .i64 a, .int .i64 b] w fun z w' => z = .returned (.tuple #[.int .i64 p.1, .int .i64 p.2]) ∧ w = w') :
    Calls Try.prog id #[.int .i64 a, .int .i64 b] w fun z w' => z = .returned (.tuple #[.int .i64 x, .int .i64 e]) ∧ w = w' := by rwa [hp] at h
theorem pair_is {id : FuncId} {args : Array Value} {w : World} {P : Vl × Int} {k n e : Int} {s : ByteArray} (hp : P = (⟨k, n, s⟩, e)) (h : Calls Try.prog id args w fun z w' => z = .returned (.tuple #[P.1.val, .int .i64 P.2]) ∧ Below w.heap.size w w') :
    Calls Try.prog id args w fun z w' => z = .returned (.tuple #[.agg #[.int .i64 k, .int .i64 n, .string s], .int .i64 e]) ∧ Below w.heap.size w w' := by
  rw [hp] at h
  exact h
theorem pair_of (P : Vl × Int) : ∃ k n s e, P = (⟨k, n, s⟩, e) := ⟨_, _, _, _, rfl⟩
theorem number_any (op a b x e : Int) (ho : op = 8 ∨ op = 9 ∨ op = 10) (ha : In64 a) (hb : In64 b) (hx : fits (opF op a b) = (x, e)) (w : World) :
    Calls Try.prog 94 #[.int .i64 op, .int .i64 a, .int .i64 b] w fun z w' => z = .returned (.tuple #[.int .i64 x, .int .i64 e]) ∧ w = w' := by
  rcases ho with rfl | rfl | rfl
  · have C := Lib.hid (fun w => num_is (f := 0) hx (add_any a b ha hb w))
    clear ha hb hx
    go_enter Try.func94, Try.ntmps94
    go_wp2_with fail
    refine (C.out _).mono ?_
    rintro z w' ⟨rfl, rfl⟩
    go_wp2_with fail
    go_ret2
    exact ⟨rfl, rfl⟩
  · have C := Lib.hid (fun w => num_is (f := 0) hx (sub_any a b ha hb w))
    clear ha hb hx
    go_enter Try.func94, Try.ntmps94
    go_wp2_with fail
    refine (C.out _).mono ?_
    rintro z w' ⟨rfl, rfl⟩
    go_wp2_with fail
    go_ret2
    exact ⟨rfl, rfl⟩
  · have C := Lib.hid (fun w => num_is (f := 0) hx (mul_any a b ha hb w))
    clear ha hb hx
    go_enter Try.func94, Try.ntmps94
    go_wp2_with fail
    refine (C.out _).mono ?_
    rintro z w' ⟨rfl, rfl⟩
    go_wp2_with fail
    go_ret2
    exact ⟨rfl, rfl⟩

set_option maxHeartbeats 1600000 in
theorem reckon_any (op : Int) (a b : Vl) (ho : op = 8 ∨ op = 9 ∨ op = 10) (ha : In64 a.n) (hb : In64 b.n) (w : World) :
    Calls Try.prog 90 #[.int .i64 op, a.val, b.val] w fun z w' => z = .returned (.tuple #[(reckV op a b).1.val, .int .i64 (reckV op a b).2]) ∧ Below w.heap.size w w' := by
  obtain ⟨x, e, hx⟩ : ∃ x e, fits (opF op a.n b.n) = (x, e) := ⟨_, _, rfl⟩
  have C := Lib.hid (number_any op a.n b.n x e ho ha hb hx)
  have HR : Hid (a.k = 2 → b.k = 2 → reckV op a b = if e = 0 then (numV x, 0) else (noneV, e)) := fun h1 h2 => by
    unfold reckV; rw [if_pos ⟨h1, h2⟩, hx]; rfl
  have HN : Hid (¬ (a.k = 2 ∧ b.k = 2) → reckV op a b = (noneV, 2)) := fun h => if_neg h
  clear ha hb hx ho
  generalize reckV op a b = R at *
  obtain ⟨k, n, s⟩ := a
  obtain ⟨k', n', s'⟩ := b
  show Calls _ _ #[_, .agg #[.int .i64 k, .int .i64 n, .string s], .agg #[.int .i64 k', .int .i64 n', .string s']] w _
  by_cases h1 : k = 2
  · by_cases h2 : k' = 2
    · subst h1 h2
      have hr := HR.out rfl rfl
      by_cases he : e = 0
      · subst he
        rw [if_pos rfl] at hr
        have HQ := Lib.hid hr
        clear hr HR HN
        go_enter Try.func90, Try.ntmps90
        go_wp2_with fail
        refine (C.out _).mono ?_
        rintro z w' ⟨rfl, rfl⟩
        go_wp2_with fail
        try simp only [Exit.inBlock, Exit.then]
        refine bodyPost_ret (box_ret2 rfl rfl rfl (box3 _ _ _ _ _ _)) rfl ?_
        exact ⟨ret_v HQ.out, below3 (Below.refl _ _)⟩
      · have he' : (e != 0) = true := by rw [bne_iff_ne]; exact he
        rw [if_neg he] at hr
        have HQ := Lib.hid hr
        clear hr HR HN he
        go_enter Try.func90, Try.ntmps90
        go_wp2_with fail
        refine (C.out _).mono ?_
        rintro z w' ⟨rfl, rfl⟩
        go_wp2_with fail
        try simp only [Exit.inBlock, Exit.then]
        refine bodyPost_ret (box_ret2 rfl rfl rfl (box3 _ _ _ _ _ _)) rfl ?_
        exact ⟨ret_v HQ.out, below3 (Below.refl _ _)⟩
    · have hk : (k' != 2) = true := by rw [bne_iff_ne]; exact h2
      subst h1
      have HQ := Lib.hid (HN.out fun h => h2 h.2)
      clear HR HN h2
      go_enter Try.func90, Try.ntmps90
      go_wp2_with fail
      try simp only [Exit.inBlock, Exit.then]
      refine bodyPost_ret (box_ret2 rfl rfl rfl (box3 _ _ _ _ _ _)) rfl ?_
      exact ⟨ret_v HQ.out, below3 (Below.refl _ _)⟩
  · have hk : (k != 2) = true := by rw [bne_iff_ne]; exact h1
    have HQ := Lib.hid (HN.out fun h => h1 h.1)
    clear HR HN h1
    go_enter Try.func90, Try.ntmps90
    go_wp2_with fail
    try simp only [Exit.inBlock, Exit.then]
    refine bodyPost_ret (box_ret2 rfl rfl rfl (box3 _ _ _ _ _ _)) rfl ?_
    exact ⟨ret_v HQ.out, below3 (Below.refl _ _)⟩

theorem known_is {op : Int} {b : Bool} (h : decide (6 ≤ op ∧ op ≤ 13) = b) (w : World) : Calls Try.prog 86 #[.int .i64 op] w fun e w' => e = .returned (.bool b) ∧ w = w' := by
  have := known_any op w
  rwa [h] at this
theorem takes_is {op : Int} {m : Int} (h : (needs op : Int) = m) (w : World) : Calls Try.prog 87 #[.int .i64 op] w fun e w' => e = .returned (.int .i64 m) ∧ w = w' := by
  have := ftakes_any op w
  rwa [h] at this
theorem allright_is {w : World} {B n c : Nat} {A : Option Addr} {l : List Vl} {b : Bool} (hb : allR l = b) (h : Vs w B A n c l) (hB : B ≤ w.heap.size) :
    Calls Try.prog 85 #[.slice A n c] w fun e w' => e = .returned (.bool b) ∧ Below w.heap.size w w' := by
  have := allright_any h hB
  rwa [hb] at this
/-- The list behind a block that is new. -/
theorem Vs.new {w : World} {B n c : Nat} {A : Option Addr} {l : List Vl} (h : Vs w B A n c l) (hB : B ≤ w.heap.size) (x : Obj) : Vs (w.alloc x) B A n c l := h.keep fun k hk => Below.heap_alloc w x k (by omega)

set_option maxHeartbeats 3200000 in
set_option maxRecDepth 100000 in
theorem call_bad1 {w : World} {B n c : Nat} {A : Option Addr} {l : List Vl} (h : Vs w B A n c l) (hB : B ≤ w.heap.size) (hn : n ≤ 1000000) (op : Int) (ha : allR l = false) :
    Calls Try.prog 81 #[.int .i64 op, .slice A n c] w fun e w' => e = .returned (.tuple #[(callV op l).1.val, .int .i64 (callV op l).2]) ∧ Below w.heap.size w w' := by
  have hlen := h.1
  have hcap := h.2.2.1
  have hle := h.2.1
  unfold maxLen at hcap
  have HV := Lib.hid (h.new hB (.cells #[.int .i64 0, .int .i64 0, .string ⟨#[]⟩] 42))
  have HBS : Hid (B ≤ (w.alloc (.cells #[.int .i64 0, .int .i64 0, .string ⟨#[]⟩] 42)).heap.size) := by show _ ≤ _; rw [size_al]; omega
  have HL := Lib.hid hlen
  have HA := Lib.hid ha
  have HQ := Lib.hid (call_bad (op := op) ha)
  clear ha h hlen hB
  go_enter Try.func81, Try.ntmps81
  go_wp2_with fail
  refine (allright_is HA.out HV.out HBS.out).mono ?_
  rintro e w1 ⟨rfl, hb1⟩
  have R1 := Lib.hid ((Bx.made w 0 0 ⟨#[]⟩).then_ hb1)
  have D1 := Lib.hid (Below.lit hb1)
  have V1 := Lib.hid ((HV.out.more HBS.out).then_ hb1)
  have c0 := R1.out.c3
  have f0 := R1.out.fz
  clear hb1
  go_wp2_with fail
  try simp only [Exit.inBlock, Exit.then]
  refine bodyPost_ret (box_ret2 rfl rfl rfl (R1.out.put _ _ _)) rfl ?_
  exact ⟨ret_v HQ.out, below_put D1.out (Nat.le_refl _) _ _ _⟩

set_option maxHeartbeats 3200000 in
set_option maxRecDepth 100000 in
theorem call_bad2 {w : World} {B n c : Nat} {A : Option Addr} {l : List Vl} (h : Vs w B A n c l) (hB : B ≤ w.heap.size) (hn : n ≤ 1000000) (op : Int) (ha : allR l = true) (hk : ¬ (6 ≤ op ∧ op ≤ 13)) :
    Calls Try.prog 81 #[.int .i64 op, .slice A n c] w fun e w' => e = .returned (.tuple #[(callV op l).1.val, .int .i64 (callV op l).2]) ∧ Below w.heap.size w w' := by
  have hlen := h.1
  have hcap := h.2.2.1
  have hle := h.2.1
  unfold maxLen at hcap
  have HV := Lib.hid (h.new hB (.cells #[.int .i64 0, .int .i64 0, .string ⟨#[]⟩] 42))
  have HBS : Hid (B ≤ (w.alloc (.cells #[.int .i64 0, .int .i64 0, .string ⟨#[]⟩] 42)).heap.size) := by show _ ≤ _; rw [size_al]; omega
  have HL := Lib.hid hlen
  have HA := Lib.hid ha
  have HQ := Lib.hid (call_op (l := l) hk)
  have HK := Lib.hid (decide_eq_false hk)
  clear ha h hlen hB hk
  go_enter Try.func81, Try.ntmps81
  go_wp2_with fail
  refine (allright_is HA.out HV.out HBS.out).mono ?_
  rintro e w1 ⟨rfl, hb1⟩
  have R1 := Lib.hid ((Bx.made w 0 0 ⟨#[]⟩).then_ hb1)
  have D1 := Lib.hid (Below.lit hb1)
  have V1 := Lib.hid ((HV.out.more HBS.out).then_ hb1)
  have c0 := R1.out.c3
  have f0 := R1.out.fz
  clear hb1
  go_wp2_with fail
  refine (known_is HK.out _).mono ?_
  rintro e w' ⟨rfl, rfl⟩
  go_wp2_with fail
  try simp only [Exit.inBlock, Exit.then]
  refine bodyPost_ret (box_ret2 rfl rfl rfl (R1.out.put _ _ _)) rfl ?_
  exact ⟨ret_v HQ.out, below_put D1.out (Nat.le_refl _) _ _ _⟩

set_option maxHeartbeats 3200000 in
set_option maxRecDepth 100000 in
theorem call_bad3 {w : World} {B n c : Nat} {A : Option Addr} {l : List Vl} (h : Vs w B A n c l) (hB : B ≤ w.heap.size) (hn : n ≤ 1000000) (op : Int) (ha : allR l = true) (hk : 6 ≤ op ∧ op ≤ 13) (hl : l.length ≠ needs op) :
    Calls Try.prog 81 #[.int .i64 op, .slice A n c] w fun e w' => e = .returned (.tuple #[(callV op l).1.val, .int .i64 (callV op l).2]) ∧ Below w.heap.size w w' := by
  have hlen := h.1
  have hcap := h.2.2.1
  have hle := h.2.1
  unfold maxLen at hcap
  have HV := Lib.hid (h.new hB (.cells #[.int .i64 0, .int .i64 0, .string ⟨#[]⟩] 42))
  have HBS : Hid (B ≤ (w.alloc (.cells #[.int .i64 0, .int .i64 0, .string ⟨#[]⟩] 42)).heap.size) := by show _ ≤ _; rw [size_al]; omega
  have HL := Lib.hid hlen
  have HA := Lib.hid ha
  have HQ := Lib.hid (call_len hl)
  have HK := Lib.hid (decide_eq_true hk)
  obtain ⟨m, hm⟩ : ∃ m : Int, (needs op : Int) = m := ⟨_, rfl⟩
  have HT := Lib.hid hm
  have hne : ((n : Int) != m) = true := by rw [bne_iff_ne]; omega
  clear ha h hlen hB hk hl hm
  go_enter Try.func81, Try.ntmps81
  go_wp2_with fail
  refine (allright_is HA.out HV.out HBS.out).mono ?_
  rintro e w1 ⟨rfl, hb1⟩
  have R1 := Lib.hid ((Bx.made w 0 0 ⟨#[]⟩).then_ hb1)
  have D1 := Lib.hid (Below.lit hb1)
  have V1 := Lib.hid ((HV.out.more HBS.out).then_ hb1)
  have c0 := R1.out.c3
  have f0 := R1.out.fz
  clear hb1
  go_wp2_with fail
  refine (known_is HK.out _).mono ?_
  rintro e w' ⟨rfl, rfl⟩
  go_wp2_with fail
  refine (takes_is HT.out _).mono ?_
  rintro e w' ⟨rfl, rfl⟩
  go_wp2_with fail
  try simp only [Exit.inBlock, Exit.then]
  refine bodyPost_ret (box_ret2 rfl rfl rfl (R1.out.put _ _ _)) rfl ?_
  exact ⟨ret_v HQ.out, below_put D1.out (Nat.le_refl _) _ _ _⟩

theorem two_of {l : List Vl} (h : l.length = 2) : ∃ a b, l = [a, b] := by
  match l, h with
  | [a, b], _ => exact ⟨a, b, rfl⟩
theorem one_of {l : List Vl} (h : l.length = 1) : ∃ a, l = [a] := by
  match l, h with
  | [a], _ => exact ⟨a, rfl⟩

set_option maxHeartbeats 3200000 in
set_option maxRecDepth 100000 in
theorem call_6 {w : World} {B c : Nat} {A : Option Addr} {a b : Vl} (h : Vs w B A 2 c [a, b]) (hB : B ≤ w.heap.size) (ha : allR [a, b] = true) :
    Calls Try.prog 81 #[.int .i64 6, .slice A 2 c] w fun e w' => e = .returned (.tuple #[(callV 6 [a, b]).1.val, .int .i64 (callV 6 [a, b]).2]) ∧ Below w.heap.size w w' := by
  have hlen := h.1
  have hcap := h.2.2.1
  have hle := h.2.1
  unfold maxLen at hcap
  have HV := Lib.hid (h.new hB (.cells #[.int .i64 0, .int .i64 0, .string ⟨#[]⟩] 42))
  have HBS : Hid (B ≤ (w.alloc (.cells #[.int .i64 0, .int .i64 0, .string ⟨#[]⟩] 42)).heap.size) := by show _ ≤ _; rw [size_al]; omega
  have HL := Lib.hid hlen
  have HA := Lib.hid ha
  have hq : callV 6 [a, b] = sameV a b := (call_ok ha (by decide) rfl).trans rfl
  obtain ⟨rk, rn, rs, re, hp⟩ := pair_of (sameV a b)
  have HQ := Lib.hid (hq.trans hp)
  have HP := Lib.hid hp
  have OA := Lib.hid (h.2.2.2.2 a (by simp))
  have OB := Lib.hid (h.2.2.2.2 b (by simp))
  have RA := Lib.hid (allR_iff.1 ha a (by simp))
  have RB := Lib.hid (allR_iff.1 ha b (by simp))
  have HK : Hid (decide (6 ≤ (6 : Int) ∧ (6 : Int) ≤ 13) = true) := by show _ = _; decide
  have HT : Hid ((needs 6 : Int) = 2) := rfl
  clear ha h hlen hB hq hp
  generalize callV 6 [a, b] = RR at *
  go_enter Try.func81, Try.ntmps81
  go_wp2_with fail
  refine (allright_is HA.out HV.out HBS.out).mono ?_
  rintro e w1 ⟨rfl, hb1⟩
  have R1 := Lib.hid ((Bx.made w 0 0 ⟨#[]⟩).then_ hb1)
  have D1 := Lib.hid (Below.lit hb1)
  have V1 := Lib.hid ((HV.out.more HBS.out).then_ hb1)
  have c0 := R1.out.c3
  have f0 := R1.out.fz
  clear hb1
  go_wp2_with fail
  refine (known_is HK.out _).mono ?_
  rintro e w' ⟨rfl, rfl⟩
  go_wp2_with fail
  refine (takes_is HT.out _).mono ?_
  rintro e w' ⟨rfl, rfl⟩
  obtain ⟨b0, o0, x, hA, hbB, hx, hok, x0, x1, x2⟩ := V1.out.at_ (k := 0) (by omega)
  subst hA
  obtain ⟨b1, o1, y, hA', _, hy, _, y0, y1, y2⟩ := V1.out.at_ (k := 1) (by omega)
  injection hA' with hA'
  injection hA' with e1 e2
  subst e1 e2
  obtain rfl : a = x := Option.some.inj hx
  obtain rfl : b = y := Option.some.inj hy
  simp only [Nat.zero_mul, Nat.one_mul, Nat.add_zero] at x0 x1 x2 y0 y1 y2
  clear hx hy hok
  have QC := Lib.hid (fun d os => Calls.regrown_of (w := w1) (d := d) (os := os) (pair_is HP.out (same_any a b (grow (redrawn w1 d) os))))
  obtain ⟨k, n, s⟩ := a
  obtain ⟨k', n', s'⟩ := b
  go_wp2_with fail
  have z0 := fun d os => cell_regrown x0 d os
  have z1 := fun d os => cell_regrown x1 d os
  have z2 := fun d os => cell_regrown x2 d os
  have z3 := fun d os => cell_regrown y0 d os
  have z4 := fun d os => cell_regrown y1 d os
  have z5 := fun d os => cell_regrown y2 d os
  refine wp_region_below_tail 9 (by kernel_rfl) (by kernel_rfl) ?_
  simp only [List.take_succ_cons, List.take_zero, List.drop_succ_cons, List.drop_zero]
  repeat (go_big_quiet_step ((go_at_call 88; exact QC.out _ _)))
  refine wpQuiet_nil ?_
  intro _ hw'
  obtain ⟨⟨dq, osq⟩, hw''⟩ := hw'
  subst hw''
  have hbel := below_regrown w1 dq osq
  have R3 := Lib.hid (R1.out.then_ hbel)
  have D3 := Lib.hid (below_step D1.out hbel)
  clear hbel c0 f0 R1 D1 z0 z1 z2 z3 z4 z5 QC
  have c0 := R3.out.c3
  have f0 := R3.out.fz
  go_wp2_with fail
  try simp only [Exit.inBlock, Exit.then]
  refine bodyPost_ret (box_ret2 rfl rfl rfl (R3.out.put _ _ _)) rfl ?_
  exact ⟨ret_v HQ.out, below_put D3.out (Nat.le_refl _) _ _ _⟩

set_option maxHeartbeats 3200000 in
set_option maxRecDepth 100000 in
theorem call_7 {w : World} {B c : Nat} {A : Option Addr} {a b : Vl} (h : Vs w B A 2 c [a, b]) (hB : B ≤ w.heap.size) (ha : allR [a, b] = true) :
    Calls Try.prog 81 #[.int .i64 7, .slice A 2 c] w fun e w' => e = .returned (.tuple #[(callV 7 [a, b]).1.val, .int .i64 (callV 7 [a, b]).2]) ∧ Below w.heap.size w w' := by
  have hlen := h.1
  have hcap := h.2.2.1
  have hle := h.2.1
  unfold maxLen at hcap
  have HV := Lib.hid (h.new hB (.cells #[.int .i64 0, .int .i64 0, .string ⟨#[]⟩] 42))
  have HBS : Hid (B ≤ (w.alloc (.cells #[.int .i64 0, .int .i64 0, .string ⟨#[]⟩] 42)).heap.size) := by show _ ≤ _; rw [size_al]; omega
  have HL := Lib.hid hlen
  have HA := Lib.hid ha
  have hq : callV 7 [a, b] = lessV a b := (call_ok ha (by decide) rfl).trans rfl
  obtain ⟨rk, rn, rs, re, hp⟩ := pair_of (lessV a b)
  have HQ := Lib.hid (hq.trans hp)
  have HP := Lib.hid hp
  have OA := Lib.hid (h.2.2.2.2 a (by simp))
  have OB := Lib.hid (h.2.2.2.2 b (by simp))
  have RA := Lib.hid (allR_iff.1 ha a (by simp))
  have RB := Lib.hid (allR_iff.1 ha b (by simp))
  have HK : Hid (decide (6 ≤ (7 : Int) ∧ (7 : Int) ≤ 13) = true) := by show _ = _; decide
  have HT : Hid ((needs 7 : Int) = 2) := rfl
  clear ha h hlen hB hq hp
  generalize callV 7 [a, b] = RR at *
  go_enter Try.func81, Try.ntmps81
  go_wp2_with fail
  refine (allright_is HA.out HV.out HBS.out).mono ?_
  rintro e w1 ⟨rfl, hb1⟩
  have R1 := Lib.hid ((Bx.made w 0 0 ⟨#[]⟩).then_ hb1)
  have D1 := Lib.hid (Below.lit hb1)
  have V1 := Lib.hid ((HV.out.more HBS.out).then_ hb1)
  have c0 := R1.out.c3
  have f0 := R1.out.fz
  clear hb1
  go_wp2_with fail
  refine (known_is HK.out _).mono ?_
  rintro e w' ⟨rfl, rfl⟩
  go_wp2_with fail
  refine (takes_is HT.out _).mono ?_
  rintro e w' ⟨rfl, rfl⟩
  obtain ⟨b0, o0, x, hA, hbB, hx, hok, x0, x1, x2⟩ := V1.out.at_ (k := 0) (by omega)
  subst hA
  obtain ⟨b1, o1, y, hA', _, hy, _, y0, y1, y2⟩ := V1.out.at_ (k := 1) (by omega)
  injection hA' with hA'
  injection hA' with e1 e2
  subst e1 e2
  obtain rfl : a = x := Option.some.inj hx
  obtain rfl : b = y := Option.some.inj hy
  simp only [Nat.zero_mul, Nat.one_mul, Nat.add_zero] at x0 x1 x2 y0 y1 y2
  clear hx hy hok
  have QC := Lib.hid (fun d os => Calls.regrown_of (w := w1) (d := d) (os := os) (pair_is HP.out (fless_any a b OA.out.2.2 OB.out.2.2 (grow (redrawn w1 d) os))))
  obtain ⟨k, n, s⟩ := a
  obtain ⟨k', n', s'⟩ := b
  go_wp2_with fail
  have z0 := fun d os => cell_regrown x0 d os
  have z1 := fun d os => cell_regrown x1 d os
  have z2 := fun d os => cell_regrown x2 d os
  have z3 := fun d os => cell_regrown y0 d os
  have z4 := fun d os => cell_regrown y1 d os
  have z5 := fun d os => cell_regrown y2 d os
  refine wp_region_below_tail 9 (by kernel_rfl) (by kernel_rfl) ?_
  simp only [List.take_succ_cons, List.take_zero, List.drop_succ_cons, List.drop_zero]
  repeat (go_big_quiet_step ((go_at_call 89; exact QC.out _ _)))
  refine wpQuiet_nil ?_
  intro _ hw'
  obtain ⟨⟨dq, osq⟩, hw''⟩ := hw'
  subst hw''
  have hbel := below_regrown w1 dq osq
  have R3 := Lib.hid (R1.out.then_ hbel)
  have D3 := Lib.hid (below_step D1.out hbel)
  clear hbel c0 f0 R1 D1 z0 z1 z2 z3 z4 z5 QC
  have c0 := R3.out.c3
  have f0 := R3.out.fz
  go_wp2_with fail
  try simp only [Exit.inBlock, Exit.then]
  refine bodyPost_ret (box_ret2 rfl rfl rfl (R3.out.put _ _ _)) rfl ?_
  exact ⟨ret_v HQ.out, below_put D3.out (Nat.le_refl _) _ _ _⟩

set_option maxHeartbeats 3200000 in
set_option maxRecDepth 100000 in
theorem call_8 {w : World} {B c : Nat} {A : Option Addr} {a b : Vl} (h : Vs w B A 2 c [a, b]) (hB : B ≤ w.heap.size) (ha : allR [a, b] = true) :
    Calls Try.prog 81 #[.int .i64 8, .slice A 2 c] w fun e w' => e = .returned (.tuple #[(callV 8 [a, b]).1.val, .int .i64 (callV 8 [a, b]).2]) ∧ Below w.heap.size w w' := by
  have hlen := h.1
  have hcap := h.2.2.1
  have hle := h.2.1
  unfold maxLen at hcap
  have HV := Lib.hid (h.new hB (.cells #[.int .i64 0, .int .i64 0, .string ⟨#[]⟩] 42))
  have HBS : Hid (B ≤ (w.alloc (.cells #[.int .i64 0, .int .i64 0, .string ⟨#[]⟩] 42)).heap.size) := by show _ ≤ _; rw [size_al]; omega
  have HL := Lib.hid hlen
  have HA := Lib.hid ha
  have hq : callV 8 [a, b] = reckV 8 a b := (call_ok ha (by decide) rfl).trans rfl
  obtain ⟨rk, rn, rs, re, hp⟩ := pair_of (reckV 8 a b)
  have HQ := Lib.hid (hq.trans hp)
  have HP := Lib.hid hp
  have OA := Lib.hid (h.2.2.2.2 a (by simp))
  have OB := Lib.hid (h.2.2.2.2 b (by simp))
  have RA := Lib.hid (allR_iff.1 ha a (by simp))
  have RB := Lib.hid (allR_iff.1 ha b (by simp))
  have HK : Hid (decide (6 ≤ (8 : Int) ∧ (8 : Int) ≤ 13) = true) := by show _ = _; decide
  have HT : Hid ((needs 8 : Int) = 2) := rfl
  clear ha h hlen hB hq hp
  generalize callV 8 [a, b] = RR at *
  go_enter Try.func81, Try.ntmps81
  go_wp2_with fail
  refine (allright_is HA.out HV.out HBS.out).mono ?_
  rintro e w1 ⟨rfl, hb1⟩
  have R1 := Lib.hid ((Bx.made w 0 0 ⟨#[]⟩).then_ hb1)
  have D1 := Lib.hid (Below.lit hb1)
  have V1 := Lib.hid ((HV.out.more HBS.out).then_ hb1)
  have c0 := R1.out.c3
  have f0 := R1.out.fz
  clear hb1
  go_wp2_with fail
  refine (known_is HK.out _).mono ?_
  rintro e w' ⟨rfl, rfl⟩
  go_wp2_with fail
  refine (takes_is HT.out _).mono ?_
  rintro e w' ⟨rfl, rfl⟩
  obtain ⟨b0, o0, x, hA, hbB, hx, hok, x0, x1, x2⟩ := V1.out.at_ (k := 0) (by omega)
  subst hA
  obtain ⟨b1, o1, y, hA', _, hy, _, y0, y1, y2⟩ := V1.out.at_ (k := 1) (by omega)
  injection hA' with hA'
  injection hA' with e1 e2
  subst e1 e2
  obtain rfl : a = x := Option.some.inj hx
  obtain rfl : b = y := Option.some.inj hy
  simp only [Nat.zero_mul, Nat.one_mul, Nat.add_zero] at x0 x1 x2 y0 y1 y2
  clear hx hy hok
  have QC := Lib.hid (fun d os => Calls.regrown_of (w := w1) (d := d) (os := os) (pair_is HP.out (reckon_any 8 a b (.inl rfl) OA.out.2.1 OB.out.2.1 (grow (redrawn w1 d) os))))
  obtain ⟨k, n, s⟩ := a
  obtain ⟨k', n', s'⟩ := b
  go_wp2_with fail
  have z0 := fun d os => cell_regrown x0 d os
  have z1 := fun d os => cell_regrown x1 d os
  have z2 := fun d os => cell_regrown x2 d os
  have z3 := fun d os => cell_regrown y0 d os
  have z4 := fun d os => cell_regrown y1 d os
  have z5 := fun d os => cell_regrown y2 d os
  refine wp_region_below_tail 10 (by kernel_rfl) (by kernel_rfl) ?_
  simp only [List.take_succ_cons, List.take_zero, List.drop_succ_cons, List.drop_zero]
  repeat (go_big_quiet_step ((go_at_call 90; exact QC.out _ _)))
  refine wpQuiet_nil ?_
  intro _ hw'
  obtain ⟨⟨dq, osq⟩, hw''⟩ := hw'
  subst hw''
  have hbel := below_regrown w1 dq osq
  have R3 := Lib.hid (R1.out.then_ hbel)
  have D3 := Lib.hid (below_step D1.out hbel)
  clear hbel c0 f0 R1 D1 z0 z1 z2 z3 z4 z5 QC
  have c0 := R3.out.c3
  have f0 := R3.out.fz
  go_wp2_with fail
  try simp only [Exit.inBlock, Exit.then]
  refine bodyPost_ret (box_ret2 rfl rfl rfl (R3.out.put _ _ _)) rfl ?_
  exact ⟨ret_v HQ.out, below_put D3.out (Nat.le_refl _) _ _ _⟩

set_option maxHeartbeats 3200000 in
set_option maxRecDepth 100000 in
theorem call_9 {w : World} {B c : Nat} {A : Option Addr} {a b : Vl} (h : Vs w B A 2 c [a, b]) (hB : B ≤ w.heap.size) (ha : allR [a, b] = true) :
    Calls Try.prog 81 #[.int .i64 9, .slice A 2 c] w fun e w' => e = .returned (.tuple #[(callV 9 [a, b]).1.val, .int .i64 (callV 9 [a, b]).2]) ∧ Below w.heap.size w w' := by
  have hlen := h.1
  have hcap := h.2.2.1
  have hle := h.2.1
  unfold maxLen at hcap
  have HV := Lib.hid (h.new hB (.cells #[.int .i64 0, .int .i64 0, .string ⟨#[]⟩] 42))
  have HBS : Hid (B ≤ (w.alloc (.cells #[.int .i64 0, .int .i64 0, .string ⟨#[]⟩] 42)).heap.size) := by show _ ≤ _; rw [size_al]; omega
  have HL := Lib.hid hlen
  have HA := Lib.hid ha
  have hq : callV 9 [a, b] = reckV 9 a b := (call_ok ha (by decide) rfl).trans rfl
  obtain ⟨rk, rn, rs, re, hp⟩ := pair_of (reckV 9 a b)
  have HQ := Lib.hid (hq.trans hp)
  have HP := Lib.hid hp
  have OA := Lib.hid (h.2.2.2.2 a (by simp))
  have OB := Lib.hid (h.2.2.2.2 b (by simp))
  have RA := Lib.hid (allR_iff.1 ha a (by simp))
  have RB := Lib.hid (allR_iff.1 ha b (by simp))
  have HK : Hid (decide (6 ≤ (9 : Int) ∧ (9 : Int) ≤ 13) = true) := by show _ = _; decide
  have HT : Hid ((needs 9 : Int) = 2) := rfl
  clear ha h hlen hB hq hp
  generalize callV 9 [a, b] = RR at *
  go_enter Try.func81, Try.ntmps81
  go_wp2_with fail
  refine (allright_is HA.out HV.out HBS.out).mono ?_
  rintro e w1 ⟨rfl, hb1⟩
  have R1 := Lib.hid ((Bx.made w 0 0 ⟨#[]⟩).then_ hb1)
  have D1 := Lib.hid (Below.lit hb1)
  have V1 := Lib.hid ((HV.out.more HBS.out).then_ hb1)
  have c0 := R1.out.c3
  have f0 := R1.out.fz
  clear hb1
  go_wp2_with fail
  refine (known_is HK.out _).mono ?_
  rintro e w' ⟨rfl, rfl⟩
  go_wp2_with fail
  refine (takes_is HT.out _).mono ?_
  rintro e w' ⟨rfl, rfl⟩
  obtain ⟨b0, o0, x, hA, hbB, hx, hok, x0, x1, x2⟩ := V1.out.at_ (k := 0) (by omega)
  subst hA
  obtain ⟨b1, o1, y, hA', _, hy, _, y0, y1, y2⟩ := V1.out.at_ (k := 1) (by omega)
  injection hA' with hA'
  injection hA' with e1 e2
  subst e1 e2
  obtain rfl : a = x := Option.some.inj hx
  obtain rfl : b = y := Option.some.inj hy
  simp only [Nat.zero_mul, Nat.one_mul, Nat.add_zero] at x0 x1 x2 y0 y1 y2
  clear hx hy hok
  have QC := Lib.hid (fun d os => Calls.regrown_of (w := w1) (d := d) (os := os) (pair_is HP.out (reckon_any 9 a b (.inr (.inl rfl)) OA.out.2.1 OB.out.2.1 (grow (redrawn w1 d) os))))
  obtain ⟨k, n, s⟩ := a
  obtain ⟨k', n', s'⟩ := b
  go_wp2_with fail
  have z0 := fun d os => cell_regrown x0 d os
  have z1 := fun d os => cell_regrown x1 d os
  have z2 := fun d os => cell_regrown x2 d os
  have z3 := fun d os => cell_regrown y0 d os
  have z4 := fun d os => cell_regrown y1 d os
  have z5 := fun d os => cell_regrown y2 d os
  refine wp_region_below_tail 10 (by kernel_rfl) (by kernel_rfl) ?_
  simp only [List.take_succ_cons, List.take_zero, List.drop_succ_cons, List.drop_zero]
  repeat (go_big_quiet_step ((go_at_call 90; exact QC.out _ _)))
  refine wpQuiet_nil ?_
  intro _ hw'
  obtain ⟨⟨dq, osq⟩, hw''⟩ := hw'
  subst hw''
  have hbel := below_regrown w1 dq osq
  have R3 := Lib.hid (R1.out.then_ hbel)
  have D3 := Lib.hid (below_step D1.out hbel)
  clear hbel c0 f0 R1 D1 z0 z1 z2 z3 z4 z5 QC
  have c0 := R3.out.c3
  have f0 := R3.out.fz
  go_wp2_with fail
  try simp only [Exit.inBlock, Exit.then]
  refine bodyPost_ret (box_ret2 rfl rfl rfl (R3.out.put _ _ _)) rfl ?_
  exact ⟨ret_v HQ.out, below_put D3.out (Nat.le_refl _) _ _ _⟩

set_option maxHeartbeats 3200000 in
set_option maxRecDepth 100000 in
theorem call_10 {w : World} {B c : Nat} {A : Option Addr} {a b : Vl} (h : Vs w B A 2 c [a, b]) (hB : B ≤ w.heap.size) (ha : allR [a, b] = true) :
    Calls Try.prog 81 #[.int .i64 10, .slice A 2 c] w fun e w' => e = .returned (.tuple #[(callV 10 [a, b]).1.val, .int .i64 (callV 10 [a, b]).2]) ∧ Below w.heap.size w w' := by
  have hlen := h.1
  have hcap := h.2.2.1
  have hle := h.2.1
  unfold maxLen at hcap
  have HV := Lib.hid (h.new hB (.cells #[.int .i64 0, .int .i64 0, .string ⟨#[]⟩] 42))
  have HBS : Hid (B ≤ (w.alloc (.cells #[.int .i64 0, .int .i64 0, .string ⟨#[]⟩] 42)).heap.size) := by show _ ≤ _; rw [size_al]; omega
  have HL := Lib.hid hlen
  have HA := Lib.hid ha
  have hq : callV 10 [a, b] = reckV 10 a b := (call_ok ha (by decide) rfl).trans rfl
  obtain ⟨rk, rn, rs, re, hp⟩ := pair_of (reckV 10 a b)
  have HQ := Lib.hid (hq.trans hp)
  have HP := Lib.hid hp
  have OA := Lib.hid (h.2.2.2.2 a (by simp))
  have OB := Lib.hid (h.2.2.2.2 b (by simp))
  have RA := Lib.hid (allR_iff.1 ha a (by simp))
  have RB := Lib.hid (allR_iff.1 ha b (by simp))
  have HK : Hid (decide (6 ≤ (10 : Int) ∧ (10 : Int) ≤ 13) = true) := by show _ = _; decide
  have HT : Hid ((needs 10 : Int) = 2) := rfl
  clear ha h hlen hB hq hp
  generalize callV 10 [a, b] = RR at *
  go_enter Try.func81, Try.ntmps81
  go_wp2_with fail
  refine (allright_is HA.out HV.out HBS.out).mono ?_
  rintro e w1 ⟨rfl, hb1⟩
  have R1 := Lib.hid ((Bx.made w 0 0 ⟨#[]⟩).then_ hb1)
  have D1 := Lib.hid (Below.lit hb1)
  have V1 := Lib.hid ((HV.out.more HBS.out).then_ hb1)
  have c0 := R1.out.c3
  have f0 := R1.out.fz
  clear hb1
  go_wp2_with fail
  refine (known_is HK.out _).mono ?_
  rintro e w' ⟨rfl, rfl⟩
  go_wp2_with fail
  refine (takes_is HT.out _).mono ?_
  rintro e w' ⟨rfl, rfl⟩
  obtain ⟨b0, o0, x, hA, hbB, hx, hok, x0, x1, x2⟩ := V1.out.at_ (k := 0) (by omega)
  subst hA
  obtain ⟨b1, o1, y, hA', _, hy, _, y0, y1, y2⟩ := V1.out.at_ (k := 1) (by omega)
  injection hA' with hA'
  injection hA' with e1 e2
  subst e1 e2
  obtain rfl : a = x := Option.some.inj hx
  obtain rfl : b = y := Option.some.inj hy
  simp only [Nat.zero_mul, Nat.one_mul, Nat.add_zero] at x0 x1 x2 y0 y1 y2
  clear hx hy hok
  have QC := Lib.hid (fun d os => Calls.regrown_of (w := w1) (d := d) (os := os) (pair_is HP.out (reckon_any 10 a b (.inr (.inr rfl)) OA.out.2.1 OB.out.2.1 (grow (redrawn w1 d) os))))
  obtain ⟨k, n, s⟩ := a
  obtain ⟨k', n', s'⟩ := b
  go_wp2_with fail
  have z0 := fun d os => cell_regrown x0 d os
  have z1 := fun d os => cell_regrown x1 d os
  have z2 := fun d os => cell_regrown x2 d os
  have z3 := fun d os => cell_regrown y0 d os
  have z4 := fun d os => cell_regrown y1 d os
  have z5 := fun d os => cell_regrown y2 d os
  refine wp_region_below_tail 10 (by kernel_rfl) (by kernel_rfl) ?_
  simp only [List.take_succ_cons, List.take_zero, List.drop_succ_cons, List.drop_zero]
  repeat (go_big_quiet_step ((go_at_call 90; exact QC.out _ _)))
  refine wpQuiet_nil ?_
  intro _ hw'
  obtain ⟨⟨dq, osq⟩, hw''⟩ := hw'
  subst hw''
  have hbel := below_regrown w1 dq osq
  have R3 := Lib.hid (R1.out.then_ hbel)
  have D3 := Lib.hid (below_step D1.out hbel)
  clear hbel c0 f0 R1 D1 z0 z1 z2 z3 z4 z5 QC
  have c0 := R3.out.c3
  have f0 := R3.out.fz
  go_wp2_with fail
  try simp only [Exit.inBlock, Exit.then]
  refine bodyPost_ret (box_ret2 rfl rfl rfl (R3.out.put _ _ _)) rfl ?_
  exact ⟨ret_v HQ.out, below_put D3.out (Nat.le_refl _) _ _ _⟩

set_option maxHeartbeats 3200000 in
set_option maxRecDepth 100000 in
theorem call_12 {w : World} {B c : Nat} {A : Option Addr} {a b : Vl} (h : Vs w B A 2 c [a, b]) (hB : B ≤ w.heap.size) (ha : allR [a, b] = true) :
    Calls Try.prog 81 #[.int .i64 12, .slice A 2 c] w fun e w' => e = .returned (.tuple #[(callV 12 [a, b]).1.val, .int .i64 (callV 12 [a, b]).2]) ∧ Below w.heap.size w w' := by
  have hlen := h.1
  have hcap := h.2.2.1
  have hle := h.2.1
  unfold maxLen at hcap
  have HV := Lib.hid (h.new hB (.cells #[.int .i64 0, .int .i64 0, .string ⟨#[]⟩] 42))
  have HBS : Hid (B ≤ (w.alloc (.cells #[.int .i64 0, .int .i64 0, .string ⟨#[]⟩] 42)).heap.size) := by show _ ≤ _; rw [size_al]; omega
  have HL := Lib.hid hlen
  have HA := Lib.hid ha
  have hq : callV 12 [a, b] = bothV 12 a b := (call_ok ha (by decide) rfl).trans rfl
  obtain ⟨rk, rn, rs, re, hp⟩ := pair_of (bothV 12 a b)
  have HQ := Lib.hid (hq.trans hp)
  have HP := Lib.hid hp
  have OA := Lib.hid (h.2.2.2.2 a (by simp))
  have OB := Lib.hid (h.2.2.2.2 b (by simp))
  have RA := Lib.hid (allR_iff.1 ha a (by simp))
  have RB := Lib.hid (allR_iff.1 ha b (by simp))
  have HK : Hid (decide (6 ≤ (12 : Int) ∧ (12 : Int) ≤ 13) = true) := by show _ = _; decide
  have HT : Hid ((needs 12 : Int) = 2) := rfl
  clear ha h hlen hB hq hp
  generalize callV 12 [a, b] = RR at *
  go_enter Try.func81, Try.ntmps81
  go_wp2_with fail
  refine (allright_is HA.out HV.out HBS.out).mono ?_
  rintro e w1 ⟨rfl, hb1⟩
  have R1 := Lib.hid ((Bx.made w 0 0 ⟨#[]⟩).then_ hb1)
  have D1 := Lib.hid (Below.lit hb1)
  have V1 := Lib.hid ((HV.out.more HBS.out).then_ hb1)
  have c0 := R1.out.c3
  have f0 := R1.out.fz
  clear hb1
  go_wp2_with fail
  refine (known_is HK.out _).mono ?_
  rintro e w' ⟨rfl, rfl⟩
  go_wp2_with fail
  refine (takes_is HT.out _).mono ?_
  rintro e w' ⟨rfl, rfl⟩
  have C := Lib.hid (pair_is ((judge_two (.inl rfl) RA.out RB.out).trans HP.out) (judge_any V1.out (Nat.le_refl _) (by omega) (allR_iff.1 HA.out) 12))
  go_wp2_with fail
  refine C.out.mono ?_
  rintro e w3 ⟨rfl, hb3⟩
  have R3 := Lib.hid (R1.out.then_ hb3)
  have D3 := Lib.hid (below_step D1.out hb3)
  clear hb3 c0 f0 R1 D1
  have c0 := R3.out.c3
  have f0 := R3.out.fz
  go_wp2_with fail
  try simp only [Exit.inBlock, Exit.then]
  refine bodyPost_ret (box_ret2 rfl rfl rfl (R3.out.put _ _ _)) rfl ?_
  exact ⟨ret_v HQ.out, below_put D3.out (Nat.le_refl _) _ _ _⟩

set_option maxHeartbeats 3200000 in
set_option maxRecDepth 100000 in
theorem call_13 {w : World} {B c : Nat} {A : Option Addr} {a b : Vl} (h : Vs w B A 2 c [a, b]) (hB : B ≤ w.heap.size) (ha : allR [a, b] = true) :
    Calls Try.prog 81 #[.int .i64 13, .slice A 2 c] w fun e w' => e = .returned (.tuple #[(callV 13 [a, b]).1.val, .int .i64 (callV 13 [a, b]).2]) ∧ Below w.heap.size w w' := by
  have hlen := h.1
  have hcap := h.2.2.1
  have hle := h.2.1
  unfold maxLen at hcap
  have HV := Lib.hid (h.new hB (.cells #[.int .i64 0, .int .i64 0, .string ⟨#[]⟩] 42))
  have HBS : Hid (B ≤ (w.alloc (.cells #[.int .i64 0, .int .i64 0, .string ⟨#[]⟩] 42)).heap.size) := by show _ ≤ _; rw [size_al]; omega
  have HL := Lib.hid hlen
  have HA := Lib.hid ha
  have hq : callV 13 [a, b] = bothV 13 a b := (call_ok ha (by decide) rfl).trans rfl
  obtain ⟨rk, rn, rs, re, hp⟩ := pair_of (bothV 13 a b)
  have HQ := Lib.hid (hq.trans hp)
  have HP := Lib.hid hp
  have OA := Lib.hid (h.2.2.2.2 a (by simp))
  have OB := Lib.hid (h.2.2.2.2 b (by simp))
  have RA := Lib.hid (allR_iff.1 ha a (by simp))
  have RB := Lib.hid (allR_iff.1 ha b (by simp))
  have HK : Hid (decide (6 ≤ (13 : Int) ∧ (13 : Int) ≤ 13) = true) := by show _ = _; decide
  have HT : Hid ((needs 13 : Int) = 2) := rfl
  clear ha h hlen hB hq hp
  generalize callV 13 [a, b] = RR at *
  go_enter Try.func81, Try.ntmps81
  go_wp2_with fail
  refine (allright_is HA.out HV.out HBS.out).mono ?_
  rintro e w1 ⟨rfl, hb1⟩
  have R1 := Lib.hid ((Bx.made w 0 0 ⟨#[]⟩).then_ hb1)
  have D1 := Lib.hid (Below.lit hb1)
  have V1 := Lib.hid ((HV.out.more HBS.out).then_ hb1)
  have c0 := R1.out.c3
  have f0 := R1.out.fz
  clear hb1
  go_wp2_with fail
  refine (known_is HK.out _).mono ?_
  rintro e w' ⟨rfl, rfl⟩
  go_wp2_with fail
  refine (takes_is HT.out _).mono ?_
  rintro e w' ⟨rfl, rfl⟩
  have C := Lib.hid (pair_is ((judge_two (.inr rfl) RA.out RB.out).trans HP.out) (judge_any V1.out (Nat.le_refl _) (by omega) (allR_iff.1 HA.out) 13))
  go_wp2_with fail
  refine C.out.mono ?_
  rintro e w3 ⟨rfl, hb3⟩
  have R3 := Lib.hid (R1.out.then_ hb3)
  have D3 := Lib.hid (below_step D1.out hb3)
  clear hb3 c0 f0 R1 D1
  have c0 := R3.out.c3
  have f0 := R3.out.fz
  go_wp2_with fail
  try simp only [Exit.inBlock, Exit.then]
  refine bodyPost_ret (box_ret2 rfl rfl rfl (R3.out.put _ _ _)) rfl ?_
  exact ⟨ret_v HQ.out, below_put D3.out (Nat.le_refl _) _ _ _⟩

set_option maxHeartbeats 3200000 in
set_option maxRecDepth 100000 in
theorem call_11 {w : World} {B c : Nat} {A : Option Addr} {a : Vl} (h : Vs w B A 1 c [a]) (hB : B ≤ w.heap.size) (ha : allR [a] = true) :
    Calls Try.prog 81 #[.int .i64 11, .slice A 1 c] w fun e w' => e = .returned (.tuple #[(callV 11 [a]).1.val, .int .i64 (callV 11 [a]).2]) ∧ Below w.heap.size w w' := by
  have hlen := h.1
  have hcap := h.2.2.1
  have hle := h.2.1
  unfold maxLen at hcap
  have HV := Lib.hid (h.new hB (.cells #[.int .i64 0, .int .i64 0, .string ⟨#[]⟩] 42))
  have HBS : Hid (B ≤ (w.alloc (.cells #[.int .i64 0, .int .i64 0, .string ⟨#[]⟩] 42)).heap.size) := by show _ ≤ _; rw [size_al]; omega
  have HL := Lib.hid hlen
  have HA := Lib.hid ha
  have hq : callV 11 [a] = notV a := (call_ok ha (by decide) rfl).trans rfl
  obtain ⟨rk, rn, rs, re, hp⟩ := pair_of (notV a)
  have HQ := Lib.hid (hq.trans hp)
  have HP := Lib.hid hp
  have OA := Lib.hid (h.2.2.2.2 a (by simp))
  have RA := Lib.hid (allR_iff.1 ha a (by simp))
  have HK : Hid (decide (6 ≤ (11 : Int) ∧ (11 : Int) ≤ 13) = true) := by show _ = _; decide
  have HT : Hid ((needs 11 : Int) = 1) := rfl
  clear ha h hlen hB hq hp
  generalize callV 11 [a] = RR at *
  go_enter Try.func81, Try.ntmps81
  go_wp2_with fail
  refine (allright_is HA.out HV.out HBS.out).mono ?_
  rintro e w1 ⟨rfl, hb1⟩
  have R1 := Lib.hid ((Bx.made w 0 0 ⟨#[]⟩).then_ hb1)
  have D1 := Lib.hid (Below.lit hb1)
  have V1 := Lib.hid ((HV.out.more HBS.out).then_ hb1)
  have c0 := R1.out.c3
  have f0 := R1.out.fz
  clear hb1
  go_wp2_with fail
  refine (known_is HK.out _).mono ?_
  rintro e w' ⟨rfl, rfl⟩
  go_wp2_with fail
  refine (takes_is HT.out _).mono ?_
  rintro e w' ⟨rfl, rfl⟩
  have C := Lib.hid (pair_is ((judge_one RA.out).trans HP.out) (judge_any V1.out (Nat.le_refl _) (by omega) (allR_iff.1 HA.out) 11))
  go_wp2_with fail
  refine C.out.mono ?_
  rintro e w3 ⟨rfl, hb3⟩
  have R3 := Lib.hid (R1.out.then_ hb3)
  have D3 := Lib.hid (below_step D1.out hb3)
  clear hb3 c0 f0 R1 D1
  have c0 := R3.out.c3
  have f0 := R3.out.fz
  go_wp2_with fail
  try simp only [Exit.inBlock, Exit.then]
  refine bodyPost_ret (box_ret2 rfl rfl rfl (R3.out.put _ _ _)) rfl ?_
  exact ⟨ret_v HQ.out, below_put D3.out (Nat.le_refl _) _ _ _⟩

theorem call_any {w : World} {B n c : Nat} {A : Option Addr} {l : List Vl} (h : Vs w B A n c l) (hB : B ≤ w.heap.size) (hn : n ≤ 1000000) (op : Int) :
    Calls Try.prog 81 #[.int .i64 op, .slice A n c] w fun e w' => e = .returned (.tuple #[(callV op l).1.val, .int .i64 (callV op l).2]) ∧ Below w.heap.size w w' := by
  cases ha : allR l with
  | false => exact call_bad1 h hB hn op ha
  | true =>
    by_cases hk : 6 ≤ op ∧ op ≤ 13
    · by_cases hl : l.length = needs op
      · have hlen := h.1
        by_cases h11 : op = 11
        · subst h11
          obtain ⟨a, rfl⟩ := one_of hl
          subst hlen
          exact call_11 h hB ha
        · have hl2 : l.length = 2 := hl.trans (if_neg h11)
          obtain ⟨a, b, rfl⟩ := two_of hl2
          subst hlen
          obtain rfl | rfl | rfl | rfl | rfl | rfl | rfl : op = 6 ∨ op = 7 ∨ op = 8 ∨ op = 9 ∨ op = 10 ∨ op = 12 ∨ op = 13 := by omega
          · exact call_6 h hB ha
          · exact call_7 h hB ha
          · exact call_8 h hB ha
          · exact call_9 h hB ha
          · exact call_10 h hB ha
          · exact call_12 h hB ha
          · exact call_13 h hB ha
      · exact call_bad3 h hB hn op ha hk hl
    · exact call_bad2 h hB hn op ha hk
end Go.Proofs.Ytmpldpfgnakbkaa
/- Has: the project's and the reference's. -/
namespace Go.Proofs.Ytmpldpfgnakbkaa
set_option linter.unusedVariables false
open Go.RowKit Go.Sort

set_option maxHeartbeats 1600000 in
theorem vhas_any {w : World} {B n c : Nat} {A : Option Addr} {l : List Vl} (h : Vs w B A n c l) (hB : B ≤ w.heap.size) (k0 n0 : Int) (s0 : ByteArray) :
    Calls Try.prog 37 #[.slice A n c, .agg #[.int .i64 k0, .int .i64 n0, .string s0]] w fun e w' => e = .returned (.bool (hasB l ⟨k0, n0, s0⟩)) ∧ Below w.heap.size w w' := by
  have hlen := h.1
  have hcap := h.2.2.1
  have hle := h.2.1
  unfold maxLen at hcap
  have hb0 := Bx.made w k0 n0 s0
  have hvs : Vs (w.alloc (.cells #[.int .i64 k0, .int .i64 n0, .string s0] 42)) B A n c l := h.keep fun k hk => Below.heap_alloc w _ k (by omega)
  have hd : Below w.heap.size w (w.alloc (.cells #[.int .i64 k0, .int .i64 n0, .string s0] 42)) := (Below.refl _ _).alloc (Nat.le_refl _) _
  have hsz := size_al w (.cells #[.int .i64 k0, .int .i64 n0, .string s0] 42)
  have H0 := Lib.hid hb0
  have HV := Lib.hid hvs
  have HD := Lib.hid hd
  have HL := Lib.hid hlen
  clear h hb0 hvs hd hlen
  generalize hw1 : w.alloc (.cells #[.int .i64 k0, .int .i64 n0, .string s0] 42) = w1 at *
  have HW := Lib.hid hw1
  clear hw1
  go_enter Try.func37, Try.ntmps37
  go_wp2_with fail
  rw [HW.out]
  go_loopw [9] (fun i wr => ∃ k : Nat, k ≤ n ∧ i = .int .i64 k ∧ HasTo l ⟨k0, n0, s0⟩ k ∧ Below w1.heap.size w1 wr) (fun i _ => n - (intOf i).toNat)
  case atStart => exact ⟨0, Nat.zero_le _, rfl, fun j x _ hj => by omega, Below.refl _ _⟩
  case round =>
    obtain ⟨k, hk, rfl, ht, hb⟩ := hrel
    have HT := Lib.hid ht
    have HB := Lib.hid hb
    by_cases hlt : k < n
    · obtain ⟨b, o, x, rfl, hbB, hx, hok, x0, x1, x2⟩ := (HV.out.below (hb.mono (by omega))).at_ hlt
      obtain ⟨kx, nx, sx⟩ := x
      have y := (H0.out.then_ hb).c3
      have HX := Lib.hid hx
      have hlt2 : w.heap.size < wr.heap.size := by have := hb.size; omega
      have hve := val_eq kx nx k0 n0 sx s0
      clear ht hb hx hok
      cases he : veq ⟨kx, nx, sx⟩ ⟨k0, n0, s0⟩
      · rw [he] at hve
        have HE := Lib.hid he
        clear he
        go_wp2_with fail
        go_roundw
        case rel => exact ⟨k + 1, by omega, by go_num, HT.out.step HX.out HE.out, HB.out.alloc HB.out.size _⟩
        case measure => simp [intOf]; omega
      · rw [he] at hve
        have HE := Lib.hid he
        clear he
        go_wp2_with fail
        go_ret
        exact ⟨ret_bool (has_true HX.out HE.out).symm, (HD.out.trans (HB.out.mono (by omega))).alloc (by omega) _⟩
    · obtain rfl : k = n := by omega
      clear ht hb
      go_wp2_with fail
      go_ret
      exact ⟨ret_bool (HT.out.all HL.out).symm, HD.out.trans (HB.out.mono (by omega))⟩

end Go.Proofs.Ytmpldpfgnakbkaa
/- copied: a bag in memory of its own, its texts too. -/
namespace Go.Proofs.Ytmpldpfgnakbkaa
set_option linter.unusedVariables false
open Go.RowKit

/-- Texts that aren't long. -/
def Shorts (l : List Vl) : Prop := ∀ v ∈ l, v.s.size ≤ 1000000

theorem take_one {α : Type} {l : List α} {k : Nat} {x : α} (h : l[k]? = some x) : l.take (k + 1) = l.take k ++ [x] := by
  obtain ⟨hk, rfl⟩ := List.getElem?_eq_some_iff.1 h
  rw [List.take_succ_eq_append_getElem hk]
theorem cells3_flat : ∀ l : List Vl, cells3 l = l.flatMap Vl.cells
  | [] => rfl
  | v :: r => by simp [cells3, Vl.cells, cells3_flat r]
/-- One more value behind a row of the call's own. -/
theorem push_val {w : World} {base n c : Nat} {A : Option Addr} {l : List Vl} {v : Vl} (h : w.ownsRow base 42 3 (.slice A n c) n (cells3 l)) (hb : base ≤ w.heap.size) (hv : v.ok) (hn : n < 1000000) :
    ∃ A' c' w', (Builtin.append_ #[25, 25] 25 #[.slice A n c, .slice (some ⟨w.heap.size, 0, none⟩) 1 1]).run Try.prog (w.alloc (.cells #[.int .i64 v.k, .int .i64 v.n, .string v.s] 42)) = .ok (.slice A' (n + 1) c') w' ∧
      w'.ownsRow base 42 3 (.slice A' (n + 1) c') (n + 1) (cells3 (l ++ [v])) ∧ Below base w w' := by
  have e1 : Below w.heap.size w (w.alloc (.cells #[.int .i64 v.k, .int .i64 v.n, .string v.s] 42)) := (Below.refl _ _).alloc (Nat.le_refl _) _
  obtain ⟨A', c', w', r, o, b, _⟩ := append_vals (ty := 25) (h.alloc (.cells #[.int .i64 v.k, .int .i64 v.n, .string v.s] 42)) (Vs.lit1 w v hv) (by omega) (by rw [size_al]; omega)
  exact ⟨A', c', w', r, o, (e1.mono hb).trans b⟩

set_option maxHeartbeats 1600000 in
theorem copied_any {w : World} {R : Nat → Prop} {A : Option Addr} {n c : Nat} {l : List Vl} (h : Vls w R A n c l) (hs : Shorts l) (hn : n ≤ 100000) :
    Calls Try.prog 42 #[.slice A n c] w fun e w' => ∃ A' c', e = .returned (.slice A' n c') ∧ Below w.heap.size w w' ∧ Vls w' (fun b => w.heap.size ≤ b) A' n c' l := by
  have hle := Rw.le h
  have hcap := Rw.cap h
  have HL := Lib.hid (Rw.len h)
  have HOK := Lib.hid h.oks
  unfold maxLen at hcap
  have H := Lib.hid h
  have HS := Lib.hid hs
  clear h hs
  go_enter Try.func42, Try.ntmps42
  go_wp2
  go_loopw [3, 8] (fun out i wr => ∃ (k : Nat) (A' : Option Addr) (c' : Nat), k ≤ n ∧ i = .int .i64 k ∧ out = .slice A' k c' ∧ wr.ownsRow w.heap.size 42 3 (.slice A' k c') k (cells3 (l.take k)) ∧ Below w.heap.size w wr) (fun out i _ => n - (intOf i).toNat)
  case atStart => exact ⟨0, none, 0, Nat.zero_le _, rfl, rfl, World.ownsRow_nil w w.heap.size 42 3, Below.refl _ _⟩
  case round =>
    obtain ⟨k, A', c', hk, rfl, rfl, ho, hb⟩ := hrel
    have HO := Lib.hid ho
    have HB := Lib.hid hb
    clear ho hb
    by_cases hlt : k < n
    · obtain ⟨b, o, x, rfl, hRb, hbl, hx, hok, ⟨x0, x1, x2⟩⟩ := (H.out.keep (Kept.all HB.out R) (fun _ h _ => h)).at_ hlt
      have HX := Lib.hid hx
      have HK := Lib.hid hok
      have hlim := HS.out x (List.mem_of_getElem? hx)
      have HCL := Lib.hid (fun W => clone_any x.s W hlim)
      obtain ⟨xk, xn, xs⟩ := x
      simp only at x0 x1 x2 HCL hlim
      clear hx hok
      have hbx := Bx.made wr xk xn xs
      have D0 := Lib.hid ((Below.refl wr.heap.size wr).alloc (Nat.le_refl _) (.cells #[.int .i64 xk, .int .i64 xn, .string xs] 42))
      go_wp2_with (first
        | (go_at_call 64; refine (HCL.out _).mono ?_; rintro e w1 ⟨rfl, hb1⟩
           have q1 := hbx.then_ hb1
           have qs := q1.setS xs
           have q3 := q1.c3
           have q4 := q1.fz 2
           have d1 : Below wr.heap.size wr (w1.setCell ⟨wr.heap.size, 2, none⟩ (.string xs)) := (Below.lit hb1).setCell (Nat.le_refl _) _
           obtain ⟨A2, c2, w2, r2, o2, b2⟩ := push_val (v := ⟨xk, xn, xs⟩) (own_then HO.out d1) (Nat.le_trans HB.out.size d1.size) HK.out (by omega)
           have hz : (w1.setCell ⟨wr.heap.size, 2, none⟩ (.string xs)).heap.size = w1.heap.size := by simp [World.setCell]
           rw [hz] at r2
           simp only at r2
           have R2 := Lib.hid r2
           have O2 := Lib.hid o2
           have B2 := Lib.hid (HB.out.trans ((d1.mono HB.out.size).trans b2))
           have Q1 := Lib.hid q1
           clear hz r2 o2 b2 hb1 q1 qs d1)
        | (at_builtin; refine wpList_append_run rfl _ _ _ _ rfl rfl rfl R2.out ?_))
      go_roundw
      case rel => exact ⟨k + 1, A2, c2, by omega, by go_num, rfl, by rw [take_one HX.out]; exact O2.out, B2.out⟩
      case measure => simp [intOf]; omega
    · obtain rfl : k = n := by omega
      go_wp2
      go_ret
      refine ⟨A', c', rfl, HB.out, ?_⟩
      have ho := HO.out
      rw [List.take_of_length_le (by have := HL.out; omega), cells3_flat] at ho
      exact Rw.flat_own ho (by omega) HL.out (fun _ => rfl) HOK.out (fun _ _ h => h)
end Go.Proofs.Ytmpldpfgnakbkaa
/- reckoned: what a function makes of parts none of which is an error. -/
namespace Go.Proofs.Ytmpldpfgnakbkaa
set_option linter.unusedVariables false
open Go.RowKit Go.Sort

theorem Prts.up {w w' : World} {R : Nat → Prop} {A : Option Addr} {n c : Nat} {l : List Prt} (h : Prts w R A n c l) (hb : Below w.heap.size w w') : Prts w' R A n c l := h.keep (Kept.all hb R) (fun _ h _ => h)
theorem Vls.up {w w' : World} {R : Nat → Prop} {A : Option Addr} {n c : Nat} {l : List Vl} (h : Vls w R A n c l) (hb : Below w.heap.size w w') : Vls w' R A n c l := h.keep (Kept.all hb R) (fun _ h _ => h)
theorem pair_eq {p : Vl × Int} {v : Vl} {e : Int} (h : p = (v, e)) : p.1 = v ∧ p.2 = e := by rw [h]; exact ⟨rfl, rfl⟩
set_option maxRecDepth 100000 in
set_option maxHeartbeats 3200000 in
theorem ereck_3 {w : World} {R : Nat → Prop} {A : Option Addr} {n c : Nat} {of : List Prt} (h : Prts w R A n c of) (hn : 1 ≤ n) :
    Calls Try.prog 74 #[.int .i64 3, .slice A n c] w fun e w' => e = .returned (.tuple #[(reckP 3 of).1.val, .int .i64 (reckP 3 of).2]) ∧ Below w.heap.size w w' := by
  have hle := Rw.le h
  have hcap := Rw.cap h
  unfold maxLen at hcap
  have h' := h.up (below1 w (.cells #[.int .i64 0, .int .i64 0, .string ⟨#[]⟩] 42))
  obtain ⟨b, o, p, A', n', c', rfl, hRb, hbl, hx, hok, ⟨x0, _, _, _, _⟩, hin⟩ := h'.at_ (j := 0) (by omega)
  have hq : reckP 3 of = singleV p.bag := by
    match of, hx with
    | q :: _, hx => simp at hx; subst hx; rfl
  rw [hq]
  have HS := Lib.hid (esingle_any hin)
  obtain ⟨⟨⟨rk, rn, rs⟩, re⟩, hp⟩ : ∃ q, q = singleV p.bag := ⟨_, rfl⟩
  rw [← hp] at HS
  rw [← hp]
  simp only [Nat.zero_mul, Nat.add_zero] at x0
  clear hok hin hx hq h h' hRb hbl hp
  go_enter Try.func74, Try.ntmps74
  go_wp2_with (go_at_call 80; refine HS.out.mono ?_; rintro e w1 ⟨rfl, hb1⟩
               have R1 := Lib.hid ((Bx.made w 0 0 ⟨#[]⟩).then_ hb1)
               have D1 := Lib.hid (Below.lit hb1)
               have c0 := R1.out.c3
               have f0 := R1.out.fz
               simp only [Vl.val]
               clear hb1)
  try simp only [Exit.inBlock, Exit.then]
  refine bodyPost_ret (box_ret2 rfl rfl rfl (R1.out.put _ _ _)) rfl ?_
  exact ⟨rfl, below_put D1.out (Nat.le_refl _) _ _ _⟩
set_option maxRecDepth 100000 in
set_option maxHeartbeats 3200000 in
theorem ereck_4 {w : World} {R : Nat → Prop} {A : Option Addr} {n c : Nat} {of : List Prt} (h : Prts w R A n c of) (hn : 1 ≤ n) :
    Calls Try.prog 74 #[.int .i64 4, .slice A n c] w fun e w' => e = .returned (.tuple #[(reckP 4 of).1.val, .int .i64 (reckP 4 of).2]) ∧ Below w.heap.size w w' := by
  have hle := Rw.le h
  have hcap := Rw.cap h
  unfold maxLen at hcap
  have h' := h.up (below1 w (.cells #[.int .i64 0, .int .i64 0, .string ⟨#[]⟩] 42))
  obtain ⟨b, o, p, A', n', c', rfl, hRb, hbl, hx, hok, ⟨x0, _, _, _, _⟩, hin⟩ := h'.at_ (j := 0) (by omega)
  have hlen : p.bag.length = n' := Rw.len hin
  have HQ : Hid (reckP 4 of = (⟨2, (n' : Int), ⟨#[]⟩⟩, 0)) := by
    show _ = _
    match of, hx with
    | q :: _, hx =>
      simp at hx
      subst hx
      rw [← hlen]
      rfl
  simp only [Nat.zero_mul, Nat.add_zero] at x0
  have c0 := (Bx.made w 0 0 ⟨#[]⟩).c3
  have f0 := (Bx.made w 0 0 ⟨#[]⟩).fz
  clear hok hin hx h h' hRb hbl hlen
  go_enter Try.func74, Try.ntmps74
  go_wp2_with fail
  try simp only [Exit.inBlock, Exit.then]
  refine bodyPost_ret (box_ret2 rfl rfl rfl (Bx.made _ _ _ _)) rfl ?_
  exact ⟨ret_pair HQ.out, below1 _ _⟩
set_option maxRecDepth 100000 in
set_option maxHeartbeats 3200000 in
theorem ereck_5 {w : World} {R : Nat → Prop} {A : Option Addr} {n c : Nat} {of : List Prt} (h : Prts w R A n c of) (hn : 2 ≤ n) :
    Calls Try.prog 74 #[.int .i64 5, .slice A n c] w fun e w' => e = .returned (.tuple #[(reckP 5 of).1.val, .int .i64 (reckP 5 of).2]) ∧ Below w.heap.size w w' := by
  have hle := Rw.le h
  have hcap := Rw.cap h
  unfold maxLen at hcap
  have h' := h.up (below1 w (.cells #[.int .i64 0, .int .i64 0, .string ⟨#[]⟩] 42))
  obtain ⟨b, o, p, A', n', c', rfl, hRb, hbl, hx, hok, ⟨x0, _, _, _, _⟩, hin⟩ := h'.at_ (j := 0) (by omega)
  obtain ⟨b', o', q, A'', n'', c'', hA, _, _, hy, _, ⟨_, y1, y2, y3, _⟩, _⟩ := h'.at_ (j := 1) (by omega)
  injection hA with hA
  injection hA with hA1 hA2
  subst hA1 hA2
  obtain ⟨qb, ⟨qk, qn, qs⟩, qe⟩ := q
  simp only [Nat.zero_mul, Nat.one_mul, Nat.add_zero] at x0 y1 y2 y3
  have HQ : Hid (reckP 5 of = (⟨1, truthN (hasB p.bag ⟨qk, qn, qs⟩), ⟨#[]⟩⟩, 0)) := by
    show _ = _
    match of, hx, hy with
    | _ :: _ :: _, hx, hy =>
      simp at hx hy
      subst hx hy
      rfl
  obtain ⟨bx, hbx⟩ : ∃ bx, bx = hasB p.bag ⟨qk, qn, qs⟩ := ⟨_, rfl⟩
  rw [← hbx] at HQ
  have HR0 := Lib.hid (Bx.made w 0 0 ⟨#[]⟩)
  have HD0 := Lib.hid (below1 w (.cells #[.int .i64 0, .int .i64 0, .string ⟨#[]⟩] 42))
  have HIN := Lib.hid hin
  generalize reckP 5 of = RR at *
  clear hok hin hx hy h h' hRb
  go_enter Try.func74, Try.ntmps74
  go_wp2_with fail
  generalize w.alloc (.cells #[.int .i64 0, .int .i64 0, .string ⟨#[]⟩] 42) = W1 at *
  have QH := Lib.hid (fun d os => Calls.regrown_of (w := W1) (d := d) (os := os) (by have := vhas_any (HIN.out.up (below_regrown W1 d os)).vs (Nat.le_refl _) qk qn qs; rwa [← hbx] at this))
  have QT := Lib.hid (fun d os => Calls.regrown_of (w := W1) (d := d) (os := os) (etruth_any bx (grow (redrawn W1 d) os)))
  have z0 := fun d os => cell_regrown x0 d os
  have z3 := fun d os => cell_regrown y1 d os
  have z4 := fun d os => cell_regrown y2 d os
  have z5 := fun d os => cell_regrown y3 d os
  clear hbx
  have hz2 : (1 : Int) < (n : Int) := by omega
  have hz1 : (0 : Int) < (n : Int) := by omega
  clear x0 y1 y2 y3
  refine wp_region_below_tail 10 (by kernel_rfl) (by kernel_rfl) ?_
  simp only [List.take_succ_cons, List.take_zero, List.drop_succ_cons, List.drop_zero]
  repeat (go_big_quiet_step (first | (go_at_call 37; exact QH.out _ _) | (go_at_call 59; exact QT.out _ _)))
  refine wpQuiet_nil ?_
  intro _ hw'
  obtain ⟨⟨dq, osq⟩, hw''⟩ := hw'
  subst hw''
  have hbel := below_regrown W1 dq osq
  have R3 := Lib.hid (HR0.out.then_ hbel)
  have D3 := Lib.hid (below_step HD0.out hbel)
  clear hbel z0 z3 z4 z5 QH QT
  have c0 := R3.out.c3
  have f0 := R3.out.fz
  go_wp2_with fail
  try simp only [Exit.inBlock, Exit.then]
  refine bodyPost_ret (box_ret2 rfl rfl rfl (R3.out.put _ _ _)) rfl ?_
  exact ⟨ret_pair HQ.out, below_put D3.out (Nat.le_refl _) _ _ _⟩
theorem call_is {w : World} {R : Nat → Prop} {A : Option Addr} {n c : Nat} {l : List Vl} {op : Int} (h : Vls w R A n c l) (hn : n ≤ 1000000) : Calls Try.prog 81 #[.int .i64 op, .slice A n c] w fun e w' => e = .returned (.tuple #[(callV op l).1.val, .int .i64 (callV op l).2]) ∧ Below w.heap.size w w' := call_any h.vs (Nat.le_refl _) hn op
set_option maxRecDepth 100000 in
set_option maxHeartbeats 3200000 in
theorem ereck_any {op : Int} (h3 : op ≠ 3) (h4 : op ≠ 4) (h5 : op ≠ 5) {w : World} {R : Nat → Prop} {A : Option Addr} {n c : Nat} {of : List Prt} (h : Prts w R A n c of) (hn : n ≤ 1000) :
    Calls Try.prog 74 #[.int .i64 op, .slice A n c] w fun e w' => e = .returned (.tuple #[(reckP op of).1.val, .int .i64 (reckP op of).2]) ∧ Below w.heap.size w w' := by
  have hle := Rw.le h
  have hcap := Rw.cap h
  have HL := Lib.hid (Rw.len h)
  unfold maxLen at hcap
  have b3 : (op == 3) = false := by rw [beq_eq_false_iff_ne]; exact h3
  have b4 : (op == 4) = false := by rw [beq_eq_false_iff_ne]; exact h4
  have b5 : (op == 5) = false := by rw [beq_eq_false_iff_ne]; exact h5
  have HQ : Hid (reckP op of = callV op (of.map Prt.v)) := by show _ = _; unfold reckP; rw [if_neg h3, if_neg h4, if_neg h5]
  have H := Lib.hid (h.up (below1 w (.cells #[.int .i64 0, .int .i64 0, .string ⟨#[]⟩] 42)))
  have HR0 := Lib.hid (Bx.made w 0 0 ⟨#[]⟩)
  have HD0 := Lib.hid (below1 w (.cells #[.int .i64 0, .int .i64 0, .string ⟨#[]⟩] 42))
  generalize reckP op of = RR at *
  clear h3 h4 h5 h
  go_enter Try.func74, Try.ntmps74
  go_wp2_with fail
  generalize w.alloc (.cells #[.int .i64 0, .int .i64 0, .string ⟨#[]⟩] 42) = W1 at *
  go_loopw [6, 41] (fun out i wr => ∃ (k : Nat) (A' : Option Addr) (c' : Nat), k ≤ n ∧ i = .int .i64 k ∧ out = .slice A' k c' ∧ (wr.ownsRow W1.heap.size 42 3 (.slice A' k c') k (cells3 ((of.map Prt.v).take k)) ∧ (∀ v ∈ (of.map Prt.v).take k, v.ok)) ∧ Below W1.heap.size W1 wr) (fun out i _ => n - (intOf i).toNat)
  case atStart => exact ⟨0, none, 0, Nat.zero_le _, rfl, rfl, ⟨World.ownsRow_nil W1 W1.heap.size 42 3, by simp⟩, Below.refl _ _⟩
  case round =>
    obtain ⟨k, A', c', hk, rfl, rfl, ⟨ho, hoks⟩, hb⟩ := hrel
    have HO := Lib.hid ho
    have HB := Lib.hid hb
    have HOKS := Lib.hid hoks
    clear ho hb hoks
    by_cases hlt : k < n
    · obtain ⟨b, o, p, Ap, np, cp, rfl, hRb, hbl, hx, hok, ⟨x0, x1, x2, x3, x4⟩, hin⟩ := (H.out.up HB.out).at_ hlt
      obtain ⟨pb, ⟨pk, pn, ps⟩, pe⟩ := p
      simp only at x0 x1 x2 x3 x4 hok
      have hxm : (of.map Prt.v)[k]? = some ⟨pk, pn, ps⟩ := by rw [List.getElem?_map, hx]; rfl
      have HX := Lib.hid hxm
      have hd1 := (Below.refl wr.heap.size wr).alloc (Nat.le_refl _) (.cells #[.slice Ap np cp, .int .i64 pk, .int .i64 pn, .string ps, .int .i64 pe] 87)
      have hob := Ob.made wr 87 #[.slice Ap np cp, .int .i64 pk, .int .i64 pn, .string ps, .int .i64 pe]
      have q1 := hob.cell 1
      have q2 := hob.cell 2
      have q3 := hob.cell 3
      obtain ⟨A2, c2, w2, r2, o2, b2⟩ := push_val (v := ⟨pk, pn, ps⟩) (own_then HO.out hd1) (Nat.le_trans HB.out.size hd1.size) hok.1 (by omega)
      simp only [size_al] at r2
      have R2 := Lib.hid r2
      have O2 := Lib.hid o2
      have B2 := Lib.hid (HB.out.trans ((hd1.mono HB.out.size).trans b2))
      have K2 : Hid (∀ v ∈ (of.map Prt.v).take (k + 1), v.ok) := by
        show ∀ v ∈ (of.map Prt.v).take (k + 1), v.ok
        rw [take_one HX.out]
        intro v hv
        rcases List.mem_append.1 hv with hv | hv
        · exact HOKS.out v hv
        · simp at hv; subst hv; exact hok.1
      clear hx hxm hok hin hRb hd1 hob r2 o2 b2
      go_wp2_with (at_builtin; refine wpList_append_run rfl _ _ _ _ rfl rfl rfl R2.out ?_)
      go_roundw
      case rel => exact ⟨k + 1, A2, c2, by omega, by go_num, rfl, ⟨by rw [take_one HX.out]; exact O2.out, K2.out⟩, B2.out⟩
      case measure => simp [intOf]; omega
    · obtain rfl : k = n := by omega
      have ho := HO.out
      have hoks := HOKS.out
      rw [List.take_of_length_le (by rw [List.length_map]; have := HL.out; omega)] at ho hoks
      rw [cells3_flat] at ho
      have hv : Vls wr (fun b => W1.heap.size ≤ b) A' k c' (of.map Prt.v) := Rw.flat_own ho (by omega) (by rw [List.length_map]; exact HL.out) (fun _ => rfl) hoks (fun _ _ h => h)
      have HC := Lib.hid (call_is (op := op) hv (by omega))
      obtain ⟨⟨⟨rk, rn, rs⟩, re⟩, hp⟩ : ∃ q, q = callV op (of.map Prt.v) := ⟨_, rfl⟩
      rw [← hp] at HC HQ
      clear ho hoks hv hp
      have R1 := Lib.hid (HR0.out.then_ (HB.out.mono (Nat.le_refl _)))
      go_wp2_with (go_at_call 81; refine HC.out.mono ?_; rintro e w1 ⟨rfl, hb1⟩
                   have R2 := Lib.hid (R1.out.then_ hb1)
                   have D2 := Lib.hid (below_step HD0.out (below_step HB.out hb1))
                   have c0 := R2.out.c3
                   have f0 := R2.out.fz
                   simp only [Vl.val]
                   clear hb1)
      try simp only [Exit.inBlock, Exit.then]
      refine bodyPost_ret (box_ret2 rfl rfl rfl (R2.out.put _ _ _)) rfl ?_
      exact ⟨ret_pair HQ.out, below_put D2.out (Nat.le_refl _) _ _ _⟩
end Go.Proofs.Ytmpldpfgnakbkaa
/- place: the first of a category and a name (by slices.IndexFunc). -/
namespace Go.Proofs.Ytmpldpfgnakbkaa
set_option linter.unusedVariables false
open Go.RowKit

theorem isg_any {w : World} {h4 h5 : Nat} {c : Int} {s : ByteArray} (g : Giv) {A : Option Addr} {n k : Nat} (hp : Ob w h4 3 #[.int .i64 c]) (hi : Ob w h5 9 #[.string s]) :
    Calls Try.prog 63 #[.agg #[.int .i64 g.cat, .string g.name, .slice A n k], .pointer (some ⟨h4, 0, none⟩), .pointer (some ⟨h5, 0, none⟩)] w fun e w' => e = .returned (.bool (isG c s g)) ∧ Below w.heap.size w w' := by
  have c4 := hp.cell 0
  have c5 := hi.cell 0
  have l4 := hp.lt
  have l5 := hi.lt
  have HE : Hid (isG c s g = (decide (g.cat = c) && (g.name.toList == s.toList))) := by
    show isG c s g = _
    unfold isG
    rw [Bool.eq_iff_iff]
    simp only [Bool.and_eq_true, decide_eq_true_eq, beq_iff_eq]
    rw [show (g.name.toList = s.toList) = (g.name = s) from propext ⟨fun e => text_eq (by show g.name.data.toList = s.data.toList; rw [← ByteArray.toList_eq, ← ByteArray.toList_eq]; exact e), fun e => by rw [e]⟩]
  generalize isG c s g = r at *
  obtain ⟨gc, gn, gb⟩ := g
  simp only at HE ⊢
  clear hp hi
  by_cases h : gc = c
  · have h' : (gc == c) = true := by simpa using h
    have H := Lib.hid h
    clear h
    go_enter Try.func63, Try.ntmps63
    go_wp2_with fail
    all_goals
      go_ret
      exact ⟨ret_bool (by rw [HE.out, decide_eq_true H.out, Bool.true_and]), (Below.refl _ _).alloc (Nat.le_refl _) _⟩
  · have h' : (gc == c) = false := by simpa using h
    have H := Lib.hid h
    clear h
    go_enter Try.func63, Try.ntmps63
    go_wp2_with fail
    all_goals
      go_ret
      exact ⟨ret_bool (by rw [HE.out, decide_eq_false H.out, Bool.false_and]), (Below.refl _ _).alloc (Nat.le_refl _) _⟩

set_option maxHeartbeats 800000 in
theorem index_any {w : World} {R : Nat → Prop} {A : Option Addr} {n c : Nat} {l : List Giv} {h4 h5 : Nat} {q : Int} {s : ByteArray} (h : Gvs w R A n c l) (hp : Ob w h4 3 #[.int .i64 q]) (hi : Ob w h5 9 #[.string s]) :
    Calls Try.prog 62 #[.slice A n c, .func (.func 63) #[] #[.pointer (some ⟨h4, 0, none⟩), .pointer (some ⟨h5, 0, none⟩)]] w fun e w' => e = .returned (.int .i64 (placeI l q s)) ∧ Below w.heap.size w w' := by
  have hle := Rw.le h
  have hcap := Rw.cap h
  have HL := Lib.hid (Rw.len h)
  unfold maxLen at hcap
  have H := Lib.hid h
  have HP := Lib.hid hp
  have HI := Lib.hid hi
  clear h hp hi
  go_enter Try.func62, Try.ntmps62
  go_wp2
  go_loopw [8] (fun i wr => ∃ k : Nat, k ≤ n ∧ i = .int .i64 k ∧ (∀ (j : Nat) (x : Giv), l[j]? = some x → j < k → isG q s x = false) ∧ Below w.heap.size w wr) (fun i _ => n - (intOf i).toNat)
  case atStart => exact ⟨0, Nat.zero_le _, rfl, fun _ _ _ h => absurd h (Nat.not_lt_zero _), Below.refl _ _⟩
  case round =>
    obtain ⟨k, hk, rfl, hf, hb⟩ := hrel
    have HF := Lib.hid hf
    have HB := Lib.hid hb
    clear hf hb
    by_cases hlt : k < n
    · obtain ⟨b, o, x, A', n', c', rfl, hRb, hbl, hx, hok, ⟨c0, c1, c2⟩, hin⟩ := (H.out.keep (Kept.all HB.out R) (fun _ h _ => h)).at_ hlt
      have HX := Lib.hid hx
      have HC := Lib.hid (isg_any x (A := A') (n := n') (k := c') (HP.out.below HB.out HP.out.lt) (HI.out.below HB.out HI.out.lt))
      clear hx
      cases hz : isG q s x
      · have HZ := Lib.hid hz
        rw [hz] at HC
        clear hz
        go_wp2_with (go_at_call 63; refine HC.out.mono ?_; rintro e w1 ⟨rfl, hb1⟩; have B1 := Lib.hid hb1)
        go_roundw
        case rel => exact ⟨k + 1, by omega, by go_num, fun j y hy hj => by
          by_cases e : j = k
          · subst e; rw [HX.out] at hy; injection hy with hy; subst hy; exact HZ.out
          · exact HF.out j y hy (by omega), below_step HB.out B1.out⟩
        case measure => simp [intOf]; omega
      · have HZ := Lib.hid hz
        rw [hz] at HC
        clear hz
        go_wp2_with (go_at_call 63; refine HC.out.mono ?_; rintro e w1 ⟨rfl, hb1⟩; have B1 := Lib.hid hb1)
        go_ret
        exact ⟨ret_int (place_at HX.out HZ.out HF.out).symm, below_step HB.out B1.out⟩
    · obtain rfl : k = n := by omega
      go_wp2
      go_ret
      exact ⟨ret_int (place_none (fun j x hx => HF.out j x hx (by have := (List.getElem?_eq_some_iff.1 hx).1; have := HL.out; omega))).symm, HB.out⟩

theorem place_any {w : World} {R : Nat → Prop} {A : Option Addr} {n c : Nat} {l : List Giv} (q : Int) (s : ByteArray) (h : Gvs w R A n c l) :
    Calls Try.prog 41 #[.slice A n c, .int .i64 q, .string s] w fun e w' => e = .returned (.int .i64 (placeI l q s)) ∧ Below w.heap.size w w' := by
  have e1 : Below w.heap.size w ((w.alloc (.cells #[.int .i64 q] 3)).alloc (.cells #[.string s] 9)) := ((Below.refl _ _).alloc (Nat.le_refl _) _).alloc (by rw [size_al]; omega) _
  have hp : Ob ((w.alloc (.cells #[.int .i64 q] 3)).alloc (.cells #[.string s] 9)) w.heap.size 3 #[.int .i64 q] := (Ob.made w 3 #[.int .i64 q]).keep (Below.heap_alloc (w.alloc (.cells #[.int .i64 q] 3)) _ w.heap.size (by rw [size_al]; omega))
  have hi : Ob ((w.alloc (.cells #[.int .i64 q] 3)).alloc (.cells #[.string s] 9)) (w.heap.size + 1) 9 #[.string s] := by
    have := Ob.made (w.alloc (.cells #[.int .i64 q] 3)) 9 #[.string s]
    rwa [size_al] at this
  have HC := Lib.hid (index_any (h.keep (Kept.all e1 R) (fun _ h _ => h)) hp hi)
  have HE := Lib.hid e1
  clear h hp hi e1
  go_enter Try.func41, Try.ntmps41
  go_wp2_with (go_at_call 62; refine HC.out.mono ?_; rintro e w1 ⟨rfl, hb1⟩)
  go_ret
  exact ⟨rfl, HE.out.trans (hb1.mono HE.out.size)⟩
end Go.Proofs.Ytmpldpfgnakbkaa
