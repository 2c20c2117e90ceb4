/- Several texts in one: PolApp, PolOw, Gr, VApp, AskMem, VBoxPut, Make, Clone, AskCopied, AskPlace, AskGet, Num, TextP, Same, AskNil, AskRight, KeepLeft. -/
import Derived.Test.YtincnopaclmppaaElvB
import Derived.Test.YtincnopaclmppaaElvA
import Derived.Maps.AppendAt
import Derived.Deep.RegionLaw
import Derived.Laws.OwnMore
import Derived.Lib.Strings
import Derived.Lib.Walk
import Derived.Lib.BufferWrite
import Derived.Lib.UnsafeStr
import Derived.Laws.MakeOwn
/- Rows of structs of the call's own: append. -/
namespace Go.Proofs.Ytincnopaclmppaa
set_option linter.unusedVariables false
open Go.RowKit

/-- The slice 'A n c' reads as these cells, one behind the other. -/
def Fl (w : World) (k : Nat) (A : Option Addr) (n : Nat) (ys : List Value) : Prop :=
  ys.length = n * k ∧ (∀ v ∈ ys, v.oneCell' = true) ∧ (n = 0 ∨ ∃ b o, A = some ⟨b, o, none⟩ ∧ ∀ j u, ys[j]? = some u → w.cell? ⟨b, o + j, none⟩ = some u)

/-- append of many structs to a row of the call's own. -/
theorem append_rows {P : Program} {T E : TypeId} {i : TypeInfo} {z : Value} {k by_ : Nat} (ht : P.underlying T = some (.slice E)) (hi : P.info? E = some i) (hz : i.zero = some z) (hs : i.size = k) (hb : i.bytes = by_) (hzs : z.cells.size = k) (hk : 0 < k) (hby : by_ ≤ 1000)
    {w : World} {base n c m c2 ty : Nat} {A A2 : Option Addr} {xs ys : List Value} (h : w.ownsRow base E k (.slice A n c) n xs) (hy : Fl w k A2 m ys) (hn : n + m ≤ 1000000) (hbase : base ≤ w.heap.size) :
    ∃ A' c' w', (Builtin.append_ #[T, T] ty #[.slice A n c, .slice A2 m c2]).run P w = .ok (.slice A' (n + m) c') w' ∧
      w'.ownsRow base E k (.slice A' (n + m) c') (n + m) (xs ++ ys) ∧ Below base w w' ∧ w.grownBy w' (Value.slice A n c).ownBlock ∧
      ((Value.slice A' (n + m) c').ownBlock = (Value.slice A n c).ownBlock ∨ (Value.slice A' (n + m) c').ownBlock = some w.heap.size) := by
  obtain ⟨hlen, h1, hy⟩ := hy
  have fin : ∀ (ad : Addr), A2 = some ad → (∀ j u, ys[j]? = some u → w.cell? (ad.add j) = some u) → ∃ A' c' w', (Builtin.append_ #[T, T] ty #[.slice A n c, .slice A2 m c2]).run P w = .ok (.slice A' (n + m) c') w' ∧
      w'.ownsRow base E k (.slice A' (n + m) c') (n + m) (xs ++ ys) ∧ Below base w w' ∧ w.grownBy w' (Value.slice A n c).ownBlock ∧
      ((Value.slice A' (n + m) c').ownBlock = (Value.slice A n c).ownBlock ∨ (Value.slice A' (n + m) c').ownBlock = some w.heap.size) := by
    rintro ad rfl hc
    have hb2 : (n + m) * by_ ≤ 1000000 * 1000 := Nat.mul_le_mul hn hby
    obtain ⟨v', w', hrun, h2, h3, h4, h5⟩ := run_append_own_at (P := P) w base T ty E i z k by_ ht hi hz hs hb hzs hk (.slice A n c) n xs h
      ad m c2 ys hlen hc h1 (by unfold maxLen; omega) (by omega) hbase
    have hform : ∃ A' c', v' = .slice A' (n + m) c' := by
      rcases h2.2 with ⟨hv, hz⟩ | ⟨g, cap, cur, hv, _⟩
      · exact ⟨_, _, by rw [hv, hz]⟩
      · exact ⟨_, _, hv⟩
    obtain ⟨A', c', rfl⟩ := hform
    exact ⟨A', c', w', hrun, h2, (Below.refl base w).grown h3 hbase (fun k hk => (h.lt k hk).1), h3, h5⟩
  rcases hy with h0 | ⟨b, o, e, hc⟩
  · subst h0
    obtain rfl : ys = [] := List.eq_nil_of_length_eq_zero (by omega)
    rcases A2 with _ | ad
    · exact ⟨A, c, w, append_nil_src ht hi h, by simpa using h, Below.refl _ _, ⟨rfl, rfl, rfl, Nat.le_refl _, fun _ _ _ => rfl⟩, .inl rfl⟩
    · exact fin ad rfl (fun j u hu => by simp at hu)
  · refine fin _ e fun j u hu => ?_
    have := hc j u hu
    by_cases hj : j = 0
    · subst hj; simpa [Addr.add] using this
    · simpa [Addr.add, hj] using this

theorem flatten_at {k : Nat} : ∀ {l : List (List Value)} {j : Nat} {x : List Value} {i : Nat} {v : Value}, (∀ y ∈ l, y.length = k) → l[j]? = some x → x[i]? = some v → l.flatten[j * k + i]? = some v
  | [], _, _, _, _, _, hx, _ => by simp at hx
  | y :: l, 0, x, i, v, hk, hx, hv => by
    simp at hx
    subst hx
    rw [List.flatten_cons, Nat.zero_mul, Nat.zero_add, List.getElem?_append_left (by rw [List.getElem?_eq_some_iff] at hv; exact hv.1)]
    exact hv
  | y :: l, j + 1, x, i, v, hk, hx, hv => by
    have hy := hk y (by simp)
    rw [List.flatten_cons, List.getElem?_append_right (by rw [hy, Nat.add_mul]; omega), hy, show (j + 1) * k + i - k = j * k + i by rw [Nat.add_mul]; omega]
    exact flatten_at (fun y h => hk y (by simp [h])) (by simpa using hx) hv
theorem flatten_len {k : Nat} : ∀ {l : List (List Value)}, (∀ y ∈ l, y.length = k) → l.flatten.length = l.length * k
  | [], _ => by simp
  | y :: l, h => by
    rw [List.flatten_cons, List.length_append, h y (by simp), flatten_len fun y hy => h y (by simp [hy]), List.length_cons, Nat.add_mul]
    omega
theorem flatten_of {k : Nat} (hk : 0 < k) {l : List (List Value)} {j : Nat} {u : Value} (hl : ∀ y ∈ l, y.length = k) (h : l.flatten[j]? = some u) : ∃ x, l[j / k]? = some x ∧ x[j % k]? = some u := by
  have hj : j < l.length * k := by rw [← flatten_len hl]; exact (List.getElem?_eq_some_iff.1 h).1
  have hd : j / k < l.length := Nat.div_lt_of_lt_mul (by rw [Nat.mul_comm]; exact hj)
  have hx : l[j / k]? = some l[j / k] := List.getElem?_eq_getElem hd
  refine ⟨l[j / k], hx, ?_⟩
  have hm : j % k < (l[j / k]).length := by rw [hl _ (List.getElem_mem hd)]; exact Nat.mod_lt _ hk
  have hv : (l[j / k])[j % k]? = some (l[j / k])[j % k] := List.getElem?_eq_getElem hm
  have := flatten_at hl hx hv
  rw [show j / k * k + j % k = j from by rw [Nat.mul_comm]; exact Nat.div_add_mod j k] at this
  rw [hv, ← this, h]

/-- What the cells of a row of structs are. -/
theorem Rw.raw {α : Type} {k : Nat} {P : List Value → α → Prop} {w : World} {R : Nat → Prop} {A : Option Addr} {n c : Nat} {l : List α} (h : Rw k P w R A n c l) :
    n = 0 ∨ ∃ raw : List (List Value), raw.length = n ∧ (∀ y ∈ raw, y.length = k) ∧ (∀ (j : Nat) (vs : List Value) (x : α), raw[j]? = some vs → l[j]? = some x → P vs x) ∧ ∃ b o, A = some ⟨b, o, none⟩ ∧ ∀ (j : Nat) (vs : List Value), raw[j]? = some vs → ∀ (i : Nat) v, vs[i]? = some v → w.cell? ⟨b, o + j * k + i, none⟩ = some v := by
  obtain ⟨h1, h2, h3, h4⟩ := h
  rcases h4 with h4 | ⟨b, o, e, hb, hlt, hc⟩
  · exact .inl h4
  right
  have hall : ∀ j, j < n → ∃ vs : List Value, vs.length = k ∧ (∀ (i : Nat) v, vs[i]? = some v → w.cell? ⟨b, o + j * k + i, none⟩ = some v) ∧ ∀ x, l[j]? = some x → P vs x := fun j hj => by
    have hl : j < l.length := by omega
    obtain ⟨vs, a1, a2, a3⟩ := hc j l[j] (List.getElem?_eq_getElem hl)
    refine ⟨vs, a1, a2, fun x hx => ?_⟩
    rw [List.getElem?_eq_getElem hl] at hx
    exact Option.some.inj hx ▸ a3
  obtain ⟨V, hV⟩ : ∃ V : Nat → List Value, ∀ j, j < n → (V j).length = k ∧ (∀ (i : Nat) v, (V j)[i]? = some v → w.cell? ⟨b, o + j * k + i, none⟩ = some v) ∧ ∀ x, l[j]? = some x → P (V j) x :=
    ⟨fun j => if hj : j < n then Classical.choose (hall j hj) else [], fun j hj => by simp only [hj, dif_pos]; exact Classical.choose_spec (hall j hj)⟩
  have hget : ∀ (j : Nat) (vs : List Value), ((List.range n).map V)[j]? = some vs → j < n ∧ vs = V j := fun j vs hj => by
    rw [List.getElem?_map, Option.map_eq_some_iff] at hj
    obtain ⟨i, hi, rfl⟩ := hj
    have hjn : j < n := by have := (List.getElem?_eq_some_iff.1 hi).1; simpa using this
    rw [List.getElem?_range hjn] at hi
    exact ⟨hjn, by rw [Option.some.inj hi]⟩
  refine ⟨(List.range n).map V, by simp, fun y hy => ?_, fun j vs x hj hx => ?_, b, o, e, fun j vs hj i v hv => ?_⟩
  · obtain ⟨i, hi, rfl⟩ := List.mem_map.1 hy
    exact (hV i (by simpa using hi)).1
  · obtain ⟨hjn, rfl⟩ := hget j vs hj
    exact (hV j hjn).2.2 x hx
  · obtain ⟨hjn, rfl⟩ := hget j vs hj
    exact (hV j hjn).2.1 i v hv

/-- A row of the call's own reads as what its cells say. -/
theorem Rw.of_own {α : Type} {k : Nat} {P : List Value → α → Prop} {w : World} {base n c : Nat} {E : TypeId} {A : Option Addr} {l : List α} {raw : List (List Value)} {R : Nat → Prop} (h : w.ownsRow base E k (.slice A n c) n raw.flatten)
    (hbig : n ≤ 140737488351232) (hl : raw.length = n) (hln : l.length = n) (hk : ∀ y ∈ raw, y.length = k) (hP : ∀ (j : Nat) (vs : List Value) (x : α), raw[j]? = some vs → l[j]? = some x → P vs x) (hR : ∀ ad, A = some ad → base ≤ ad.block → R ad.block) : Rw k P w R A n c l := by
  rcases h.2 with ⟨hv, hn⟩ | ⟨g, cap, cur, hv, hb, hg, hnc, hcm, hcs, ht⟩
  · injection hv with h1 h2 h3
    subst h1 h2 h3
    exact ⟨hln, Nat.le_refl _, ⟨by simp [maxLen], by omega⟩, .inl rfl⟩
  · injection hv with h1 h2 h3
    subst h1 h3
    refine ⟨hln, hnc, ⟨hcm, hbig⟩, .inr ⟨g, 0, rfl, hR _ rfl hb, ?_, fun j x hx => ?_⟩⟩
    · rcases Nat.lt_or_ge g w.heap.size with hlt | hge
      · exact hlt
      · rw [Array.getElem?_eq_none hge] at hg; cases hg
    · have hjr : j < raw.length := by have := (List.getElem?_eq_some_iff.1 hx).1; omega
      refine ⟨raw[j], hk _ (List.getElem_mem hjr), fun i v hv => ?_, hP j _ x (List.getElem?_eq_getElem hjr) hx⟩
      have := h.cells (g := g) rfl (j * k + i) v (flatten_at hk (List.getElem?_eq_getElem hjr) hv)
      have add : (⟨g, 0, none⟩ : Addr).add (j * k + i) = ⟨g, 0 + j * k + i, none⟩ := by by_cases hj : j * k + i = 0 <;> simp [Addr.add, hj]; omega
      rwa [add] at this
/-- Its cells, to be appended. -/
theorem Rw.fl {α : Type} {k : Nat} {P : List Value → α → Prop} {w : World} {R : Nat → Prop} {A : Option Addr} {n c : Nat} {l : List α} (h : Rw k P w R A n c l) (hk : 0 < k) (h1 : ∀ vs x, P vs x → ∀ v ∈ vs, v.oneCell' = true) :
    ∃ raw : List (List Value), raw.length = n ∧ (∀ y ∈ raw, y.length = k) ∧ (∀ (j : Nat) (vs : List Value) (x : α), raw[j]? = some vs → l[j]? = some x → P vs x) ∧ Fl w k A n raw.flatten := by
  rcases h.raw with h0 | ⟨raw, r1, r2, r3, b, o, e, r4⟩
  · subst h0
    exact ⟨[], rfl, by simp, by simp, by simp, by simp, .inl rfl⟩
  · refine ⟨raw, r1, r2, r3, by rw [flatten_len r2, r1], fun v hv => ?_, .inr ⟨b, o, e, fun j u hu => ?_⟩⟩
    · obtain ⟨y, hy, hv⟩ := List.mem_flatten.1 hv
      obtain ⟨j, hj, rfl⟩ := List.getElem_of_mem hy
      have hjl : j < l.length := by have := h.1; omega
      exact h1 _ _ (r3 j _ _ (List.getElem?_eq_getElem hj) (List.getElem?_eq_getElem hjl)) v hv
    · obtain ⟨x, hx, hv⟩ := flatten_of hk r2 hu
      have := r4 _ _ hx _ _ hv
      rwa [Nat.add_assoc, show j / k * k + j % k = j from by rw [Nat.mul_comm]; exact Nat.div_add_mod j k] at this

theorem Rw.flat_fl {α : Type} {k : Nat} {f : α → List Value} {okp : α → Prop} {w : World} {R : Nat → Prop} {A : Option Addr} {n c : Nat} {l : List α} (h : Rw k (fun vs x => vs = f x ∧ okp x) w R A n c l) (hk : 0 < k) (h1 : ∀ x, ∀ v ∈ f x, v.oneCell' = true) : Fl w k A n (l.flatMap f) := by
  obtain ⟨raw, r1, r2, r3, r4⟩ := Rw.fl h hk (fun vs x hp v hv => h1 x v (hp.1 ▸ hv))
  have hl := h.1
  have e : raw = l.map f := by
    apply List.ext_getElem?
    intro j
    by_cases hj : j < n
    · have a1 : raw[j]? = some raw[j] := List.getElem?_eq_getElem (by omega)
      have a2 : l[j]? = some l[j] := List.getElem?_eq_getElem (by omega)
      have := (r3 j _ _ a1 a2).1
      rw [a1, List.getElem?_map, a2, this]; rfl
    · rw [List.getElem?_eq_none (by omega), List.getElem?_eq_none (by rw [List.length_map]; omega)]
  rw [e, ← List.flatMap_def] at r4
  exact r4
theorem Rw.flat_own {α : Type} {k : Nat} {f : α → List Value} {okp : α → Prop} {w : World} {base n c : Nat} {E : TypeId} {A : Option Addr} {l : List α} {R : Nat → Prop} (h : w.ownsRow base E k (.slice A n c) n (l.flatMap f)) (hbig : n ≤ 140737488351232) (hln : l.length = n) (hf : ∀ x, (f x).length = k) (hok : ∀ x ∈ l, okp x)
    (hR : ∀ ad, A = some ad → base ≤ ad.block → R ad.block) : Rw k (fun vs x => vs = f x ∧ okp x) w R A n c l := by
  rw [List.flatMap_def] at h
  refine Rw.of_own h hbig (by rw [List.length_map]; exact hln) hln (fun y hy => ?_) (fun j vs x h1 h2 => ?_) hR
  · obtain ⟨x, _, rfl⟩ := List.mem_map.1 hy
    exact hf x
  · rw [List.getElem?_map, h2] at h1
    exact ⟨(Option.some.inj h1).symm, hok x (List.mem_of_getElem? h2)⟩
theorem Dut.one (x : Dut) : ∀ v ∈ x.cells, v.oneCell' = true := by intro v hv; simp [Dut.cells] at hv; rcases hv with rfl | rfl | rfl <;> rfl
theorem Nod.one (x : Nod) : ∀ v ∈ x.cells, v.oneCell' = true := by intro v hv; simp [Nod.cells] at hv; rcases hv with rfl | rfl | rfl | rfl | rfl | rfl | rfl <;> rfl
theorem Mat.one (x : Mat) : ∀ v ∈ x.cells, v.oneCell' = true := by intro v hv; simp [Mat.cells] at hv; rcases hv with rfl | rfl | rfl | rfl | rfl | rfl | rfl <;> rfl
theorem Dus.fl {w : World} {R : Nat → Prop} {A : Option Addr} {n c : Nat} {l : List Dut} (h : Dus w R A n c l) : Fl w 3 A n (l.flatMap Dut.cells) := Rw.flat_fl h (by omega) Dut.one
theorem Nds.fl {w : World} {R : Nat → Prop} {A : Option Addr} {n c : Nat} {l : List Nod} (h : Nds w R A n c l) : Fl w 7 A n (l.flatMap Nod.cells) := Rw.flat_fl h (by omega) Nod.one
theorem Ms.fl {w : World} {R : Nat → Prop} {A : Option Addr} {n c : Nat} {l : List Mat} (h : Ms w R A n c l) : Fl w 7 A n (l.flatMap Mat.cells) := Rw.flat_fl h (by omega) Mat.one
theorem Rw.all {α : Type} {k : Nat} {f : α → List Value} {okp : α → Prop} {w : World} {R : Nat → Prop} {A : Option Addr} {n c : Nat} {l : List α} (h : Rw k (fun vs x => vs = f x ∧ okp x) w R A n c l) : ∀ x ∈ l, okp x := by
  intro x hx
  obtain ⟨j, hj, rfl⟩ := List.getElem_of_mem hx
  obtain ⟨b, o, y, vs, _, _, _, hy, _, _, hp⟩ := h.at_ (j := j) (by have := h.1; omega)
  rw [List.getElem?_eq_getElem hj] at hy
  exact Option.some.inj hy ▸ hp.2
theorem own_none (w : World) (E : TypeId) (k : Nat) : (w.alloc (.cells #[] E)).ownsRow w.heap.size E k (.slice (some ⟨w.heap.size, 0, none⟩) 0 0) 0 [] :=
  World.ownsRow_lit w #[] 0 (Nat.le_refl _) (by simp [maxLen]) (by simp)
theorem flatMap_app {α β : Type} (f : α → List β) (l m : List α) : (l ++ m).flatMap f = l.flatMap f ++ m.flatMap f := List.flatMap_append

theorem info_of {P : Program} {E : TypeId} {z : Value} {k b : Nat} (h : (P.info? E).map (fun i => (i.zero, i.size, i.bytes)) = some (some z, k, b)) : ∃ i, P.info? E = some i ∧ i.zero = some z ∧ i.size = k ∧ i.bytes = b := by
  cases hi : P.info? E with
  | none => rw [hi] at h; cases h
  | some i =>
    rw [hi] at h
    simp only [Option.map_some, Option.some.injEq, Prod.mk.injEq] at h
    exact ⟨i, rfl, h.1, h.2.1, h.2.2⟩
theorem dutinfo : (Try.prog.info? 121).map (fun i => (i.zero, i.size, i.bytes)) = some (some (.agg #[.int .i64 0, .int .i64 0, .string ⟨#[]⟩]), 3, 32) := by kernel_rfl
theorem nodinfo : (Try.prog.info? 72).map (fun i => (i.zero, i.size, i.bytes)) = some (some (.agg #[.int .i64 0, .int .i64 0, .int .i64 0, .string ⟨#[]⟩, .int .i64 0, .string ⟨#[]⟩, .bool false]), 7, 72) := by kernel_rfl
theorem append_duts {w : World} {base n c m c2 ty : Nat} {R : Nat → Prop} {A A2 : Option Addr} {xs ys : List Dut} (h : w.ownsRow base 121 3 (.slice A n c) n (xs.flatMap Dut.cells)) (hy : Dus w R A2 m c2 ys) (hn : n + m ≤ 1000000) (hbase : base ≤ w.heap.size) :
    ∃ A' c' w', (Builtin.append_ #[29, 29] ty #[.slice A n c, .slice A2 m c2]).run Try.prog w = .ok (.slice A' (n + m) c') w' ∧
      w'.ownsRow base 121 3 (.slice A' (n + m) c') (n + m) ((xs ++ ys).flatMap Dut.cells) ∧ Below base w w' ∧ w.grownBy w' (Value.slice A n c).ownBlock ∧
      ((Value.slice A' (n + m) c').ownBlock = (Value.slice A n c).ownBlock ∨ (Value.slice A' (n + m) c').ownBlock = some w.heap.size) := by
  obtain ⟨i, hi, hz, hs, hb⟩ := info_of dutinfo
  rw [flatMap_app]
  exact append_rows Try.underlying29 hi hz hs hb rfl (by omega) (by omega) h hy.fl hn hbase
theorem append_nods {w : World} {base n c m c2 ty : Nat} {R : Nat → Prop} {A A2 : Option Addr} {xs ys : List Nod} (h : w.ownsRow base 72 7 (.slice A n c) n (xs.flatMap Nod.cells)) (hy : Nds w R A2 m c2 ys) (hn : n + m ≤ 1000000) (hbase : base ≤ w.heap.size) :
    ∃ A' c' w', (Builtin.append_ #[35, 35] ty #[.slice A n c, .slice A2 m c2]).run Try.prog w = .ok (.slice A' (n + m) c') w' ∧
      w'.ownsRow base 72 7 (.slice A' (n + m) c') (n + m) ((xs ++ ys).flatMap Nod.cells) ∧ Below base w w' ∧ w.grownBy w' (Value.slice A n c).ownBlock ∧
      ((Value.slice A' (n + m) c').ownBlock = (Value.slice A n c).ownBlock ∨ (Value.slice A' (n + m) c').ownBlock = some w.heap.size) := by
  obtain ⟨i, hi, hz, hs, hb⟩ := info_of nodinfo
  rw [flatMap_app]
  exact append_rows Try.underlying35 hi hz hs hb rfl (by omega) (by omega) h hy.fl hn hbase

/-- append(append([]T{}, a...), b...). -/
theorem both_dus {w : World} {R : Nat → Prop} {A0 A1 : Option Addr} {p0 c0 p1 c1 q : Nat} {L0 L1 : List Dut} (h0 : Dus w R A0 p0 c0 L0) (h1 : Dus w R A1 p1 c1 L1) (h : p0 + p1 ≤ 1000000) (hq : q = p0 + p1) :
    ∃ A5 c5 w5 A6 c6 w6, (Builtin.append_ #[29, 29] 29 #[.slice (some ⟨w.heap.size, 0, none⟩) 0 0, .slice A0 p0 c0]).run Try.prog (w.alloc (.cells #[] 121)) = .ok (.slice A5 p0 c5) w5 ∧
      (Builtin.append_ #[29, 29] 29 #[.slice A5 p0 c5, .slice A1 p1 c1]).run Try.prog w5 = .ok (.slice A6 q c6) w6 ∧ Below w.heap.size w w6 ∧ Dus w6 (fun _ => True) A6 q c6 (L0 ++ L1) ∧ w6.ownsRow w.heap.size 121 3 (.slice A6 q c6) q ((L0 ++ L1).flatMap Dut.cells) := by
  subst hq
  have e1 : Below w.heap.size w (w.alloc (.cells #[] 121)) := (Below.refl _ _).alloc (Nat.le_refl _) _
  obtain ⟨A5, c5, w5, r5, o5, b5, _, _⟩ := append_duts (ty := 29) (xs := []) (own_none w 121 3) (h0.keep (Kept.all e1 R) (fun _ h _ => h)) (by omega) e1.size
  rw [Nat.zero_add] at r5 o5
  have e5 := e1.trans b5
  obtain ⟨A6, c6, w6, r6, o6, b6, _, _⟩ := append_duts (ty := 29) o5 (h1.keep (Kept.all e5 R) (fun _ h _ => h)) h e5.size
  refine ⟨A5, c5, w5, A6, c6, w6, r5, r6, e5.trans b6, ?_, o6⟩
  exact Rw.flat_own o6 (by omega) (by rw [List.length_append, Rw.len h0, Rw.len h1]) (fun _ => rfl) (fun x hx => (List.mem_append.1 hx).elim (Rw.all h0 x) (Rw.all h1 x)) (fun _ _ _ => trivial)
/-- append([]T{}, x). -/
theorem both_dus_one {w : World} (x : Dut) (hx : x.ok) :
    ∃ A5 c5 w5, (Builtin.append_ #[29, 29] 29 #[.slice (some ⟨w.heap.size, 0, none⟩) 0 0, .slice (some ⟨w.heap.size + 1, 0, none⟩) 1 1]).run Try.prog ((w.alloc (.cells #[] 121)).alloc (.cells x.cells.toArray 121)) = .ok (.slice A5 1 c5) w5 ∧
      Below w.heap.size w w5 ∧ Dus w5 (fun _ => True) A5 1 c5 [x] := by
  have h1 := Rw.lit (k := 3) (R := fun _ => True) (P := fun vs (y : Dut) => vs = y.cells ∧ y.ok) (w.alloc (.cells #[] 121)) 121 Dut.cells [x] (n := 1) rfl (by omega) trivial (fun _ _ => rfl) (fun y hy => ⟨rfl, by simp at hy; subst hy; exact hx⟩)
  rw [size_al] at h1
  have e1 : Below w.heap.size w ((w.alloc (.cells #[] 121)).alloc (.cells (List.flatMap Dut.cells [x]).toArray 121)) := ((Below.refl _ _).alloc (Nat.le_refl _) _).alloc (by simp only [size_al]; omega) _
  obtain ⟨A5, c5, w5, r5, o5, b5, _, _⟩ := append_duts (ty := 29) (xs := []) ((own_none w 121 3).alloc (.cells (List.flatMap Dut.cells [x]).toArray 121)) h1 (by omega) e1.size
  rw [Nat.zero_add] at r5 o5
  refine ⟨A5, c5, w5, by simpa using r5, e1.trans b5, ?_⟩
  exact Rw.flat_own o5 (by omega) rfl (fun _ => rfl) (fun y hy => by simp at hy; subst hy; exact hx) (fun _ _ _ => trivial)

/-- append(append([]T{}, a...), b...). -/
theorem both_nds {w : World} {R : Nat → Prop} {A0 A1 : Option Addr} {p0 c0 p1 c1 q : Nat} {L0 L1 : List Nod} (h0 : Nds w R A0 p0 c0 L0) (h1 : Nds w R A1 p1 c1 L1) (h : p0 + p1 ≤ 1000000) (hq : q = p0 + p1) :
    ∃ A5 c5 w5 A6 c6 w6, (Builtin.append_ #[35, 35] 35 #[.slice (some ⟨w.heap.size, 0, none⟩) 0 0, .slice A0 p0 c0]).run Try.prog (w.alloc (.cells #[] 72)) = .ok (.slice A5 p0 c5) w5 ∧
      (Builtin.append_ #[35, 35] 35 #[.slice A5 p0 c5, .slice A1 p1 c1]).run Try.prog w5 = .ok (.slice A6 q c6) w6 ∧ Below w.heap.size w w6 ∧ Nds w6 (fun _ => True) A6 q c6 (L0 ++ L1) ∧ w6.ownsRow w.heap.size 72 7 (.slice A6 q c6) q ((L0 ++ L1).flatMap Nod.cells) := by
  subst hq
  have e1 : Below w.heap.size w (w.alloc (.cells #[] 72)) := (Below.refl _ _).alloc (Nat.le_refl _) _
  obtain ⟨A5, c5, w5, r5, o5, b5, _, _⟩ := append_nods (ty := 35) (xs := []) (own_none w 72 7) (h0.keep (Kept.all e1 R) (fun _ h _ => h)) (by omega) e1.size
  rw [Nat.zero_add] at r5 o5
  have e5 := e1.trans b5
  obtain ⟨A6, c6, w6, r6, o6, b6, _, _⟩ := append_nods (ty := 35) o5 (h1.keep (Kept.all e5 R) (fun _ h _ => h)) h e5.size
  refine ⟨A5, c5, w5, A6, c6, w6, r5, r6, e5.trans b6, ?_, o6⟩
  exact Rw.flat_own o6 (by omega) (by rw [List.length_append, Rw.len h0, Rw.len h1]) (fun _ => rfl) (fun x hx => (List.mem_append.1 hx).elim (Rw.all h0 x) (Rw.all h1 x)) (fun _ _ _ => trivial)
/-- append([]T{}, x). -/
theorem both_nds_one {w : World} (x : Nod) (hx : x.ok) :
    ∃ A5 c5 w5, (Builtin.append_ #[35, 35] 35 #[.slice (some ⟨w.heap.size, 0, none⟩) 0 0, .slice (some ⟨w.heap.size + 1, 0, none⟩) 1 1]).run Try.prog ((w.alloc (.cells #[] 72)).alloc (.cells x.cells.toArray 72)) = .ok (.slice A5 1 c5) w5 ∧
      Below w.heap.size w w5 ∧ Nds w5 (fun _ => True) A5 1 c5 [x] := by
  have h1 := Rw.lit (k := 7) (R := fun _ => True) (P := fun vs (y : Nod) => vs = y.cells ∧ y.ok) (w.alloc (.cells #[] 72)) 72 Nod.cells [x] (n := 1) rfl (by omega) trivial (fun _ _ => rfl) (fun y hy => ⟨rfl, by simp at hy; subst hy; exact hx⟩)
  rw [size_al] at h1
  have e1 : Below w.heap.size w ((w.alloc (.cells #[] 72)).alloc (.cells (List.flatMap Nod.cells [x]).toArray 72)) := ((Below.refl _ _).alloc (Nat.le_refl _) _).alloc (by simp only [size_al]; omega) _
  obtain ⟨A5, c5, w5, r5, o5, b5, _, _⟩ := append_nods (ty := 35) (xs := []) ((own_none w 72 7).alloc (.cells (List.flatMap Nod.cells [x]).toArray 72)) h1 (by omega) e1.size
  rw [Nat.zero_add] at r5 o5
  refine ⟨A5, c5, w5, by simpa using r5, e1.trans b5, ?_⟩
  exact Rw.flat_own o5 (by omega) rfl (fun _ => rfl) (fun y hy => by simp at hy; subst hy; exact hx) (fun _ _ _ => trivial)
end Go.Proofs.Ytincnopaclmppaa
/- Rows of the call's own whose elements lead to memory: append. -/
namespace Go.Proofs.Ytincnopaclmppaa
set_option linter.unusedVariables false
open Go.RowKit

/-- A row of the call's own, of so many cells each, which say l. -/
def Ow {α : Type} (k : Nat) (P : List Value → α → Prop) (w : World) (base : Nat) (E : TypeId) (A : Option Addr) (n c : Nat) (l : List α) : Prop :=
  ∃ raw : List (List Value), w.ownsRow base E k (.slice A n c) n raw.flatten ∧ raw.length = n ∧ l.length = n ∧ (∀ y ∈ raw, y.length = k) ∧ ∀ (j : Nat) (vs : List Value) (x : α), raw[j]? = some vs → l[j]? = some x → P vs x
section
variable {α : Type} {k : Nat} {P P' : List Value → α → Prop} {w w' : World} {base : Nat} {E : TypeId} {A : Option Addr} {n c : Nat} {l : List α}
theorem Ow.len (h : Ow k P w base E A n c l) : l.length = n := by obtain ⟨_, _, _, h, _⟩ := h; exact h
theorem Ow.made (k : Nat) (P : List Value → α → Prop) (w : World) (E : TypeId) : Ow k P (w.alloc (.cells #[] E)) w.heap.size E (some ⟨w.heap.size, 0, none⟩) 0 0 [] :=
  ⟨[], own_none w E k, rfl, rfl, by simp, by simp⟩
theorem Ow.nil (k : Nat) (P : List Value → α → Prop) (w : World) (base : Nat) (E : TypeId) : Ow k P w base E none 0 0 [] :=
  ⟨[], ⟨by simp, .inl ⟨rfl, rfl⟩⟩, rfl, rfl, by simp, by simp⟩
theorem Ow.mapP (h : Ow k P w base E A n c l) (hP : ∀ vs x, x ∈ l → P vs x → P' vs x) : Ow k P' w base E A n c l := by
  obtain ⟨raw, h1, h2, h3, h4, h5⟩ := h
  exact ⟨raw, h1, h2, h3, h4, fun j vs x a b => hP vs x (List.mem_of_getElem? b) (h5 j vs x a b)⟩
theorem Ow.grown (h : Ow k P w base E A n c l) {row : Option Nat} (hg : w.grownBy w' row) (hne : (Value.slice A n c).ownBlock = none ∨ (Value.slice A n c).ownBlock ≠ row) : Ow k P w' base E A n c l := by
  obtain ⟨raw, h1, h2, h3, h4, h5⟩ := h
  exact ⟨raw, h1.kept (row := row) hg hne, h2, h3, h4, h5⟩
theorem Ow.below (h : Ow k P w base E A n c l) (hb : Below w.heap.size w w') : Ow k P w' base E A n c l := by
  refine h.grown (row := none) ⟨hb.os, hb.tape, hb.output, hb.size, fun k hk _ => hb.block k hk⟩ ?_
  by_cases hv : (Value.slice A n c).ownBlock = none
  · exact .inl hv
  · exact .inr hv
theorem Ow.alloc (h : Ow k P w base E A n c l) (o : Obj) : Ow k P (w.alloc o) base E A n c l := h.below ((Below.refl _ _).alloc (Nat.le_refl _) _)
theorem Ow.rw {R : Nat → Prop} (h : Ow k P w base E A n c l) (hbig : n ≤ 140737488351232) (hR : ∀ ad, A = some ad → base ≤ ad.block → R ad.block) : Rw k P w R A n c l := by
  obtain ⟨raw, h1, h2, h3, h4, h5⟩ := h
  exact Rw.of_own h1 hbig h2 h3 h4 h5 hR
theorem Ow.app {Pg : Program} {T : TypeId} {i : TypeInfo} {z : Value} {by_ : Nat} (ht : Pg.underlying T = some (.slice E)) (hi : Pg.info? E = some i) (hz : i.zero = some z) (hs : i.size = k) (hb : i.bytes = by_) (hzs : z.cells.size = k) (hk : 0 < k) (hby : by_ ≤ 1000)
    {m c2 ty : Nat} {A2 : Option Addr} {R : Nat → Prop} {ys : List α} (h : Ow k P w base E A n c l) (hy : Rw k P w R A2 m c2 ys) (h1 : ∀ vs x, P vs x → ∀ v ∈ vs, v.oneCell' = true) (hn : n + m ≤ 1000000) (hbase : base ≤ w.heap.size) :
    ∃ A' c' w', (Builtin.append_ #[T, T] ty #[.slice A n c, .slice A2 m c2]).run Pg w = .ok (.slice A' (n + m) c') w' ∧ Ow k P w' base E A' (n + m) c' (l ++ ys) ∧ Below base w w' ∧ w.grownBy w' (Value.slice A n c).ownBlock ∧
      ((Value.slice A' (n + m) c').ownBlock = (Value.slice A n c).ownBlock ∨ (Value.slice A' (n + m) c').ownBlock = some w.heap.size) := by
  obtain ⟨raw, o1, o2, o3, o4, o5⟩ := h
  obtain ⟨raw2, r1, r2, r3, r4⟩ := hy.fl hk h1
  obtain ⟨A', c', w', hrun, hown, hbel, hg, ha⟩ := append_rows (ty := ty) (c2 := c2) ht hi hz hs hb hzs hk hby o1 r4 hn hbase
  refine ⟨A', c', w', hrun, ⟨raw ++ raw2, by rw [List.flatten_append]; exact hown, by rw [List.length_append, o2, r1], by rw [List.length_append, o3, hy.1], fun y hy => (List.mem_append.1 hy).elim (o4 y) (r2 y), fun j vs x a b => ?_⟩, hbel, hg, ha⟩
  by_cases hj : j < n
  · rw [List.getElem?_append_left (by omega)] at a b
    exact o5 j vs x a b
  · rw [List.getElem?_append_right (by omega)] at a b
    rw [o2] at a
    rw [o3] at b
    exact r3 (j - n) vs x a b
end

/-- Cells of slices. -/
def AlP (w : World) (R : Nat → Prop) (vs : List Value) (l : List Mat) : Prop := ∃ A n c, vs = [.slice A n c] ∧ Ms w R A n c l
def AnP (w : World) (R : Nat → Prop) (vs : List Value) (l : List (List Mat)) : Prop := ∃ A n c, vs = [.slice A n c] ∧ Als w R A n c l
theorem AlP.one {w : World} {R : Nat → Prop} (vs : List Value) (l : List Mat) (h : AlP w R vs l) : ∀ v ∈ vs, v.oneCell' = true := by
  obtain ⟨A, n, c, rfl, _⟩ := h
  intro v hv
  simp at hv
  subst hv
  rfl
theorem AnP.one {w : World} {R : Nat → Prop} (vs : List Value) (l : List (List Mat)) (h : AnP w R vs l) : ∀ v ∈ vs, v.oneCell' = true := by
  obtain ⟨A, n, c, rfl, _⟩ := h
  intro v hv
  simp at hv
  subst hv
  rfl
theorem AnP.keep {w w' : World} {R R' : Nat → Prop} {vs : List Value} {l : List (List Mat)} (h : AnP w R vs l) (hk : Kept R w w') (hR : ∀ b, R b → b < w.heap.size → R' b) : AnP w' R' vs l := by
  obtain ⟨A, n, c, e, h⟩ := h
  exact ⟨A, n, c, e, h.keep hk hR⟩
theorem AlP.keep {w w' : World} {R R' : Nat → Prop} {vs : List Value} {l : List Mat} (h : AlP w R vs l) (hk : Kept R w w') (hR : ∀ b, R b → b < w.heap.size → R' b) : AlP w' R' vs l := by
  obtain ⟨A, n, c, e, h⟩ := h
  exact ⟨A, n, c, e, h.keep hk hR⟩
theorem s1info : (Try.prog.info? 117).map (fun i => (i.zero, i.size, i.bytes)) = some (some (.slice none 0 0), 1, 24) := by kernel_rfl
theorem s0info : (Try.prog.info? 129).map (fun i => (i.zero, i.size, i.bytes)) = some (some (.slice none 0 0), 1, 24) := by kernel_rfl
/-- append to a target. -/
theorem append_anys {w : World} {base n c m c2 ty : Nat} {R R2 : Nat → Prop} {A A2 : Option Addr} {xs ys : Tgt} (h : Ow 1 (AnP w R2) w base 117 A n c xs) (hy : Rw 1 (AnP w R2) w R A2 m c2 ys) (hn : n + m ≤ 1000000) (hbase : base ≤ w.heap.size) :
    ∃ A' c' w', (Builtin.append_ #[26, 26] ty #[.slice A n c, .slice A2 m c2]).run Try.prog w = .ok (.slice A' (n + m) c') w' ∧ Ow 1 (AnP w R2) w' base 117 A' (n + m) c' (xs ++ ys) ∧ Below base w w' ∧ w.grownBy w' (Value.slice A n c).ownBlock ∧
      ((Value.slice A' (n + m) c').ownBlock = (Value.slice A n c).ownBlock ∨ (Value.slice A' (n + m) c').ownBlock = some w.heap.size) := by
  obtain ⟨i, hi, hz, hs, hb⟩ := info_of s1info
  exact Ow.app Try.underlying26 hi hz hs hb rfl (by omega) (by omega) h hy AnP.one hn hbase
theorem any_mono {w : World} {R : Nat → Prop} {A : Option Addr} {n c : Nat} {l : Tgt} (h : Tg w R A n c l) : Tg w (fun b => b < w.heap.size) A n c l := h.keep (Kept.refl _ _) fun _ _ h => h

/-- append(append(Target{}, a...), b...). -/
theorem both_tg {w : World} {R : Nat → Prop} {A0 A1 : Option Addr} {p0 c0 p1 c1 q : Nat} {L0 L1 : Tgt} (h0 : Tg w R A0 p0 c0 L0) (h1 : Tg w R A1 p1 c1 L1) (h : p0 + p1 ≤ 1000000) (hq : q = p0 + p1) :
    ∃ A5 c5 w5 A6 c6 w6, (Builtin.append_ #[26, 26] 26 #[.slice (some ⟨w.heap.size, 0, none⟩) 0 0, .slice A0 p0 c0]).run Try.prog (w.alloc (.cells #[] 117)) = .ok (.slice A5 p0 c5) w5 ∧
      (Builtin.append_ #[26, 26] 26 #[.slice A5 p0 c5, .slice A1 p1 c1]).run Try.prog w5 = .ok (.slice A6 q c6) w6 ∧ Below w.heap.size w w6 ∧ Tg w6 (fun _ => True) A6 q c6 (L0 ++ L1) := by
  subst hq
  have e1 : Below w.heap.size w (w.alloc (.cells #[] 117)) := (Below.refl _ _).alloc (Nat.le_refl _) _
  have hlow0 := h0.keep (Kept.all e1 R) (fun b _ hb => hb) (R' := fun b => b < w.heap.size)
  obtain ⟨A5, c5, w5, r5, o5, b5, _, _⟩ := append_anys (ty := 26) (xs := []) (Ow.made 1 (AnP (w.alloc (.cells #[] 117)) (fun b => b < w.heap.size)) w 117) hlow0 (by omega) e1.size
  rw [Nat.zero_add] at r5 o5
  have e5 := e1.trans b5
  have o5' := o5.mapP (P' := AnP w5 (fun b => b < w.heap.size)) (fun vs x _ hp => hp.keep (Kept.below b5 (fun b hb _ => hb)) (fun b hb _ => hb))
  have hlow1 := h1.keep (Kept.all e5 R) (fun b _ hb => hb) (R' := fun b => b < w.heap.size)
  obtain ⟨A6, c6, w6, r6, o6, b6, _, _⟩ := append_anys (ty := 26) o5' hlow1 h e5.size
  refine ⟨A5, c5, w5, A6, c6, w6, r5, r6, e5.trans b6, ?_⟩
  exact (o6.mapP (P' := AnP w6 (fun _ => True)) (fun vs x _ hp => hp.keep (Kept.below b6 (fun b hb _ => hb)) (fun _ _ _ => trivial))).rw (by omega) (fun _ _ _ => trivial)
/-- append(append(Target{}, a...), nil). -/
theorem hollow_tg {w : World} {R : Nat → Prop} {A0 : Option Addr} {p0 c0 : Nat} {L0 : Tgt} (h0 : Tg w R A0 p0 c0 L0) (h : p0 < 1000000) :
    ∃ A5 c5 w5 A6 c6 w6, (Builtin.append_ #[26, 26] 26 #[.slice (some ⟨w.heap.size, 0, none⟩) 0 0, .slice A0 p0 c0]).run Try.prog (w.alloc (.cells #[] 117)) = .ok (.slice A5 p0 c5) w5 ∧
      (Builtin.append_ #[26, 26] 26 #[.slice A5 p0 c5, .slice (some ⟨w5.heap.size, 0, none⟩) 1 1]).run Try.prog (w5.alloc (.cells #[.slice none 0 0] 117)) = .ok (.slice A6 (p0 + 1) c6) w6 ∧ Below w.heap.size w w6 ∧ Tg w6 (fun _ => True) A6 (p0 + 1) c6 (L0 ++ [[]]) := by
  have e1 : Below w.heap.size w (w.alloc (.cells #[] 117)) := (Below.refl _ _).alloc (Nat.le_refl _) _
  have hlow0 := h0.keep (Kept.all e1 R) (fun b _ hb => hb) (R' := fun b => b < w.heap.size)
  obtain ⟨A5, c5, w5, r5, o5, b5, _, _⟩ := append_anys (ty := 26) (xs := []) (Ow.made 1 (AnP (w.alloc (.cells #[] 117)) (fun b => b < w.heap.size)) w 117) hlow0 (by omega) e1.size
  rw [Nat.zero_add] at r5 o5
  have e5 := e1.trans b5
  have b7 : Below w5.heap.size w5 (w5.alloc (.cells #[.slice none 0 0] 117)) := (Below.refl _ _).alloc (Nat.le_refl _) _
  have o5' := (o5.mapP (P' := AnP (w5.alloc (.cells #[.slice none 0 0] 117)) (fun b => b < w.heap.size)) (fun vs x _ hp => hp.keep (Kept.below (b5.trans (b7.mono e5.size)) (fun b hb _ => hb)) (fun b hb _ => hb))).alloc (.cells #[.slice none 0 0] 117)
  have hlit : Rw 1 (AnP (w5.alloc (.cells #[.slice none 0 0] 117)) (fun b => b < w.heap.size)) (w5.alloc (.cells #[.slice none 0 0] 117)) (fun _ => True) (some ⟨w5.heap.size, 0, none⟩) 1 1 [[]] :=
    Rw.lit (k := 1) w5 117 (fun _ => [.slice none 0 0]) [[]] (n := 1) rfl (by omega) trivial (fun _ _ => rfl) (fun x hx => ⟨none, 0, 0, rfl, by simp at hx; subst hx; exact Rw.nil_ _ _ _ _⟩)
  obtain ⟨A6, c6, w6, r6, o6, b6, _, _⟩ := append_anys (ty := 26) o5' hlit (by omega) (e5.trans (b7.mono e5.size)).size
  refine ⟨A5, c5, w5, A6, c6, w6, r5, r6, (e5.trans (b7.mono e5.size)).trans b6, ?_⟩
  exact (o6.mapP (P' := AnP w6 (fun _ => True)) (fun vs x _ hp => hp.keep (Kept.below b6 (fun b hb _ => hb)) (fun _ _ _ => trivial))).rw (by omega) (fun _ _ _ => trivial)
end Go.Proofs.Ytincnopaclmppaa
/- Rows of the call's own that grow by one, whose elements lead to memory apart from the row itself. -/
namespace Go.Proofs.Ytincnopaclmppaa
set_option linter.unusedVariables false
open Go.RowKit

/-- The blocks from base on but for the row's own. -/
def Nb (base : Nat) (v : Value) (b : Nat) : Prop := base ≤ b ∧ some b ≠ v.ownBlock
/-- Elements that are kept where the memory that they lead to is. -/
def Keeps {α : Type} (P : World → (Nat → Prop) → List Value → α → Prop) : Prop :=
  ∀ (w w' : World) (R R' : Nat → Prop) vs x, P w R vs x → Kept R w w' → (∀ b, R b → b < w.heap.size → R' b) → P w' R' vs x
def Gr {α : Type} (k : Nat) (P : World → (Nat → Prop) → List Value → α → Prop) (w : World) (base : Nat) (E : TypeId) (A : Option Addr) (n c : Nat) (l : List α) : Prop :=
  Ow k (P w (Nb base (.slice A n c))) w base E A n c l ∧ base ≤ w.heap.size

section
variable {α : Type} {k : Nat} {P : World → (Nat → Prop) → List Value → α → Prop} {w w' : World} {base : Nat} {E : TypeId} {A : Option Addr} {n c : Nat} {l : List α}
theorem Ow.lt {P : List Value → α → Prop} (h : Ow k P w base E A n c l) : ∀ b, (Value.slice A n c).ownBlock = some b → base ≤ b ∧ b < w.heap.size := by
  obtain ⟨raw, h1, _⟩ := h
  exact h1.lt
theorem Gr.nil (w : World) (base : Nat) (hb : base ≤ w.heap.size) : Gr k P w base E none 0 0 [] := ⟨Ow.nil _ _ _ _ _, hb⟩
theorem Gr.len (h : Gr k P w base E A n c l) : l.length = n := h.1.len
theorem Gr.below (hP : Keeps P) (h : Gr k P w base E A n c l) (hb : Below w.heap.size w w') : Gr k P w' base E A n c l :=
  ⟨(h.1.mapP (fun vs x _ hp => hP _ _ _ _ vs x hp (Kept.all hb _) (fun _ h _ => h))).below hb, Nat.le_trans h.2 hb.size⟩
/-- It reads as its list; row and elements lie from base on. -/
theorem Gr.rw (hP : Keeps P) (h : Gr k P w base E A n c l) (hbig : n ≤ 140737488351232) : Rw k (P w (fun b => base ≤ b)) w (fun b => base ≤ b) A n c l :=
  (h.1.mapP (fun vs x _ hp => hP _ _ _ (fun b => base ≤ b) vs x hp (Kept.refl _ _) (fun _ h _ => h.1))).rw hbig (fun _ _ h => h)
/-- One more, laid behind as a literal. -/
theorem Gr.push {Pg : Program} {T : TypeId} {i : TypeInfo} {z : Value} {by_ : Nat} (ht : Pg.underlying T = some (.slice E)) (hi : Pg.info? E = some i) (hz : i.zero = some z) (hs : i.size = k) (hb : i.bytes = by_) (hzs : z.cells.size = k) (hk : 0 < k) (hby : by_ ≤ 1000)
    {ty : Nat} {vs : List Value} {x : α} (hP : Keeps P) (h : Gr k P w base E A n c l) (hx : P w (Nb base (.slice A n c)) vs x) (hl : vs.length = k) (h1 : ∀ w R vs (x : α), P w R vs x → ∀ v ∈ vs, v.oneCell' = true) (hn : n < 1000000) :
    ∃ A' c' w', (Builtin.append_ #[T, T] ty #[.slice A n c, .slice (some ⟨w.heap.size, 0, none⟩) 1 1]).run Pg (w.alloc (.cells vs.toArray E)) = .ok (.slice A' (n + 1) c') w' ∧ Gr k P w' base E A' (n + 1) c' (l ++ [x]) ∧ Below base w w' := by
  have hbase := h.2
  have a1 : Below w.heap.size w (w.alloc (.cells vs.toArray E)) := (Below.refl _ _).alloc (Nat.le_refl _) _
  have h' := Gr.below hP h a1
  have hlit : Rw k (P (w.alloc (.cells vs.toArray E)) (Nb base (.slice A n c))) (w.alloc (.cells vs.toArray E)) (fun _ => True) (some ⟨w.heap.size, 0, none⟩) 1 1 [x] := by
    have := Rw.lit (P := P (w.alloc (.cells vs.toArray E)) (Nb base (.slice A n c))) (R := fun _ => True) w E (fun _ => vs) [x] (n := 1) rfl (by omega) trivial (fun _ _ => hl) (fun y hy => by simp at hy; subst hy; exact hP _ _ _ _ _ _ hx (Kept.all a1 _) (fun _ h _ => h))
    simpa using this
  obtain ⟨A', c', w', hrun, hown, hbel, hg, hob⟩ := Ow.app (ty := ty) ht hi hz hs hb hzs hk hby h'.1 hlit (h1 _ _) (by omega) h'.2
  refine ⟨A', c', w', hrun, ⟨hown.mapP fun vs x _ hp => hP _ _ _ _ vs x hp ⟨hg.size, fun b hR hlt => hg.block b hlt hR.2⟩ (fun b hR hlt => ⟨hR.1, ?_⟩), Nat.le_trans h'.2 hbel.size⟩, (a1.mono hbase).trans hbel⟩
  rcases hob with e | e
  · rw [e]; exact hR.2
  · rw [e]
    intro he
    injection he with he
    omega
end
theorem keeps_alp : Keeps AlP := fun _ _ _ _ _ _ h hk hR => h.keep hk hR
theorem keeps_anp : Keeps AnP := fun _ _ _ _ _ _ h hk hR => h.keep hk hR
theorem keeps_rul : Keeps RulAt := fun _ _ _ _ _ _ h hk hR => h.keep hk hR
theorem keeps_pol (d : Nat) : Keeps (fun w R => PolAt w R d) := fun _ _ _ _ _ _ h hk hR => PolAt.keep hk hR h
theorem matinfo : (Try.prog.info? 133).map (fun i => (i.zero, i.size, i.bytes)) = some (some (.agg #[.int .i64 0, .string ⟨#[]⟩, .bool false, .int .i64 0, .int .i64 0, .int .i64 0, .string ⟨#[]⟩]), 7, 72) := by kernel_rfl
/-- append([]Match{}, a...). -/
theorem copy_mats {w : World} {R : Nat → Prop} {A0 : Option Addr} {p0 c0 : Nat} {L0 : List Mat} (h0 : Ms w R A0 p0 c0 L0) (h : p0 ≤ 1000000) :
    ∃ A5 c5 w5, (Builtin.append_ #[129, 129] 129 #[.slice (some ⟨w.heap.size, 0, none⟩) 0 0, .slice A0 p0 c0]).run Try.prog (w.alloc (.cells #[] 133)) = .ok (.slice A5 p0 c5) w5 ∧ Below w.heap.size w w5 ∧ Ms w5 (fun b => w.heap.size ≤ b) A5 p0 c5 L0 := by
  have e1 : Below w.heap.size w (w.alloc (.cells #[] 133)) := (Below.refl _ _).alloc (Nat.le_refl _) _
  obtain ⟨i, hi, hz, hs, hb⟩ := info_of matinfo
  obtain ⟨A5, c5, w5, r5, o5, b5, _, _⟩ := append_rows (ty := 129) (c2 := c0) (m := p0) Try.underlying129 hi hz hs hb rfl (by omega) (by omega) (own_none w 133 7) (Ms.fl (h0.keep (Kept.all e1 R) (fun _ h _ => h))) (by omega) e1.size
  rw [Nat.zero_add] at r5 o5
  refine ⟨A5, c5, w5, r5, e1.trans b5, ?_⟩
  exact Rw.flat_own o5 (by omega) (Rw.len h0) (fun _ => rfl) (Rw.all h0) (fun _ _ h => h)
theorem copy_duts {w : World} {R : Nat → Prop} {A0 : Option Addr} {p0 c0 : Nat} {L0 : List Dut} (h0 : Dus w R A0 p0 c0 L0) (h : p0 ≤ 1000000) :
    ∃ A5 c5 w5, (Builtin.append_ #[29, 29] 29 #[.slice (some ⟨w.heap.size, 0, none⟩) 0 0, .slice A0 p0 c0]).run Try.prog (w.alloc (.cells #[] 121)) = .ok (.slice A5 p0 c5) w5 ∧ Below w.heap.size w w5 ∧ Dus w5 (fun b => w.heap.size ≤ b) A5 p0 c5 L0 := by
  have e1 : Below w.heap.size w (w.alloc (.cells #[] 121)) := (Below.refl _ _).alloc (Nat.le_refl _) _
  obtain ⟨A5, c5, w5, r5, o5, b5, _, _⟩ := append_duts (ty := 29) (xs := []) (own_none w 121 3) (h0.keep (Kept.all e1 R) (fun _ h _ => h)) (by omega) e1.size
  rw [Nat.zero_add] at r5 o5
  refine ⟨A5, c5, w5, r5, e1.trans b5, ?_⟩
  exact Rw.flat_own o5 (by omega) (Rw.len h0) (fun _ => rfl) (Rw.all h0) (fun _ _ h => h)
theorem copy_nods {w : World} {R : Nat → Prop} {A0 : Option Addr} {p0 c0 : Nat} {L0 : List Nod} (h0 : Nds w R A0 p0 c0 L0) (h : p0 ≤ 1000000) :
    ∃ A5 c5 w5, (Builtin.append_ #[35, 35] 35 #[.slice (some ⟨w.heap.size, 0, none⟩) 0 0, .slice A0 p0 c0]).run Try.prog (w.alloc (.cells #[] 72)) = .ok (.slice A5 p0 c5) w5 ∧ Below w.heap.size w w5 ∧ Nds w5 (fun b => w.heap.size ≤ b) A5 p0 c5 L0 := by
  have e1 : Below w.heap.size w (w.alloc (.cells #[] 72)) := (Below.refl _ _).alloc (Nat.le_refl _) _
  obtain ⟨A5, c5, w5, r5, o5, b5, _, _⟩ := append_nods (ty := 35) (xs := []) (own_none w 72 7) (h0.keep (Kept.all e1 R) (fun _ h _ => h)) (by omega) e1.size
  rw [Nat.zero_add] at r5 o5
  refine ⟨A5, c5, w5, r5, e1.trans b5, ?_⟩
  exact Rw.flat_own o5 (by omega) (Rw.len h0) (fun _ => rfl) (Rw.all h0) (fun _ _ h => h)
/-- One more AllOf, one more AnyOf. -/
theorem push_all {w : World} {base n c : Nat} {A : Option Addr} {l : List (List Mat)} {A1 : Option Addr} {n1 c1 : Nat} {x : List Mat} (h : Gr 1 AlP w base 129 A n c l) (hx : Ms w (Nb base (.slice A n c)) A1 n1 c1 x) (hn : n < 1000000) :
    ∃ A' c' w', (Builtin.append_ #[117, 117] 117 #[.slice A n c, .slice (some ⟨w.heap.size, 0, none⟩) 1 1]).run Try.prog (w.alloc (.cells #[.slice A1 n1 c1] 129)) = .ok (.slice A' (n + 1) c') w' ∧ Gr 1 AlP w' base 129 A' (n + 1) c' (l ++ [x]) ∧ Below base w w' := by
  obtain ⟨i, hi, hz, hs, hb⟩ := info_of s0info
  exact Gr.push (vs := [.slice A1 n1 c1]) (x := x) Try.underlying117 hi hz hs hb rfl (by omega) (by omega) keeps_alp h ⟨A1, n1, c1, rfl, hx⟩ rfl (fun _ _ _ _ => AlP.one _ _) hn
theorem push_any {w : World} {base n c : Nat} {A : Option Addr} {l : Tgt} {A1 : Option Addr} {n1 c1 : Nat} {x : List (List Mat)} (h : Gr 1 AnP w base 117 A n c l) (hx : Als w (Nb base (.slice A n c)) A1 n1 c1 x) (hn : n < 1000000) :
    ∃ A' c' w', (Builtin.append_ #[26, 26] 26 #[.slice A n c, .slice (some ⟨w.heap.size, 0, none⟩) 1 1]).run Try.prog (w.alloc (.cells #[.slice A1 n1 c1] 117)) = .ok (.slice A' (n + 1) c') w' ∧ Gr 1 AnP w' base 117 A' (n + 1) c' (l ++ [x]) ∧ Below base w w' := by
  obtain ⟨i, hi, hz, hs, hb⟩ := info_of s1info
  exact Gr.push (vs := [.slice A1 n1 c1]) (x := x) Try.underlying26 hi hz hs hb rfl (by omega) (by omega) keeps_anp h ⟨A1, n1, c1, rfl, hx⟩ rfl (fun _ _ _ _ => AnP.one _ _) hn
/-- What is new lies apart from a row that is older. -/
theorem Gr.apart {α : Type} {k : Nat} {P : World → (Nat → Prop) → List Value → α → Prop} {w : World} {base : Nat} {E : TypeId} {A : Option Addr} {n c : Nat} {l : List α} (h : Gr k P w base E A n c l) : ∀ b, w.heap.size ≤ b → Nb base (.slice A n c) b := fun b hb => by
  refine ⟨Nat.le_trans h.2 hb, fun e => ?_⟩
  have := (h.1.lt b e.symm).2
  omega
/-- A block that is known to be empty is a row of the call's own. -/
theorem own_ob {V : World} {E : TypeId} {k g base : Nat} (h : Ob V g E #[]) (hb : base ≤ g) : V.ownsRow base E k (.slice (some ⟨g, 0, none⟩) 0 0) 0 [] :=
  ⟨by simp, .inr ⟨g, 0, #[], rfl, hb, h, Nat.le_refl _, by simp [maxLen], by simp, by simp⟩⟩
/-- append to an empty row that was laid before. -/
theorem copy_duts_at {V : World} {R : Nat → Prop} {A0 : Option Addr} {p0 c0 g : Nat} {L0 : List Dut} (hg : Ob V g 121 #[]) (h0 : Dus V R A0 p0 c0 L0) (h : p0 ≤ 1000000) (hlt : g ≤ V.heap.size) :
    ∃ A5 c5 w5, (Builtin.append_ #[29, 29] 29 #[.slice (some ⟨g, 0, none⟩) 0 0, .slice A0 p0 c0]).run Try.prog V = .ok (.slice A5 p0 c5) w5 ∧ Below g V w5 ∧ Dus w5 (fun b => b = g ∨ b = V.heap.size) A5 p0 c5 L0 ∧ Kept (fun b => b ≠ g) V w5 := by
  obtain ⟨A5, c5, w5, r5, o5, b5, g5, t5⟩ := append_duts (ty := 29) (xs := []) (own_ob hg (Nat.le_refl g)) h0 (by omega) hlt
  rw [Nat.zero_add] at r5 o5
  exact ⟨A5, c5, w5, r5, b5, Rw.flat_own o5 (by omega) (Rw.len h0) (fun _ => rfl) (Rw.all h0) (fun ad e _ => by subst e; exact t5.elim (fun h => .inl (by injection h)) (fun h => .inr (by injection h))), g5.size, fun b hb hlt => g5.block b hlt (fun e => hb (by injection e))⟩
theorem copy_nods_at {V : World} {R : Nat → Prop} {A0 : Option Addr} {p0 c0 g : Nat} {L0 : List Nod} (hg : Ob V g 72 #[]) (h0 : Nds V R A0 p0 c0 L0) (h : p0 ≤ 1000000) (hlt : g ≤ V.heap.size) :
    ∃ A5 c5 w5, (Builtin.append_ #[35, 35] 35 #[.slice (some ⟨g, 0, none⟩) 0 0, .slice A0 p0 c0]).run Try.prog V = .ok (.slice A5 p0 c5) w5 ∧ Below g V w5 ∧ Nds w5 (fun b => b = g ∨ b = V.heap.size) A5 p0 c5 L0 ∧ Kept (fun b => b ≠ g) V w5 := by
  obtain ⟨A5, c5, w5, r5, o5, b5, g5, t5⟩ := append_nods (ty := 35) (xs := []) (own_ob hg (Nat.le_refl g)) h0 (by omega) hlt
  rw [Nat.zero_add] at r5 o5
  exact ⟨A5, c5, w5, r5, b5, Rw.flat_own o5 (by omega) (Rw.len h0) (fun _ => rfl) (Rw.all h0) (fun ad e _ => by subst e; exact t5.elim (fun h => .inl (by injection h)) (fun h => .inr (by injection h))), g5.size, fun b hb hlt => g5.block b hlt (fun e => hb (by injection e))⟩
end Go.Proofs.Ytincnopaclmppaa
/- Lists of values of the call's own: append. -/
namespace Go.Proofs.Ytincnopaclmppaa
set_option linter.unusedVariables false
open Go.RowKit

def cells3 : List Vl → List Value
  | [] => []
  | v :: r => .int .i64 v.k :: .int .i64 v.n :: .string v.s :: cells3 r
theorem cells3_len (l : List Vl) : (cells3 l).length = l.length * 3 := by
  induction l with
  | nil => rfl
  | cons v r ih => simp [cells3, ih]; omega
theorem cells3_app (l m : List Vl) : cells3 (l ++ m) = cells3 l ++ cells3 m := by
  induction l with
  | nil => rfl
  | cons v r ih => simp [cells3, ih]
theorem cells3_one {l : List Vl} : ∀ v ∈ cells3 l, v.oneCell' = true := by
  induction l with
  | nil => intro v hv; cases hv
  | cons x r ih =>
    intro v hv
    simp only [cells3, List.mem_cons] at hv
    rcases hv with rfl | rfl | rfl | hv
    · rfl
    · rfl
    · rfl
    · exact ih v hv
theorem cells3_at {l : List Vl} {j : Nat} {v : Vl} (h : l[j]? = some v) : (cells3 l)[j * 3]? = some (.int .i64 v.k) ∧ (cells3 l)[j * 3 + 1]? = some (.int .i64 v.n) ∧ (cells3 l)[j * 3 + 2]? = some (.string v.s) := by
  induction l generalizing j with
  | nil => simp at h
  | cons x r ih =>
    cases j with
    | zero => simp at h; subst h; exact ⟨rfl, rfl, rfl⟩
    | succ j =>
      simp at h
      obtain ⟨a, b, c⟩ := ih h
      have e : (j + 1) * 3 = j * 3 + 1 + 1 + 1 := by omega
      rw [e]
      exact ⟨by simpa [cells3] using a, by simpa [cells3] using b, by simpa [cells3] using c⟩
theorem cells3_of {l : List Vl} {i : Nat} {u : Value} (h : (cells3 l)[i]? = some u) : ∃ j v, l[j]? = some v ∧ (i = j * 3 ∧ u = .int .i64 v.k ∨ i = j * 3 + 1 ∧ u = .int .i64 v.n ∨ i = j * 3 + 2 ∧ u = .string v.s) := by
  have hi : i < l.length * 3 := by rw [← cells3_len]; exact (List.getElem?_eq_some_iff.1 h).1
  have hj : i / 3 < l.length := by omega
  obtain ⟨a, b, c⟩ := cells3_at (List.getElem?_eq_getElem hj)
  refine ⟨i / 3, l[i / 3], List.getElem?_eq_getElem hj, ?_⟩
  have hm : i = i / 3 * 3 ∨ i = i / 3 * 3 + 1 ∨ i = i / 3 * 3 + 2 := by omega
  rcases hm with e | e | e
  · rw [← e, h] at a; exact .inl ⟨e, Option.some.inj a⟩
  · rw [← e, h] at b; exact .inr (.inl ⟨e, Option.some.inj b⟩)
  · rw [← e, h] at c; exact .inr (.inr ⟨e, Option.some.inj c⟩)

theorem valinfo : (Try.prog.info? 57).map (fun i => (i.zero, i.size, i.bytes)) = some (some (.agg #[.int .i64 0, .int .i64 0, .string ⟨#[]⟩]), 3, 32) := by kernel_rfl
theorem val_parts : ∃ i, Try.prog.info? 57 = some i ∧ i.zero = some (.agg #[.int .i64 0, .int .i64 0, .string ⟨#[]⟩]) ∧ i.size = 3 ∧ i.bytes = 32 := by
  have h := valinfo
  cases hi : Try.prog.info? 57 with
  | none => rw [hi] at h; cases h
  | some i =>
    rw [hi] at h
    simp only [Option.map_some, Option.some.injEq, Prod.mk.injEq] at h
    exact ⟨i, rfl, h.1, h.2.1, h.2.2⟩

/-- A list of the call's own reads as its values. -/
theorem Vs.of_own {w : World} {base n c : Nat} {A : Option Addr} {l : List Vl} (h : w.ownsRow base 57 3 (.slice A n c) n (cells3 l)) (hok : ∀ v ∈ l, v.ok) : Vs w w.heap.size A n c l := by
  have hl : l.length = n := by have := h.1; rw [cells3_len] at this; omega
  rcases h.2 with ⟨hv, hn⟩ | ⟨g, cap, cur, hv, hb, hg, hnc, hcm, hcs, ht⟩
  · injection hv with h1 h2 h3
    subst h1 h2 h3
    exact ⟨hl, Nat.le_refl _, by simp [maxLen], .inl rfl, hok⟩
  · injection hv with h1 h2 h3
    subst h1 h3
    refine ⟨hl, hnc, hcm, .inr ⟨g, 0, rfl, ?_, fun j v hv => ?_⟩, hok⟩
    · rcases Nat.lt_or_ge g w.heap.size with hlt | hge
      · exact hlt
      · rw [Array.getElem?_eq_none hge] at hg; cases hg
    · have add : ∀ j : Nat, (⟨g, 0, none⟩ : Addr).add j = ⟨g, 0 + j, none⟩ := fun j => by by_cases hj : j = 0 <;> simp [Addr.add, hj]
      obtain ⟨a, b, c⟩ := cells3_at hv
      have h1 := h.cells (g := g) rfl (j * 3) _ a
      have h2 := h.cells (g := g) rfl (j * 3 + 1) _ b
      have h3 := h.cells (g := g) rfl (j * 3 + 2) _ c
      rw [add] at h1 h2 h3
      exact ⟨h1, h2, h3⟩

/-- append(out, l...) of values that lie somewhere. -/
theorem append_vals {w : World} {base B n c m c2 ty : Nat} {A A2 : Option Addr} {xs ys : List Vl} (h : w.ownsRow base 57 3 (.slice A n c) n (cells3 xs)) (hy : Vs w B A2 m c2 ys) (hn : n + m ≤ 1000000) (hbase : base ≤ w.heap.size) :
    ∃ A' c' w', (Builtin.append_ #[40, 40] ty #[.slice A n c, .slice A2 m c2]).run Try.prog w = .ok (.slice A' (n + m) c') w' ∧
      w'.ownsRow base 57 3 (.slice A' (n + m) c') (n + m) (cells3 (xs ++ ys)) ∧ Below base w w' ∧ w.grownBy w' (Value.slice A n c).ownBlock := by
  obtain ⟨i, hi, hz, hs, hb⟩ := val_parts
  have hlen := hy.1
  have fin : ∀ (ad : Addr), A2 = some ad → (∀ j u, (cells3 ys)[j]? = some u → w.cell? (ad.add j) = some u) → ∃ A' c' w', (Builtin.append_ #[40, 40] ty #[.slice A n c, .slice A2 m c2]).run Try.prog w = .ok (.slice A' (n + m) c') w' ∧
      w'.ownsRow base 57 3 (.slice A' (n + m) c') (n + m) (cells3 (xs ++ ys)) ∧ Below base w w' ∧ w.grownBy w' (Value.slice A n c).ownBlock := by
    rintro ad rfl hc
    obtain ⟨v', w', hrun, h2, h3, h4⟩ := run_append_own (P := Try.prog) w base 40 ty 57 i _ 3 32 Try.underlying40 hi hz hs hb rfl (by omega) (.slice A n c) n (cells3 xs) h
      ad m c2 (cells3 ys) (by rw [cells3_len, hlen]) hc cells3_one (by unfold maxLen; omega) (by omega) hbase
    have hform : ∃ A' c', v' = .slice A' (n + m) c' := by
      rcases h2.2 with ⟨hv, hz⟩ | ⟨g, cap, cur, hv, _⟩
      · exact ⟨_, _, by rw [hv, hz]⟩
      · exact ⟨_, _, hv⟩
    obtain ⟨A', c', rfl⟩ := hform
    exact ⟨A', c', w', hrun, by rw [cells3_app]; exact h2, (Below.refl base w).grown h3 hbase (fun k hk => (h.lt k hk).1), h3⟩
  rcases hy.2.2.2.1 with h0 | ⟨b, o, e, hb', hc⟩
  · subst h0
    obtain rfl : ys = [] := List.eq_nil_of_length_eq_zero hlen
    rcases A2 with _ | ad
    · exact ⟨A, c, w, append_nil_src Try.underlying40 hi h, by simpa using h, Below.refl _ _, ⟨rfl, rfl, rfl, Nat.le_refl _, fun _ _ _ => rfl⟩⟩
    · exact fin ad rfl (fun j u hu => by simp [cells3] at hu)
  · refine fin _ e fun j u hu => ?_
    have add : ∀ j : Nat, (⟨b, o, none⟩ : Addr).add j = ⟨b, o + j, none⟩ := fun j => by by_cases hj : j = 0 <;> simp [Addr.add, hj]
    rw [add]
    obtain ⟨i', v, hv, hcase⟩ := cells3_of hu
    obtain ⟨c0, c1, c2⟩ := hc i' v hv
    rcases hcase with ⟨rfl, rfl⟩ | ⟨rfl, rfl⟩ | ⟨rfl, rfl⟩
    · exact c0
    · exact c1
    · exact c2

theorem Vs.keep1 {w w' : World} {B n c b o : Nat} {l : List Vl} (h : Vs w B (some ⟨b, o, none⟩) n c l) (hk : w'.heap[b]? = w.heap[b]?) : Vs w' B (some ⟨b, o, none⟩) n c l := by
  obtain ⟨h1, h2, h3, h4, h5⟩ := h
  refine ⟨h1, h2, h3, ?_, h5⟩
  rcases h4 with h4 | ⟨b', o', e, hb, hc⟩
  · exact .inl h4
  · injection e with e
    injection e with e1 e2
    subst e1 e2
    refine .inr ⟨b, o, rfl, hb, fun j v hv => ?_⟩
    obtain ⟨a1, a2, a3⟩ := hc j v hv
    exact ⟨(World.cell?_of_block hk).trans a1, (World.cell?_of_block hk).trans a2, (World.cell?_of_block hk).trans a3⟩

/-- append of values, as a step of a region that draws. -/
theorem step_append_vals {ops : Array Oper} {o : Oper} {a : Act} {w : World} {K : Act → World → Prop} {Q : Exit → Act → World → Prop} {E : Prop}
    {base B n c m c2 : Nat} {A A2 : Option Addr} {xs ys : List Vl} (N : Nat) (zs : List Vl) (hown : w.ownsRow base 57 3 (.slice A n c) n (cells3 xs)) (hsrc : Vs w B A2 m c2 ys) (hN : n + m = N) (hz : xs ++ ys = zs) (hn : N ≤ 1000000) (hbase : base ≤ w.heap.size)
    (hg : o.guard = none) (s x : Operand) (hop : o.op = Op.call { callee := Callee.builtin Builtin.append, args := #[s, x], argTypes := #[40, 40] })
    (hs : a.eval s = .slice A n c) (hx : a.eval x = .slice A2 m c2)
    (hK : ∀ A' c' w', w'.ownsRow base 57 3 (.slice A' N c') N (cells3 zs) → Below base w w' → w.grownBy w' (Value.slice A n c).ownBlock → K (a.put o.dst (.slice A' N c')) w') :
    if Region.wanted o (yielded ops a.tmps) = true then Oper.wp Try.prog o a w K Q else E := by
  subst hN hz
  obtain ⟨A', c', w', hrun, h1, h2, h3⟩ := append_vals (ty := o.type) hown hsrc hn hbase
  exact step_append_run hg s x _ _ hop hs hx hrun (hK A' c' w' h1 h2 h3)
theorem own_e1 (w : World) : (w.alloc (.cells #[] 57)).ownsRow w.heap.size 57 3 (.slice (some ⟨w.heap.size, 0, none⟩) 0 0) 0 (cells3 []) :=
  World.ownsRow_lit w #[] 0 (Nat.le_refl _) (by simp [maxLen]) rfl
theorem own_e2 (w : World) (o : Obj) : ((w.alloc (.cells #[] 57)).alloc o).ownsRow w.heap.size 57 3 (.slice (some ⟨w.heap.size, 0, none⟩) 0 0) 0 (cells3 []) :=
  (own_e1 w).alloc o
theorem own_e3 (w : World) (o : Obj) : ((w.alloc o).alloc (.cells #[] 57)).ownsRow (w.heap.size + 1) 57 3 (.slice (some ⟨w.heap.size + 1, 0, none⟩) 0 0) 0 (cells3 []) := by
  have := own_e1 (w.alloc o)
  rwa [size_al] at this
theorem lit_keep {w w6 : World} {v : Vl} (hv : v.ok) {B : Nat} (g : (((w.alloc (.cells #[] 57)).alloc (.cells #[.int .i64 v.k, .int .i64 v.n, .string v.s] 57)).drew).grownBy w6 (Value.slice (some ⟨w.heap.size, 0, none⟩) 0 B).ownBlock) :
    Vs w6 (w.heap.size + 2) (some ⟨w.heap.size + 1, 0, none⟩) 1 1 [v] := by
  have h := Vs.lit1 (w.alloc (.cells #[] 57)) v hv
  rw [size_al] at h
  refine h.keep1 (g.block _ ?_ ?_)
  · show _ < ((w.alloc _).alloc _).heap.size
    rw [size_al, size_al]
    omega
  · simp [Value.ownBlock]
theorem lit_below {w w6 : World} {v : Vl} (hv : v.ok) (b : Below (w.heap.size + 1) (((w.alloc (.cells #[.int .i64 v.k, .int .i64 v.n, .string v.s] 57)).alloc (.cells #[] 57)).drew) w6) :
    Vs w6 (w.heap.size + 1) (some ⟨w.heap.size, 0, none⟩) 1 1 [v] := by
  have h := Vs.lit1 w v hv
  have e : Below (w.heap.size + 1) (w.alloc (.cells #[.int .i64 v.k, .int .i64 v.n, .string v.s] 57)) ((w.alloc (.cells #[.int .i64 v.k, .int .i64 v.n, .string v.s] 57)).alloc (.cells #[] 57)) :=
    (Below.refl _ _).alloc (by rw [size_al]; exact Nat.le_refl _) _
  exact h.below ((below_drewN e 1).trans b)
theorem own_then {w w' : World} {base size n : Nat} {e : TypeId} {v : Value} {xs : List Value} (h : w.ownsRow base e size v n xs) (hb : Below w.heap.size w w') : w'.ownsRow base e size v n xs :=
  h.kept (row := none) ⟨hb.os, hb.tape, hb.output, hb.size, fun k hk _ => hb.block k hk⟩ (by by_cases hv : v.ownBlock = none; exact .inl hv; exact .inr hv)
theorem size_e3 (w : World) (x y : Obj) : w.heap.size + 1 ≤ (((w.alloc x).alloc y).drew).heap.size := by
  show _ ≤ ((w.alloc x).alloc y).heap.size
  rw [size_al, size_al]
  omega
end Go.Proofs.Ytincnopaclmppaa
/- Requests in memory: rows of attributes, each with its bag. -/
namespace Go.Proofs.Ytincnopaclmppaa
set_option linter.unusedVariables false
open Go.RowKit

/-- A row of values, in blocks that R lets in. -/
def Vls (w : World) (R : Nat → Prop) := Rw 3 (fun vs (v : Vl) => vs = v.cells ∧ v.ok) w R
/-- The cells of what is given. -/
def GivAt (w : World) (R : Nat → Prop) (vs : List Value) (g : Giv) : Prop := ∃ A n c, vs = [.int .i64 g.cat, .string g.name, .slice A n c] ∧ g.ok ∧ Vls w R A n c g.bag
def Gvs (w : World) (R : Nat → Prop) := Rw 3 (GivAt w R) w R
section
variable {w w' : World} {R R' : Nat → Prop} {A : Option Addr} {n c : Nat}
theorem Vls.keep {l : List Vl} (h : Vls w R A n c l) (hk : Kept R w w') (hR : ∀ b, R b → b < w.heap.size → R' b) : Vls w' R' A n c l := Rw.keep h hk hR fun _ _ _ h => h
theorem GivAt.keep {vs : List Value} {g : Giv} (h : GivAt w R vs g) (hk : Kept R w w') (hR : ∀ b, R b → b < w.heap.size → R' b) : GivAt w' R' vs g := by
  obtain ⟨A, n, c, e, h0, h1⟩ := h
  exact ⟨A, n, c, e, h0, h1.keep hk hR⟩
theorem Gvs.keep {l : List Giv} (h : Gvs w R A n c l) (hk : Kept R w w') (hR : ∀ b, R b → b < w.heap.size → R' b) : Gvs w' R' A n c l := Rw.keep h hk hR fun _ _ _ h => h.keep hk hR
theorem keeps_giv : Keeps GivAt := fun _ _ _ _ _ _ h hk hR => h.keep hk hR
theorem GivAt.one {w : World} {R : Nat → Prop} (vs : List Value) (g : Giv) (h : GivAt w R vs g) : ∀ v ∈ vs, v.oneCell' = true := by
  obtain ⟨A, n, c, rfl, _⟩ := h
  intro v hv
  simp at hv
  rcases hv with rfl | rfl | rfl <;> rfl
theorem Vl.one (v : Vl) : ∀ x ∈ v.cells, x.oneCell' = true := by
  intro x hx
  simp [Vl.cells] at hx
  rcases hx with rfl | rfl | rfl <;> rfl
theorem Vls.oks {l : List Vl} (h : Vls w R A n c l) : ∀ v ∈ l, v.ok := Rw.all h
theorem Vls.at_ {l : List Vl} (h : Vls w R A n c l) {j : Nat} (hj : j < n) : ∃ b o v, A = some ⟨b, o, none⟩ ∧ R b ∧ b < w.heap.size ∧ l[j]? = some v ∧ v.ok ∧
    (w.cell? ⟨b, o + j * 3, none⟩ = some (.int .i64 v.k) ∧ w.cell? ⟨b, o + j * 3 + 1, none⟩ = some (.int .i64 v.n) ∧ w.cell? ⟨b, o + j * 3 + 2, none⟩ = some (.string v.s)) := by
  obtain ⟨b, o, m, vs, e, hb, hlt, hm, hl, hv, rfl, hok⟩ := Rw.at_ h hj
  exact ⟨b, o, m, e, hb, hlt, hm, hok, hv 0 _ rfl, hv 1 _ rfl, hv 2 _ rfl⟩
theorem Gvs.at_ {l : List Giv} (h : Gvs w R A n c l) {j : Nat} (hj : j < n) : ∃ b o g A' n' c', A = some ⟨b, o, none⟩ ∧ R b ∧ b < w.heap.size ∧ l[j]? = some g ∧ g.ok ∧
    (w.cell? ⟨b, o + j * 3, none⟩ = some (.int .i64 g.cat) ∧ w.cell? ⟨b, o + j * 3 + 1, none⟩ = some (.string g.name) ∧ w.cell? ⟨b, o + j * 3 + 2, none⟩ = some (.slice A' n' c')) ∧ Vls w R A' n' c' g.bag := by
  obtain ⟨b, o, g, vs, e, hb, hlt, hm, hl, hv, A', n', c', rfl, hok, hin⟩ := Rw.at_ h hj
  exact ⟨b, o, g, A', n', c', e, hb, hlt, hm, hok, ⟨hv 0 _ rfl, hv 1 _ rfl, hv 2 _ rfl⟩, hin⟩
/-- As the texts of package value have it. -/
theorem Vls.vs {l : List Vl} (h : Vls w R A n c l) : Vs w w.heap.size A n c l := by
  refine ⟨Rw.len h, Rw.le h, Rw.cap h, ?_, h.oks⟩
  by_cases h0 : n = 0
  · exact .inl h0
  · right
    obtain ⟨b, o, v, e, hb, hlt, hv, _, _⟩ := h.at_ (j := 0) (by omega)
    refine ⟨b, o, e, hlt, fun j x hx => ?_⟩
    have hj : j < n := by have := (List.getElem?_eq_some_iff.1 hx).1; have := Rw.len h; omega
    obtain ⟨b', o', v', e', _, _, hv', _, c0, c1, c2⟩ := h.at_ hj
    rw [e] at e'
    injection e' with e'
    injection e' with e1 e2
    subst e1 e2
    rw [hx] at hv'
    injection hv' with hv'
    subst hv'
    exact ⟨c0, c1, c2⟩
theorem Vs.vls {B : Nat} {l : List Vl} (h : Vs w B A n c l) (hB : B ≤ w.heap.size) (hn : n ≤ 140737488351232) (hR : ∀ b o, A = some ⟨b, o, none⟩ → b < B → R b) : Vls w R A n c l := by
  obtain ⟨h1, h2, h3, h4, h5⟩ := h
  refine ⟨h1, h2, ⟨h3, hn⟩, ?_⟩
  rcases h4 with h4 | ⟨b, o, e, hb, hc⟩
  · exact .inl h4
  · refine .inr ⟨b, o, e, hR b o e hb, by omega, fun j x hx => ⟨x.cells, rfl, fun i v hi => ?_, rfl, h5 x (List.mem_of_getElem? hx)⟩⟩
    obtain ⟨c0, c1, c2⟩ := hc j x hx
    match i, hi with
    | 0, hi => injection hi with hi; subst hi; exact c0
    | 1, hi => injection hi with hi; subst hi; exact c1
    | 2, hi => injection hi with hi; subst hi; exact c2
    | i + 3, hi => simp [Vl.cells] at hi
theorem Gvs.oks {l : List Giv} (h : Gvs w R A n c l) : ∀ g ∈ l, g.ok ∧ ∀ v ∈ g.bag, v.ok := by
  intro g hg
  obtain ⟨j, hj, rfl⟩ := List.getElem_of_mem hg
  obtain ⟨b, o, x, A', n', c', e, _, _, hx, hok, _, hin⟩ := h.at_ (j := j) (by have := Rw.len h; omega)
  rw [List.getElem?_eq_getElem hj] at hx
  injection hx with hx
  rw [hx]
  exact ⟨hok, hin.oks⟩
end
theorem givinfo : (Try.prog.info? 49).map (fun i => (i.zero, i.size, i.bytes)) = some (some (.agg #[.int .i64 0, .string ⟨#[]⟩, .slice none 0 0]), 3, 48) := by kernel_rfl
/-- One more attribute behind a row of the call's own. -/
theorem push_giv {w : World} {base n c : Nat} {A : Option Addr} {l : List Giv} {A1 : Option Addr} {n1 c1 : Nat} {g : Giv} (h : Gr 3 GivAt w base 49 A n c l) (hok : g.ok) (hx : Vls w (Nb base (.slice A n c)) A1 n1 c1 g.bag) (hn : n < 1000000) :
    ∃ A' c' w', (Builtin.append_ #[47, 47] 47 #[.slice A n c, .slice (some ⟨w.heap.size, 0, none⟩) 1 1]).run Try.prog (w.alloc (.cells #[.int .i64 g.cat, .string g.name, .slice A1 n1 c1] 49)) = .ok (.slice A' (n + 1) c') w' ∧ Gr 3 GivAt w' base 49 A' (n + 1) c' (l ++ [g]) ∧ Below base w w' := by
  obtain ⟨i, hi, hz, hs, hb⟩ := info_of givinfo
  exact Gr.push (vs := [.int .i64 g.cat, .string g.name, .slice A1 n1 c1]) (x := g) Try.underlying47 hi hz hs hb rfl (by omega) (by omega) keeps_giv h ⟨A1, n1, c1, rfl, hok, hx⟩ rfl (fun _ _ _ _ => GivAt.one _ _) hn
/-- append([]Value{}, bag...). -/
theorem copy_bag {w : World} {R : Nat → Prop} {A0 : Option Addr} {p0 c0 : Nat} {L0 : List Vl} (h0 : Vls w R A0 p0 c0 L0) (h : p0 ≤ 1000000) :
    ∃ A5 c5 w5, (Builtin.append_ #[40, 40] 40 #[.slice (some ⟨w.heap.size, 0, none⟩) 0 0, .slice A0 p0 c0]).run Try.prog (w.alloc (.cells #[] 57)) = .ok (.slice A5 p0 c5) w5 ∧ Below w.heap.size w w5 ∧ Vls w5 (fun b => w.heap.size ≤ b) A5 p0 c5 L0 := by
  have e1 : Below w.heap.size w (w.alloc (.cells #[] 57)) := (Below.refl _ _).alloc (Nat.le_refl _) _
  obtain ⟨i, hi, hz, hs, hb⟩ := val_parts
  obtain ⟨A5, c5, w5, r5, o5, b5, _, _⟩ := append_rows (ty := 40) (c2 := c0) (m := p0) Try.underlying40 hi hz hs hb rfl (by omega) (by omega) (own_none w 57 3) (Rw.flat_fl (h0.keep (Kept.all e1 R) (fun _ h _ => h)) (by omega) Vl.one) (by omega) e1.size
  rw [Nat.zero_add] at r5 o5
  refine ⟨A5, c5, w5, r5, e1.trans b5, ?_⟩
  exact Rw.flat_own o5 (by omega) (Rw.len h0) (fun _ => rfl) (Rw.all h0) (fun _ _ h => h)
end Go.Proofs.Ytincnopaclmppaa
/- A value stored over another one in its block. -/
namespace Go.Proofs.Ytincnopaclmppaa
open Go.RowKit

/-- A value stored over another one, cell by cell. -/
theorem Bx.put {w : World} {g : Nat} {k n : Int} {s : ByteArray} (h : Bx w g k n s) (k' n' : Int) (s' : ByteArray) : Bx (((w.setCell ⟨g, 0, none⟩ (.int .i64 k')).setCell ⟨g, 1, none⟩ (.int .i64 n')).setCell ⟨g, 2, none⟩ (.string s')) g k' n' s' := by
  unfold Bx
  simpa using ((Ob.put h 0 (.int .i64 k')).put 1 (.int .i64 n')).put 2 (.string s')
theorem Bx.past {w : World} {g g' : Nat} {k n : Int} {s : ByteArray} (h : Bx w g k n s) (hne : g ≠ g') (a b c : Value) : Bx (((w.setCell ⟨g', 0, none⟩ a).setCell ⟨g', 1, none⟩ b).setCell ⟨g', 2, none⟩ c) g k n s :=
  h.only (((Only.refl.setCell (p := ⟨g', 0, none⟩) rfl a).setCell (p := ⟨g', 1, none⟩) rfl b).setCell (p := ⟨g', 2, none⟩) rfl c) hne
theorem below_put {w0 w : World} {g B : Nat} (h : Below B w0 w) (hg : B ≤ g) (a b c : Value) : Below B w0 (((w.setCell ⟨g, 0, none⟩ a).setCell ⟨g, 1, none⟩ b).setCell ⟨g, 2, none⟩ c) :=
  ((h.setCell (p := ⟨g, 0, none⟩) hg a).setCell (p := ⟨g, 1, none⟩) hg b).setCell (p := ⟨g, 2, none⟩) hg c
end Go.Proofs.Ytincnopaclmppaa
/- Rows of bytes in new memory: what a byte's type is, and make. -/
namespace Go.Proofs.Ytincnopaclmppaa
open Go.RowKit

theorem u8info : (Try.prog.info? 5).map (fun i => (i.zero, i.size, i.bytes)) = some (some (.int .u8 0), 1, 1) := by kernel_rfl

theorem madeBytes (n : Nat) : madeCells (Value.int .u8 0).cells (n * 1) = (List.replicate n (Value.int .u8 0)).toArray := by
  apply Array.ext
  · simp [madeCells]
  · intro i h1 h2; simp [madeCells, Value.cells, Nat.mod_one]

theorem make_bytes (n c : Nat) (hnc : n ≤ c) (h : c ≤ 140737488355328) (W : World) :
    (Instr.makeSlice 22 (.int .i64 (n : Int)) (.int .i64 (c : Int))).run Try.prog W = .ok (.slice (some ⟨W.heap.size, 0, none⟩) n c) (W.alloc (.cells (List.replicate c (Value.int .u8 0)).toArray 5)) := by
  obtain ⟨i, hi, hz0, hz1, hz2⟩ := info_parts u8info
  have hr := run_make (P := Try.prog) W 22 5 i _ Try.underlying22 hi hz0 .i64 .i64 n c (by omega) (by omega) (by rw [hz2]; omega) (by omega)
  rw [hz1] at hr
  simp only [Int.toNat_natCast, madeBytes] at hr
  exact hr

end Go.Proofs.Ytincnopaclmppaa
/- strings.Clone. -/
namespace Go.Proofs.Ytincnopaclmppaa
set_option linter.unusedVariables false
open Go.RowKit

set_option maxRecDepth 10000 in
set_option maxHeartbeats 4000000 in
theorem slclone_any (s : ByteArray) (w : World) (hlim : s.size ≤ 1000000) :
    Calls Try.prog 70 #[.string s] w fun e w' => e = .returned (.string s) ∧ Below w.heap.size w w' := by
  by_cases h0 : s.size = 0
  · have hs : s = ⟨#[]⟩ := by
      apply ByteArray.ext
      exact Array.eq_empty_of_size_eq_zero h0
    subst hs
    clear h0 hlim
    go_enter Try.func70, Try.ntmps70
    go_wp2_with fail
    go_ret
    exact ⟨rfl, Below.refl _ _⟩
  · obtain ⟨i0, hi, hz0, hz1, hz2⟩ := info_parts u8info
    have hinfo : (Try.prog.info? 5).map (·.size) = some 1 := by rw [hi]; simp [hz1]
    have hco : Try.prog.cellsOf 5 = 1 := by simp [Program.cellsOf, hi, hz1]
    obtain ⟨M, hM⟩ : ∃ M, M = madeCells (Value.int .u8 0).cells (((s.size : Nat) : Int).toNat * i0.size) := ⟨_, rfl⟩
    have hMs : M.size = s.size := by rw [hM, size_madeCells, hz1]; simp
    have hmk : ∀ W : World, (Instr.makeSlice 22 (.int .i64 (s.size : Int)) (.int .i64 (s.size : Int))).run Try.prog W = .ok (.slice (some ⟨W.heap.size, 0, none⟩) s.size s.size) (W.alloc (.cells M 5)) := fun W => by
      have h := run_make (P := Try.prog) W 22 5 i0 (.int .u8 0) Try.underlying22 hi hz0 .i64 .i64 (s.size : Int) (s.size : Int) (by omega) (by omega) (by rw [hz2]; omega) (by omega)
      rw [← hM] at h
      simpa using h
    clear hM
    have hcp := Lib.run_copy_row_string (P := Try.prog) (w.alloc (.cells M 5)) 22 9 3 5 w.heap.size 0 s.size s.size s M 5 Try.underlying22 hinfo (heap_alloc_new w _) (Nat.le_refl _) (by omega)
    obtain ⟨Y, hY⟩ : ∃ Y, Y = (M.toList.take 0 ++ Lib.byteCells s.data.toList ++ M.toList.drop (0 + s.size)).toArray := ⟨_, rfl⟩
    rw [← hY] at hcp
    have hYl : Y.toList = Lib.byteCells s.data.toList := by
      rw [hY, List.toList_toArray, List.take_zero, List.nil_append, List.drop_of_length_le (by rw [Array.length_toList]; omega), List.append_nil]
    have hYs : Y.size = s.size := by rw [← Array.length_toList, hYl, Lib.byteCells_length, ← Lib.size_eq]
    have hgY : ((w.alloc (.cells M 5)).setRow w.heap.size Y).heap[w.heap.size]? = some (.cells Y 5 (0, 0)) := setRow_heap _ _ M _ 5 (0, 0) (heap_alloc_new w _)
    have hne : s.data.toList ≠ [] := fun e => h0 (by rw [Lib.size_eq, e]; rfl)
    have hUS := Lib.run_unsafeString_row (P := Try.prog) ((w.alloc (.cells M 5)).setRow w.heap.size Y) 124 3 9 5 Try.underlying124 hco w.heap.size Y.size (by unfold World.shape?; rw [hgY]) s.data.toList hne (by rw [← Lib.size_eq]; omega) (by rw [← Lib.size_eq]; omega)
      (fun j x hx => Lib.cells_of_row hgY Y.size j _ (by rw [List.take_of_length_le (by rw [Array.length_toList]; exact Nat.le_refl _), hYl]; simp [Lib.byteCells, hx]))
    rw [← Lib.size_eq] at hUS
    have H0 := Lib.hid hYl
    have H1 := Lib.hid hne
    have H2 := Lib.hid hgY
    clear hY hYl hne hgY hco hinfo hi hz0 hz1 hz2
    go_enter Try.func70, Try.ntmps70
    go_wp2_with fail
    go_ret
    have hb1 : Below w.heap.size w (w.alloc (.cells M 5)) := (Below.refl _ w).alloc (Nat.le_refl _) _
    have hb2 : Below w.heap.size (w.alloc (.cells M 5)) ((w.alloc (.cells M 5)).setRow w.heap.size Y) := ⟨rfl, rfl, rfl, by simp, fun k hk => setRow_other _ _ _ _ (by omega)⟩
    exact ⟨rfl, Lib.below_freeze (hb1.trans hb2) (p := ⟨w.heap.size, 0, none⟩) (Nat.le_refl _) _⟩

set_option maxHeartbeats 800000 in
theorem clone_any (s : ByteArray) (w : World) (hlim : s.size ≤ 1000000) :
    Calls Try.prog 49 #[.string s] w fun e w' => e = .returned (.string s) ∧ Below w.heap.size w w' := by
  have H := Lib.hid (slclone_any s w hlim)
  clear hlim
  go_enter Try.func49, Try.ntmps49
  go_wp2_with (go_at_call 70; refine H.out.mono ?_; rintro e w' ⟨rfl, hb⟩)
  go_ret
  exact ⟨rfl, hb⟩
end Go.Proofs.Ytincnopaclmppaa
/- copied: a bag in memory of its own, its texts too. -/
namespace Go.Proofs.Ytincnopaclmppaa
set_option linter.unusedVariables false
open Go.RowKit

/-- Texts that aren't long. -/
def Shorts (l : List Vl) : Prop := ∀ v ∈ l, v.s.size ≤ 1000000

theorem take_one {α : Type} {l : List α} {k : Nat} {x : α} (h : l[k]? = some x) : l.take (k + 1) = l.take k ++ [x] := by
  obtain ⟨hk, rfl⟩ := List.getElem?_eq_some_iff.1 h
  rw [List.take_succ_eq_append_getElem hk]
theorem cells3_flat : ∀ l : List Vl, cells3 l = l.flatMap Vl.cells
  | [] => rfl
  | v :: r => by simp [cells3, Vl.cells, cells3_flat r]
/-- One more value behind a row of the call's own. -/
theorem push_val {w : World} {base n c : Nat} {A : Option Addr} {l : List Vl} {v : Vl} (h : w.ownsRow base 57 3 (.slice A n c) n (cells3 l)) (hb : base ≤ w.heap.size) (hv : v.ok) (hn : n < 1000000) :
    ∃ A' c' w', (Builtin.append_ #[40, 40] 40 #[.slice A n c, .slice (some ⟨w.heap.size, 0, none⟩) 1 1]).run Try.prog (w.alloc (.cells #[.int .i64 v.k, .int .i64 v.n, .string v.s] 57)) = .ok (.slice A' (n + 1) c') w' ∧
      w'.ownsRow base 57 3 (.slice A' (n + 1) c') (n + 1) (cells3 (l ++ [v])) ∧ Below base w w' := by
  have e1 : Below w.heap.size w (w.alloc (.cells #[.int .i64 v.k, .int .i64 v.n, .string v.s] 57)) := (Below.refl _ _).alloc (Nat.le_refl _) _
  obtain ⟨A', c', w', r, o, b, _⟩ := append_vals (ty := 40) (h.alloc (.cells #[.int .i64 v.k, .int .i64 v.n, .string v.s] 57)) (Vs.lit1 w v hv) (by omega) (by rw [size_al]; omega)
  exact ⟨A', c', w', r, o, (e1.mono hb).trans b⟩

set_option maxHeartbeats 1600000 in
theorem copied_any {w : World} {R : Nat → Prop} {A : Option Addr} {n c : Nat} {l : List Vl} (h : Vls w R A n c l) (hs : Shorts l) (hn : n ≤ 100000) :
    Calls Try.prog 29 #[.slice A n c] w fun e w' => ∃ A' c', e = .returned (.slice A' n c') ∧ Below w.heap.size w w' ∧ Vls w' (fun b => w.heap.size ≤ b) A' n c' l := by
  have hle := Rw.le h
  have hcap := Rw.cap h
  have HL := Lib.hid (Rw.len h)
  have HOK := Lib.hid h.oks
  unfold maxLen at hcap
  have H := Lib.hid h
  have HS := Lib.hid hs
  clear h hs
  go_enter Try.func29, Try.ntmps29
  go_wp2
  go_loopw [3, 8] (fun out i wr => ∃ (k : Nat) (A' : Option Addr) (c' : Nat), k ≤ n ∧ i = .int .i64 k ∧ out = .slice A' k c' ∧ wr.ownsRow w.heap.size 57 3 (.slice A' k c') k (cells3 (l.take k)) ∧ Below w.heap.size w wr) (fun out i _ => n - (intOf i).toNat)
  case atStart => exact ⟨0, none, 0, Nat.zero_le _, rfl, rfl, World.ownsRow_nil w w.heap.size 57 3, Below.refl _ _⟩
  case round =>
    obtain ⟨k, A', c', hk, rfl, rfl, ho, hb⟩ := hrel
    have HO := Lib.hid ho
    have HB := Lib.hid hb
    clear ho hb
    by_cases hlt : k < n
    · obtain ⟨b, o, x, rfl, hRb, hbl, hx, hok, ⟨x0, x1, x2⟩⟩ := (H.out.keep (Kept.all HB.out R) (fun _ h _ => h)).at_ hlt
      have HX := Lib.hid hx
      have HK := Lib.hid hok
      have hlim := HS.out x (List.mem_of_getElem? hx)
      have HCL := Lib.hid (fun W => clone_any x.s W hlim)
      obtain ⟨xk, xn, xs⟩ := x
      simp only at x0 x1 x2 HCL hlim
      clear hx hok
      have hbx := Bx.made wr xk xn xs
      have D0 := Lib.hid ((Below.refl wr.heap.size wr).alloc (Nat.le_refl _) (.cells #[.int .i64 xk, .int .i64 xn, .string xs] 57))
      go_wp2_with (first
        | (go_at_call 49; refine (HCL.out _).mono ?_; rintro e w1 ⟨rfl, hb1⟩
           have q1 := hbx.then_ hb1
           have qs := q1.setS xs
           have q3 := q1.c3
           have q4 := q1.fz 2
           have d1 : Below wr.heap.size wr (w1.setCell ⟨wr.heap.size, 2, none⟩ (.string xs)) := (Below.lit hb1).setCell (Nat.le_refl _) _
           obtain ⟨A2, c2, w2, r2, o2, b2⟩ := push_val (v := ⟨xk, xn, xs⟩) (own_then HO.out d1) (Nat.le_trans HB.out.size d1.size) HK.out (by omega)
           have hz : (w1.setCell ⟨wr.heap.size, 2, none⟩ (.string xs)).heap.size = w1.heap.size := by simp [World.setCell]
           rw [hz] at r2
           simp only at r2
           have R2 := Lib.hid r2
           have O2 := Lib.hid o2
           have B2 := Lib.hid (HB.out.trans ((d1.mono HB.out.size).trans b2))
           have Q1 := Lib.hid q1
           clear hz r2 o2 b2 hb1 q1 qs d1)
        | (at_builtin; refine wpList_append_run rfl _ _ _ _ rfl rfl rfl R2.out ?_))
      go_roundw
      case rel => exact ⟨k + 1, A2, c2, by omega, by go_num, rfl, by rw [take_one HX.out]; exact O2.out, B2.out⟩
      case measure => simp [intOf]; omega
    · obtain rfl : k = n := by omega
      go_wp2
      go_ret
      refine ⟨A', c', rfl, HB.out, ?_⟩
      have ho := HO.out
      rw [List.take_of_length_le (by have := HL.out; omega), cells3_flat] at ho
      exact Rw.flat_own ho (by omega) HL.out (fun _ => rfl) HOK.out (fun _ _ h => h)
end Go.Proofs.Ytincnopaclmppaa
/- place: the first of a category and a name (by slices.IndexFunc). -/
namespace Go.Proofs.Ytincnopaclmppaa
set_option linter.unusedVariables false
open Go.RowKit

theorem isg_any {w : World} {h4 h5 : Nat} {c : Int} {s : ByteArray} (g : Giv) {A : Option Addr} {n k : Nat} (hp : Ob w h4 3 #[.int .i64 c]) (hi : Ob w h5 9 #[.string s]) :
    Calls Try.prog 48 #[.agg #[.int .i64 g.cat, .string g.name, .slice A n k], .pointer (some ⟨h4, 0, none⟩), .pointer (some ⟨h5, 0, none⟩)] w fun e w' => e = .returned (.bool (isG c s g)) ∧ Below w.heap.size w w' := by
  have c4 := hp.cell 0
  have c5 := hi.cell 0
  have l4 := hp.lt
  have l5 := hi.lt
  have HE : Hid (isG c s g = (decide (g.cat = c) && (g.name.toList == s.toList))) := by
    show isG c s g = _
    unfold isG
    rw [Bool.eq_iff_iff]
    simp only [Bool.and_eq_true, decide_eq_true_eq, beq_iff_eq]
    rw [show (g.name.toList = s.toList) = (g.name = s) from propext ⟨fun e => text_eq (by show g.name.data.toList = s.data.toList; rw [← ByteArray.toList_eq, ← ByteArray.toList_eq]; exact e), fun e => by rw [e]⟩]
  generalize isG c s g = r at *
  obtain ⟨gc, gn, gb⟩ := g
  simp only at HE ⊢
  clear hp hi
  by_cases h : gc = c
  · have h' : (gc == c) = true := by simpa using h
    have H := Lib.hid h
    clear h
    go_enter Try.func48, Try.ntmps48
    go_wp2_with fail
    all_goals
      go_ret
      exact ⟨ret_bool (by rw [HE.out, decide_eq_true H.out, Bool.true_and]), (Below.refl _ _).alloc (Nat.le_refl _) _⟩
  · have h' : (gc == c) = false := by simpa using h
    have H := Lib.hid h
    clear h
    go_enter Try.func48, Try.ntmps48
    go_wp2_with fail
    all_goals
      go_ret
      exact ⟨ret_bool (by rw [HE.out, decide_eq_false H.out, Bool.false_and]), (Below.refl _ _).alloc (Nat.le_refl _) _⟩

set_option maxHeartbeats 800000 in
theorem index_any {w : World} {R : Nat → Prop} {A : Option Addr} {n c : Nat} {l : List Giv} {h4 h5 : Nat} {q : Int} {s : ByteArray} (h : Gvs w R A n c l) (hp : Ob w h4 3 #[.int .i64 q]) (hi : Ob w h5 9 #[.string s]) :
    Calls Try.prog 47 #[.slice A n c, .func (.func 48) #[] #[.pointer (some ⟨h4, 0, none⟩), .pointer (some ⟨h5, 0, none⟩)]] w fun e w' => e = .returned (.int .i64 (placeI l q s)) ∧ Below w.heap.size w w' := by
  have hle := Rw.le h
  have hcap := Rw.cap h
  have HL := Lib.hid (Rw.len h)
  unfold maxLen at hcap
  have H := Lib.hid h
  have HP := Lib.hid hp
  have HI := Lib.hid hi
  clear h hp hi
  go_enter Try.func47, Try.ntmps47
  go_wp2
  go_loopw [8] (fun i wr => ∃ k : Nat, k ≤ n ∧ i = .int .i64 k ∧ (∀ (j : Nat) (x : Giv), l[j]? = some x → j < k → isG q s x = false) ∧ Below w.heap.size w wr) (fun i _ => n - (intOf i).toNat)
  case atStart => exact ⟨0, Nat.zero_le _, rfl, fun _ _ _ h => absurd h (Nat.not_lt_zero _), Below.refl _ _⟩
  case round =>
    obtain ⟨k, hk, rfl, hf, hb⟩ := hrel
    have HF := Lib.hid hf
    have HB := Lib.hid hb
    clear hf hb
    by_cases hlt : k < n
    · obtain ⟨b, o, x, A', n', c', rfl, hRb, hbl, hx, hok, ⟨c0, c1, c2⟩, hin⟩ := (H.out.keep (Kept.all HB.out R) (fun _ h _ => h)).at_ hlt
      have HX := Lib.hid hx
      have HC := Lib.hid (isg_any x (A := A') (n := n') (k := c') (HP.out.below HB.out HP.out.lt) (HI.out.below HB.out HI.out.lt))
      clear hx
      cases hz : isG q s x
      · have HZ := Lib.hid hz
        rw [hz] at HC
        clear hz
        go_wp2_with (go_at_call 48; refine HC.out.mono ?_; rintro e w1 ⟨rfl, hb1⟩; have B1 := Lib.hid hb1)
        go_roundw
        case rel => exact ⟨k + 1, by omega, by go_num, fun j y hy hj => by
          by_cases e : j = k
          · subst e; rw [HX.out] at hy; injection hy with hy; subst hy; exact HZ.out
          · exact HF.out j y hy (by omega), below_step HB.out B1.out⟩
        case measure => simp [intOf]; omega
      · have HZ := Lib.hid hz
        rw [hz] at HC
        clear hz
        go_wp2_with (go_at_call 48; refine HC.out.mono ?_; rintro e w1 ⟨rfl, hb1⟩; have B1 := Lib.hid hb1)
        go_ret
        exact ⟨ret_int (place_at HX.out HZ.out HF.out).symm, below_step HB.out B1.out⟩
    · obtain rfl : k = n := by omega
      go_wp2
      go_ret
      exact ⟨ret_int (place_none (fun j x hx => HF.out j x hx (by have := (List.getElem?_eq_some_iff.1 hx).1; have := HL.out; omega))).symm, HB.out⟩

theorem place_any {w : World} {R : Nat → Prop} {A : Option Addr} {n c : Nat} {l : List Giv} (q : Int) (s : ByteArray) (h : Gvs w R A n c l) :
    Calls Try.prog 28 #[.slice A n c, .int .i64 q, .string s] w fun e w' => e = .returned (.int .i64 (placeI l q s)) ∧ Below w.heap.size w w' := by
  have e1 : Below w.heap.size w ((w.alloc (.cells #[.int .i64 q] 3)).alloc (.cells #[.string s] 9)) := ((Below.refl _ _).alloc (Nat.le_refl _) _).alloc (by rw [size_al]; omega) _
  have hp : Ob ((w.alloc (.cells #[.int .i64 q] 3)).alloc (.cells #[.string s] 9)) w.heap.size 3 #[.int .i64 q] := (Ob.made w 3 #[.int .i64 q]).keep (Below.heap_alloc (w.alloc (.cells #[.int .i64 q] 3)) _ w.heap.size (by rw [size_al]; omega))
  have hi : Ob ((w.alloc (.cells #[.int .i64 q] 3)).alloc (.cells #[.string s] 9)) (w.heap.size + 1) 9 #[.string s] := by
    have := Ob.made (w.alloc (.cells #[.int .i64 q] 3)) 9 #[.string s]
    rwa [size_al] at this
  have HC := Lib.hid (index_any (h.keep (Kept.all e1 R) (fun _ h _ => h)) hp hi)
  have HE := Lib.hid e1
  clear h hp hi e1
  go_enter Try.func28, Try.ntmps28
  go_wp2_with (go_at_call 47; refine HC.out.mono ?_; rintro e w1 ⟨rfl, hb1⟩)
  go_ret
  exact ⟨rfl, HE.out.trans (hb1.mono HE.out.size)⟩
end Go.Proofs.Ytincnopaclmppaa
/- Get: what is there, in new memory. -/
namespace Go.Proofs.Ytincnopaclmppaa
set_option linter.unusedVariables false
open Go.RowKit

/-- Requests whose texts aren't long, and whose bags aren't, neither. -/
def ShortG (l : List Giv) : Prop := ∀ g ∈ l, Shorts g.bag ∧ g.bag.length ≤ 100000
/-- What Get answers: a bag and an error. -/
theorem aget_any {w : World} {R : Nat → Prop} {A : Option Addr} {n c : Nat} {l : List Giv} (a : Atr) (h : Gvs w R A n c l) (hs : ShortG l) :
    Calls Try.prog 13 #[.slice A n c, .agg #[.int .i64 a.cat, .string a.name, .bool a.must]] w fun e w' => ∃ A' n' c', e = .returned (.tuple #[.slice A' n' c', .int .i64 (getE l a)]) ∧ Below w.heap.size w w' ∧ Vls w' (fun b => w.heap.size ≤ b) A' n' c' (getR l a) := by
  obtain ⟨ac, an, am⟩ := a
  have hle := Rw.le h
  have hcap := Rw.cap h
  have HL := Lib.hid (Rw.len h)
  unfold maxLen at hcap
  have H := Lib.hid h
  have HS := Lib.hid hs
  have HP := Lib.hid (fun W (hW : Below w.heap.size w W) => place_any ac an (h.keep (Kept.all hW R) (fun _ h _ => h)))
  clear h hs
  by_cases hi : idxA l ac an < l.length
  · obtain ⟨g, hg, hgg, hb⟩ := idx_hit hi
    have hp : placeI l ac an = (idxA l ac an : Int) := place_pos hi
    rw [hp] at HP
    have hin : idxA l ac an < n := by have := HL.out; omega
    have HB : Hid (getB l ⟨ac, an, am⟩ = g.bag) := hb
    have HG := Lib.hid hg
    generalize idxA l ac an = k at *
    obtain ⟨hsh, hln⟩ := HS.out g (List.mem_of_getElem? hg)
    have HSH := Lib.hid hsh
    have HLN := Lib.hid hln
    clear hi hp hg hgg hb hsh hln
    have atW := fun W (hW : Below w.heap.size w W) => (H.out.keep (Kept.all hW R) (fun _ h _ => h)).at_ hin
    have AW := Lib.hid atW
    clear atW
    obtain ⟨b, o, g0, A', n', c', rfl, _, hbl, hx, _, ⟨_, _, c2⟩, hin0⟩ := AW.out w (Below.refl _ _)
    have hgx := HG.out
    rw [hx] at hgx
    injection hgx with hgx
    subst hgx
    have HIN := Lib.hid hin0
    have hn' : n' ≤ 100000 := by have := Rw.len hin0; have := HLN.out; omega
    have hlen' : g0.bag.length = n' := Rw.len hin0
    have C2 := Lib.hid c2
    have HBL := Lib.hid hbl
    have HE : Hid (getE l ⟨ac, an, am⟩ = if am = true ∧ n' = 0 then 4 else 0) := by
      show getE l ⟨ac, an, am⟩ = _
      unfold getE
      have e0 : (g0.bag = []) = (n' = 0) := by rw [← hlen', List.length_eq_zero_iff]
      rw [HB.out]
      simp only [e0]
    have HR : Hid (getR l ⟨ac, an, am⟩ = if am = true ∧ n' = 0 then [] else g0.bag) := by
      show getR l ⟨ac, an, am⟩ = _
      unfold getR
      rw [HB.out, HE.out]
      by_cases e : am = true ∧ n' = 0 <;> simp [e]
    have HNN := Lib.hid hlen'
    clear hx c2 hin0 hbl AW hlen'
    generalize getE l ⟨ac, an, am⟩ = ee at *
    generalize getR l ⟨ac, an, am⟩ = rr at *
    rcases Nat.eq_zero_or_pos n' with rfl | hpos
    · cases am
      · have HE2 : Hid (ee = 0) := by show ee = 0; rw [HE.out]; simp
        have HR2 : Hid (rr = g0.bag) := by show rr = _; rw [HR.out]; simp
        clear HE HR
        go_enter Try.func13, Try.ntmps13
        go_wp2_with (first
          | (go_at_call 28; refine (HP.out _ ((Below.refl _ _).alloc (Nat.le_refl _) _)).mono ?_; rintro e w1 ⟨rfl, hb1⟩
             have OB1 := Lib.hid (Ob.below (Ob.made _ _ _) hb1 (by simp))
             have B1 := Lib.hid (Below.lit hb1)
             have q2 := (World.cell?_of_block (B1.out.block _ HBL.out)).trans C2.out
             have CP := Lib.hid (copied_any (HIN.out.keep (Kept.all B1.out R) (fun _ h _ => h)) HSH.out hn')
             clear hb1)
          | (go_at_call 29; refine CP.out.mono ?_; rintro e w2 ⟨A2, k2, rfl, hb2, hi2⟩
             have c9 := (Ob.below OB1.out hb2 (Ob.lt OB1.out)).cell 2
             have B2 := Lib.hid (below_step B1.out hb2)
             have I2 := Lib.hid (hi2.keep (Kept.refl _ _) (R' := fun b => w.heap.size ≤ b) (fun b h _ => Nat.le_trans B1.out.size h))
             clear hb2 hi2))
        go_ret2
        exact ⟨A2, 0, k2, by rw [HE2.out]; rfl, B2.out, by rw [HR2.out]; exact I2.out⟩
      · have HE2 : Hid (ee = 4) := by show ee = 4; rw [HE.out]; simp
        have HR2 : Hid (rr = []) := by show rr = _; rw [HR.out]; simp
        clear HE HR
        go_enter Try.func13, Try.ntmps13
        go_wp2_with (first
          | (go_at_call 28; refine (HP.out _ ((Below.refl _ _).alloc (Nat.le_refl _) _)).mono ?_; rintro e w1 ⟨rfl, hb1⟩
             have OB1 := Lib.hid (Ob.below (Ob.made _ _ _) hb1 (by simp))
             have B1 := Lib.hid (Below.lit hb1)
             have q2 := (World.cell?_of_block (B1.out.block _ HBL.out)).trans C2.out
             have CP := Lib.hid (copied_any (HIN.out.keep (Kept.all B1.out R) (fun _ h _ => h)) HSH.out hn')
             clear hb1)
          | (go_at_call 29; refine CP.out.mono ?_; rintro e w2 ⟨A2, k2, rfl, hb2, hi2⟩
             have c9 := (Ob.below OB1.out hb2 (Ob.lt OB1.out)).cell 2
             have B2 := Lib.hid (below_step B1.out hb2)
             have I2 := Lib.hid (hi2.keep (Kept.refl _ _) (R' := fun b => w.heap.size ≤ b) (fun b h _ => Nat.le_trans B1.out.size h))
             clear hb2 hi2))
        go_ret2
        exact ⟨none, 0, 0, by rw [HE2.out]; rfl, B2.out, by rw [HR2.out]; exact Rw.nil_ _ _ _ _⟩
    · have hne : ¬ (n' : Int) = 0 := by omega
      have hne2 : ((n' : Int) == 0) = false := by simpa using hne
      have HE2 : Hid (ee = 0) := by show ee = 0; rw [HE.out, if_neg (by omega)]
      have HR2 : Hid (rr = g0.bag) := by show rr = _; rw [HR.out, if_neg (by omega)]
      clear HE HR
      cases am
      all_goals
        go_enter Try.func13, Try.ntmps13
        go_wp2_with (first
          | (go_at_call 28; refine (HP.out _ ((Below.refl _ _).alloc (Nat.le_refl _) _)).mono ?_; rintro e w1 ⟨rfl, hb1⟩
             have OB1 := Lib.hid (Ob.below (Ob.made _ _ _) hb1 (by simp))
             have B1 := Lib.hid (Below.lit hb1)
             have q2 := (World.cell?_of_block (B1.out.block _ HBL.out)).trans C2.out
             have CP := Lib.hid (copied_any (HIN.out.keep (Kept.all B1.out R) (fun _ h _ => h)) HSH.out hn')
             clear hb1)
          | (go_at_call 29; refine CP.out.mono ?_; rintro e w2 ⟨A2, k2, rfl, hb2, hi2⟩
             have c9 := (Ob.below OB1.out hb2 (Ob.lt OB1.out)).cell 2
             have B2 := Lib.hid (below_step B1.out hb2)
             have I2 := Lib.hid (hi2.keep (Kept.refl _ _) (R' := fun b => w.heap.size ≤ b) (fun b h _ => Nat.le_trans B1.out.size h))
             clear hb2 hi2))
        go_ret2
        exact ⟨A2, n', k2, by rw [HE2.out]; rfl, B2.out, by rw [HR2.out]; exact I2.out⟩
  · have HB : Hid (getB l ⟨ac, an, am⟩ = []) := bag_none hi
    have hp : placeI l ac an = -1 := place_neg hi
    rw [hp] at HP
    clear hp hi
    have HE : Hid (getE l ⟨ac, an, am⟩ = if am = true then 4 else 0) := by show getE l ⟨ac, an, am⟩ = _; unfold getE; rw [HB.out]; simp
    have HR : Hid (getR l ⟨ac, an, am⟩ = []) := by show getR l ⟨ac, an, am⟩ = _; unfold getR; rw [HB.out]; simp
    generalize getE l ⟨ac, an, am⟩ = ee at *
    generalize getR l ⟨ac, an, am⟩ = rr at *
    cases am
    all_goals
      go_enter Try.func13, Try.ntmps13
      go_wp2_with (go_at_call 28; refine (HP.out _ ((Below.refl _ _).alloc (Nat.le_refl _) _)).mono ?_; rintro e w1 ⟨rfl, hb1⟩; have c0 := (Ob.below (Ob.made _ _ _) hb1 (by simp)).cell 2)
      go_ret2
      refine ⟨none, 0, 0, by rw [HE.out]; rfl, Below.lit hb1, by rw [HR.out]; exact Rw.nil_ _ _ _ _⟩
end Go.Proofs.Ytincnopaclmppaa
/- pack.Num: behind the bytes that are handed in, in new memory, the number's bytes. -/
namespace Go.Proofs.Ytincnopaclmppaa
open Go.RowKit

/-- What the loop of Num holds: the bytes that are there already, those of the number that were put behind them, what is left of it. -/
def NumRel (w : World) (base : Nat) (l all : List UInt8) (u out : Value) (wr : World) : Prop :=
  ∃ (m n c : Nat) (A : Option Addr) (done : List UInt8), u = .int .u64 (m : Int) ∧ out = .slice A n c ∧ wr.ownsRow base 5 1 (.slice A n c) n (bv (l ++ done)) ∧ done ++ enc m = all ∧ Below base w wr

set_option maxHeartbeats 1600000 in
set_option maxRecDepth 20000 in
theorem num_any {w : World} {B n c : Nat} {A : Option Addr} {l : List UInt8} {k : Int} (h : Sl w B A n c (bv l)) (hB : B ≤ w.heap.size) (hn : n ≤ 70368744177664) (hk1 : -9223372036854775808 ≤ k) (hk2 : k ≤ 9223372036854775807) :
    Calls Try.prog 30 #[.slice A n c, .int .i64 k] w fun e w' => ∃ A' n' c', e = .returned (.slice A' n' c') ∧ w'.ownsRow w.heap.size 5 1 (.slice A' n' c') n' (bv (l ++ numB k)) ∧ Below w.heap.size w w' := by
  obtain ⟨i, hi, hz0, hz1, hz2⟩ := info_parts u8info
  have hmk := make_bytes n (n + 10) (by omega) (by omega)
  simp only [Int.natCast_add, Int.cast_ofNat_Int] at hmk
  have hob := Ob.made w 5 (List.replicate (n + 10) (Value.int .u8 0)).toArray
  have hsl : Sl (w.alloc (.cells (List.replicate (n + 10) (Value.int .u8 0)).toArray 5)) B A n c (bv l) := h.keep fun k hk => Below.heap_alloc w _ k (by omega)
  obtain ⟨w1, hcp, hob1, hz, honly⟩ := copy_all (P := Try.prog) (ty := 3) (m := n + 10) Try.underlying22 hi hz1 hob hsl (by simp) one_bv
  have hlen : l.length = n := by rw [← bv_len]; exact h.len
  have hown : w1.ownsRow w.heap.size 5 1 (.slice (some ⟨w.heap.size, 0, none⟩) n (n + 10)) n (bv (l ++ [])) := by
    refine ⟨by simp [bv_len, hlen], .inr ⟨w.heap.size, n + 10, _, rfl, Nat.le_refl _, hob1, by omega, by unfold maxLen; omega, ?_, ?_⟩⟩
    · simp [bv_len, hlen]
    · simp only [Nat.mul_one, List.append_nil]
      rw [List.take_append_of_le_length (by rw [bv_len, hlen]; omega), List.take_of_length_le (by rw [bv_len, hlen]; omega)]
  have hbel : Below w.heap.size w w1 := ((Below.refl _ w).alloc (Nat.le_refl _) _).trans (honly.below (by simp) (Nat.le_refl _))
  have hstart : NumRel w w.heap.size l (numB k) (.int .u64 (zig k : Nat)) (.slice (some ⟨w.heap.size, 0, none⟩) n (n + 10)) w1 := ⟨zig k, n, n + 10, _, [], rfl, rfl, hown, rfl, hbel⟩
  have HS := Lib.hid hstart
  have HL := Lib.hid hlen
  simp only [List.toArray_replicate] at hcp
  have hinv := i64_inv hk1 hk2
  clear h hob hsl hob1 hz honly hown hlen hbel hstart
  have hu : (k < 0 ∧ 2 * (-k - 1) + 1 = (zig k : Int)) ∨ (0 ≤ k ∧ 2 * k = (zig k : Int)) := by unfold zig; split <;> omega
  have HU := Lib.hid hu
  have H10 := Lib.hid (numB_len hk1 hk2)
  clear hu
  by_cases hneg : k < 0
  all_goals
    try (have hw1 : IntKind.u64.wrap (-k - 1) = -k - 1 := by rw [IntKind.wrap_u64]; omega)
    try (have hw2 : IntKind.u64.wrap (2 * (-k - 1)) = 2 * (-k - 1) := by rw [IntKind.wrap_u64]; omega)
    try (have hw3 : IntKind.u64.wrap (2 * (-k - 1) + 1) = 2 * (-k - 1) + 1 := by rw [IntKind.wrap_u64]; omega)
    go_enter Try.func30, Try.ntmps30
    go_wp2_with fail
    go_loopw [5, 6] (fun u out wr => NumRel w w.heap.size l (numB k) u out wr) (fun u _ _ => (intOf u).toNat)
    case atStart =>
      have e := HU.out
      first | (rw [(e.resolve_right (by omega)).2]; exact HS.out) | (rw [(e.resolve_left (by omega)).2]; exact HS.out)
    case round =>
      obtain ⟨m, n1, c1, A1, done, rfl, rfl, hown, hdone, hbel⟩ := hrel
      have HD := Lib.hid hdone
      have hl1 : n1 = l.length + done.length := by have := hown.1; simp [bv_len] at this; omega
      have hd10 : done.length + (enc m).length ≤ 10 := by rw [← List.length_append, HD.out]; exact H10.out
      have hp := enc_pos m
      have hlb : l.length = n := HL.out
      have hnb : n1 ≤ 140737488355327 := by omega
      clear hdone hl1 hd10 hp hlb
      have hm0 : 0 ≤ (m : Int) := by omega
      have hwrap : IntKind.u8.wrap (m : Int) = (m : Int) % 256 := IntKind.wrap_u8' _
      by_cases hbig : 128 ≤ m
      · have hor : bits .or .u8 ((m : Int) % 256) 128 = (m : Int) % 128 + 128 := by rw [u8_or128 (by omega) (by omega)]; omega
        obtain ⟨A2, c2, w2, hap, hown2, hbel2⟩ := append_one (P := Try.prog) (ty := 22) Try.underlying22 hi hz0 hz1 hz2 hown hnb hbel.size ((m : Int) % 128 + 128)
        have HO2 := Lib.hid hown2
        have HAP := Lib.hid hap
        clear hown hnb hown2 hap
        go_wp2_with (at_builtin; refine wpList_append_run rfl _ _ _ _ rfl rfl rfl HAP.out ?_)
        go_roundw
        case rel =>
          refine ⟨m / 128, n1 + 1, c2, A2, done ++ [UInt8.ofNat (m % 128 + 128)], by go_num, rfl, ?_, ?_, hbel.trans hbel2⟩
          · have e := HO2.out
            rw [← List.append_assoc, bv_app]
            have e2 : bv [UInt8.ofNat (m % 128 + 128)] = [.int .u8 ((m : Int) % 128 + 128)] := by
              simp only [bv, List.map_cons, List.map_nil, ofNat_toNat (show m % 128 + 128 < 256 by omega)]
              simp
            rw [e2]; exact e
          · rw [List.append_assoc, List.singleton_append, ← enc_big hbig]; exact HD.out
        case measure => simp [intOf]; omega
      · obtain ⟨A2, c2, w2, hap, hown2, hbel2⟩ := append_one (P := Try.prog) (ty := 22) Try.underlying22 hi hz0 hz1 hz2 hown hnb hbel.size ((m : Int) % 256)
        have HO2 := Lib.hid hown2
        have HAP := Lib.hid hap
        clear hown hnb hown2 hap
        go_wp2_with (at_builtin; refine wpList_append_run rfl _ _ _ _ rfl rfl rfl HAP.out ?_)
        go_ret
        refine ⟨A2, n1 + 1, c2, rfl, ?_, hbel.trans hbel2⟩
        have e := HO2.out
        rw [← HD.out, enc_small (by omega), ← List.append_assoc, bv_app]
        have e2 : bv [UInt8.ofNat m] = [.int .u8 ((m : Int) % 256)] := by
          simp only [bv, List.map_cons, List.map_nil, ofNat_toNat (show m < 256 by omega)]
          rw [show (m : Int) % 256 = (m : Int) from by omega]
        rw [e2]; exact e
end Go.Proofs.Ytincnopaclmppaa
/- pack.Text. -/
namespace Go.Proofs.Ytincnopaclmppaa
open Go.RowKit

set_option maxHeartbeats 800000 in
theorem text_any {w : World} {B n c : Nat} {A : Option Addr} {l : List UInt8} {s : ByteArray} (h : Sl w B A n c (bv l)) (hB : B ≤ w.heap.size) (hn : n ≤ 70368744177664) (hs : s.size ≤ 35184372088832) :
    Calls Try.prog 32 #[.slice A n c, .string s] w fun e w' => ∃ A' n' c', e = .returned (.slice A' n' c') ∧ w'.ownsRow w.heap.size 5 1 (.slice A' n' c') n' (bv (l ++ textB s.data.toList)) ∧ Below w.heap.size w w' := by
  obtain ⟨i, hi, hz0, hz1, hz2⟩ := info_parts u8info
  have hc := num_any (k := (s.size : Int)) h hB hn (by omega) (by omega)
  have hlen := h.len
  rw [bv_len] at hlen
  have HC := Lib.hid hc
  have HL := Lib.hid hlen
  clear hc hlen h
  go_enter Try.func32, Try.ntmps32
  go_wp2_with fail
  refine HC.out.mono ?_
  rintro e w1 ⟨A1, n1, c1, rfl, hown, hbel⟩
  have hn1 : n1 = n + (numB (s.size : Int)).length := by have := hown.1; have e := HL.out; simp [bv_len] at this; omega
  have hnl := numB_len (n := (s.size : Int)) (by omega) (by omega)
  obtain ⟨A2, c2, w2, hap, hown2, hbel2⟩ := append_text (P := Try.prog) (ty := 22) Try.underlying22 hi hz0 hz1 hz2 Try.underlying9 hown s (by omega) hbel.size
  have HO := Lib.hid hown2
  have HAP := Lib.hid hap
  clear hown hown2 hap hn1 hnl
  go_wp2_with (at_builtin; refine wpList_append_run rfl _ _ _ _ rfl rfl rfl HAP.out ?_)
  go_ret
  refine ⟨A2, _, c2, rfl, ?_, hbel.trans hbel2⟩
  have e := HO.out
  rw [textB, ← List.append_assoc, bv_app]
  have e2 : (s.data.toList.length : Int) = (s.size : Int) := by rw [Array.length_toList]; rfl
  rw [e2]
  exact e

theorem num_nil (w : World) (k : Int) (hk1 : -9223372036854775808 ≤ k) (hk2 : k ≤ 9223372036854775807) :
    Calls Try.prog 30 #[.slice none 0 0, .int .i64 k] w fun e w' => ∃ A n c, e = .returned (.slice A n c) ∧ w'.ownsRow w.heap.size 5 1 (.slice A n c) n (bv (numB k)) ∧ Below w.heap.size w w' :=
  num_any (l := []) (Sl.nil_ w 0) (by omega) (by omega) hk1 hk2
theorem text_nil (w : World) (s : ByteArray) (hs : s.size ≤ 35184372088832) :
    Calls Try.prog 32 #[.slice none 0 0, .string s] w fun e w' => ∃ A n c, e = .returned (.slice A n c) ∧ w'.ownsRow w.heap.size 5 1 (.slice A n c) n (bv (textB s.data.toList)) ∧ Below w.heap.size w w' :=
  text_any (l := []) (Sl.nil_ w 0) (by omega) (by omega) hs
end Go.Proofs.Ytincnopaclmppaa
/- bailiffbook.Same over bytes: so just if the two rows are the same; nothing but draws. -/
namespace Go.Proofs.Ytincnopaclmppaa
open Go.RowKit

theorem take_step {α : Type} [DecidableEq α] {l m : List α} {k : Nat} (h1 : k < l.length) (h2 : k < m.length) (h : l.take k = m.take k) (he : l[k] = m[k]) : l.take (k + 1) = m.take (k + 1) := by
  rw [List.take_succ_eq_append_getElem h1, List.take_succ_eq_append_getElem h2, h, he]

set_option maxHeartbeats 800000 in
theorem same_any {w : World} {B B' n c n' c' : Nat} {A A' : Option Addr} {l m : List UInt8} (h : Sl w B A n c (bv l)) (h' : Sl w B' A' n' c' (bv m)) :
    Calls Try.prog 14 #[.slice A n c, .slice A' n' c'] w fun e w' => e = .returned (.bool (decide (l = m))) ∧ ∃ k, w' = w.drewN k := by
  have hl : l.length = n := by rw [← bv_len]; exact h.1
  have hm : m.length = n' := by rw [← bv_len]; exact h'.1
  have hcap := h.cap
  have hle := h.le
  unfold maxLen at hcap
  by_cases hn : n = n'
  · subst hn
    have H := Lib.hid h
    have H' := Lib.hid h'
    clear h h'
    have HL := Lib.hid hl
    have HM := Lib.hid hm
    clear hl hm
    go_enter Try.func14, Try.ntmps14
    go_wp2
    go_loopw [5] (fun i wr => ∃ k : Nat, k ≤ n ∧ i = .int .i64 k ∧ l.take k = m.take k ∧ ∃ q, wr = w.drewN q) (fun i _ => n - (intOf i).toNat)
    case atStart => exact ⟨0, Nat.zero_le _, rfl, rfl, 0, rfl⟩
    case round =>
      obtain ⟨k, hk, rfl, ht, q, rfl⟩ := hrel
      have HT := Lib.hid ht
      clear ht
      by_cases hlt : k < n
      · obtain ⟨b, o, rfl, _, hkl, hc⟩ := H.out.byte hlt
        obtain ⟨b', o', rfl, _, hkm, hc'⟩ := H'.out.byte hlt
        by_cases he : l[k] = m[k]
        · have hne : ((l[k].toNat : Int) != (m[k].toNat : Int)) = false := by rw [bytes_ne, he]; simp
          have HE := Lib.hid he
          clear he
          go_wp2_with fail
          go_quiet (fail)
          go_wp2
          go_roundw
          case rel => exact ⟨k + 1, by omega, by go_num, take_step hkl hkm HT.out HE.out, _, rfl⟩
          case measure => simp [intOf]; omega
        · have hne : ((l[k].toNat : Int) != (m[k].toNat : Int)) = true := by rw [bytes_ne]; simpa using he
          have HE := Lib.hid he
          clear he
          go_wp2_with fail
          go_quiet (fail)
          go_wp2
          go_ret
          refine ⟨ret_bool ?_, _, World.drewN_drewN ..⟩
          symm
          rw [decide_eq_false_iff_not]
          rintro rfl
          exact HE.out rfl
      · obtain rfl : k = n := by omega
        go_wp2
        go_ret
        refine ⟨ret_bool ?_, _, rfl⟩
        symm
        rw [decide_eq_true_iff]
        have := HT.out
        rwa [List.take_of_length_le (by rw [HL.out]; omega), List.take_of_length_le (by rw [HM.out]; omega)] at this
  · have hne : ((n : Int) != (n' : Int)) = true := by rw [bne_iff_ne]; omega
    have HL := Lib.hid hl
    have HM := Lib.hid hm
    clear hl hm h h'
    go_enter Try.func14, Try.ntmps14
    go_wp2
    go_ret
    refine ⟨ret_bool ?_, 0, rfl⟩
    symm
    rw [decide_eq_false_iff_not]
    rintro rfl
    exact hn (HL.out.symm.trans HM.out)

theorem same_true {w : World} {B B' n c n' c' : Nat} {A A' : Option Addr} {l m : List UInt8} (h : Sl w B A n c (bv l)) (h' : Sl w B' A' n' c' (bv m)) (e : l = m) :
    Calls Try.prog 14 #[.slice A n c, .slice A' n' c'] w fun e w' => e = .returned (.bool true) ∧ Below w.heap.size w w' :=
  (same_any h h').mono fun _ _ hh => ⟨by rw [hh.1, decide_eq_true e], by obtain ⟨k, hk⟩ := hh.2; rw [hk]; exact below_drewN (Below.refl _ _) k⟩

end Go.Proofs.Ytincnopaclmppaa
/- AskRuns, in any world: Get and Put of no request. -/
namespace Go.Proofs.Ytincnopaclmppaa
set_option linter.unusedVariables false
open Go.RowKit

set_option maxHeartbeats 800000 in
theorem insert_nil {c : Nat} (f : Value) (w : World) :
    Calls Try.prog 80 #[.slice none 0 0, .int .i64 0, .int .i64 0, f] w fun e w' => e = .returned (.tuple #[]) ∧ w' = w := by
  go_enter Try.func80, Try.ntmps80
  go_wp2
  go_loop [8] (fun i => i = .int .i64 1) (fun i => 0)
  case atStart => rfl
  case round =>
    obtain rfl := hrel
    go_wp2
    go_end0
    exact ⟨rfl, rfl⟩
set_option maxHeartbeats 800000 in
theorem stable_nil (f : Value) (w : World) :
    Calls Try.prog 71 #[.slice none 0 0, .int .i64 0, f] w fun e w' => e = .returned (.tuple #[]) ∧ w' = w := by
  go_enter Try.func71, Try.ntmps71
  go_wp2
  go_loop [7, 8] (fun i j => i = .int .i64 0 ∧ j = .int .i64 20) (fun i j => 0)
  case atStart => exact ⟨rfl, rfl⟩
  case round =>
    obtain ⟨rfl, rfl⟩ := hrel
    go_wp2_with (go_at_call 80; refine (insert_nil (c := 0) f w).mono ?_; rintro e w1 ⟨rfl, rfl⟩)
    go_loop [6] (fun i => i = .int .i64 20) (fun i => 0)
    case atStart => rfl
    case round =>
      obtain rfl := hrel
      go_wp2
      go_end0
      exact ⟨rfl, rfl⟩
theorem sorts_nil (f : Value) (w : World) :
    Calls Try.prog 50 #[.slice none 0 0, f] w fun e w' => e = .returned (.tuple #[]) ∧ w' = w := by
  go_enter Try.func50, Try.ntmps50
  go_wp2_with (go_at_call 71; refine (stable_nil f w).mono ?_; rintro e w1 ⟨rfl, rfl⟩)
  go_end0
  exact ⟨rfl, rfl⟩
theorem ordered_nil (w : World) :
    Calls Try.prog 31 #[.slice none 0 0] w fun e w' => e = .returned (.slice none 0 0) ∧ w' = w := by
  obtain ⟨i, hi, _, _, _⟩ := info_of givinfo
  have HR := Lib.hid (append_nil_src (ty := 47) (c := 0) Try.underlying47 hi (w := w) (World.ownsRow_nil w w.heap.size 49 3))
  clear hi
  go_enter Try.func31, Try.ntmps31
  go_wp2_with (first
    | (at_builtin; refine wpList_append_run rfl _ _ _ _ rfl rfl rfl HR.out ?_)
    | (go_at_call 50; refine (sorts_nil _ w).mono ?_; rintro e w1 ⟨rfl, rfl⟩))
  go_ret
  exact ⟨rfl, rfl⟩
set_option maxHeartbeats 800000 in
theorem put_nil (w : World) :
    Calls Try.prog 15 #[.slice none 0 0] w fun e w' => ∃ A n c, e = .returned (.slice A n c) ∧ Below w.heap.size w w' ∧ Sl w' w'.heap.size A n c (bv [0]) := by
  have HN := Lib.hid (num_nil w 0 (by omega) (by omega))
  go_enter Try.func15, Try.ntmps15
  go_wp2_with (first
    | (go_at_call 30; refine HN.out.mono ?_; rintro e w1 ⟨A, n, c, rfl, ho, hb⟩; have HO := Lib.hid ho; have HB := Lib.hid hb; clear ho hb)
    | (go_at_call 31; refine (ordered_nil _).mono ?_; rintro e w2 ⟨rfl, rfl⟩))
  go_loop [3, 14] (fun o i => o = .slice A n c ∧ i = .int .i64 0) (fun o i => 0)
  case atStart => exact ⟨rfl, rfl⟩
  case round =>
    obtain ⟨rfl, rfl⟩ := hrel
    go_wp2
    go_ret
    have e0 : numB 0 = [0] := by decide +kernel
    exact ⟨A, n, c, rfl, HB.out, Sl.of_own (by rw [← e0]; exact HO.out)⟩
set_option maxHeartbeats 1600000 in
theorem aruns_any (w : World) : Calls Try.prog 4 #[] w fun e w' => e = .returned (.bool true) ∧ Below w.heap.size w w' := by
  have HG := Lib.hid (aget_any (l := []) ⟨1, ⟨#[114, 111, 108, 101]⟩, true⟩ (Rw.nil_ 3 (GivAt w fun _ => True) w fun _ => True) (fun g hg => by cases hg))
  have e1 : getE [] ⟨1, ⟨#[114, 111, 108, 101]⟩, true⟩ = 4 := by rfl
  have e2 : getR [] ⟨1, ⟨#[114, 111, 108, 101]⟩, true⟩ = [] := by rfl
  rw [e1, e2] at HG
  clear e1 e2
  simp only at HG
  go_enter Try.func4, Try.ntmps4
  go_wp2_with (first
    | (go_at_call 13; refine HG.out.mono ?_; rintro e w1 ⟨A1, n1, c1, rfl, hb1, hv1⟩; obtain rfl : n1 = 0 := (Rw.len hv1).symm; have B1 := Lib.hid hb1; clear hb1 hv1)
    | (go_at_call 15; refine (put_nil _).mono ?_; rintro e w2 ⟨A2, n2, c2, rfl, hb2, hs2⟩; have B2 := Lib.hid (below_step B1.out hb2); have S2 := Lib.hid hs2
       have CS := Lib.hid (fun t => same_any (hs2.lit_keep (Nat.le_refl _) (.cells #[.int .u8 0] t)) (Sl.lit w2 t (bv [0]) 1 rfl (by simp [maxLen])))
       clear hb2 hs2)
    | (go_at_call 14; refine (CS.out _).mono ?_; rintro e w3 ⟨rfl, k3, rfl⟩))
  go_ret
  exact ⟨by simp, below_drewN (B2.out.alloc B2.out.size _) _⟩
end Go.Proofs.Ytincnopaclmppaa
/- wrong, Right: the first thing that is wrong with a request. -/
namespace Go.Proofs.Ytincnopaclmppaa
set_option linter.unusedVariables false
open Go.RowKit Go.Sort

set_option maxHeartbeats 800000 in
theorem wrong_any {w : World} {R R1 : Nat → Prop} {A A1 : Option Addr} {n c n1 c1 : Nat} {l : List Giv} (g : Giv) (hok : g.ok) (h : Gvs w R A n c l) (hb : Vls w R1 A1 n1 c1 g.bag) :
    Calls Try.prog 41 #[.slice A n c, .agg #[.int .i64 g.cat, .string g.name, .slice A1 n1 c1]] w fun e w' => e = .returned (.int .i64 (wrongA l g)) ∧ Below w.heap.size w w' := by
  obtain ⟨gc, gn, gb⟩ := g
  have HA := Lib.hid (attr_any ⟨gc, gn, false⟩ ⟨hok.1, hok.2⟩)
  have HP := Lib.hid (fun W (hW : Below w.heap.size w W) => place_any gc gn (h.keep (Kept.all hW R) (fun _ h _ => h)))
  have HV := Lib.hid (fun W (hW : Below w.heap.size w W) => vbag_any (hb.keep (Kept.all hW R1) (fun _ h _ => h)).vs (Nat.le_refl _))
  have HE : Hid (wrongA l ⟨gc, gn, gb⟩ = if attrB ⟨gc, gn, false⟩ = true ∧ bagB gb = true then (if idxA l gc gn < l.length then 11 else 0) else 1) := rfl
  have HI : Hid (placeI l gc gn = if idxA l gc gn < l.length then (idxA l gc gn : Int) else -1) := rfl
  clear h hb hok
  simp only at HA HP HV HE HI ⊢
  generalize wrongA l ⟨gc, gn, gb⟩ = r at *
  generalize attrB ⟨gc, gn, false⟩ = ab at *
  generalize bagB gb = bb at *
  generalize hpi : placeI l gc gn = pi at *
  clear hpi
  have HB0 := Lib.hid ((Below.refl w.heap.size w).alloc (Nat.le_refl _) (.cells #[.int .i64 gc, .string gn, .slice A1 n1 c1] 49))
  cases ab
  · go_enter Try.func41, Try.ntmps41
    go_wp2_with (go_at_call 57; refine (HA.out _).mono ?_; rintro e w1 ⟨rfl, hb1⟩; have B1 := Lib.hid (Below.lit hb1))
    go_ret
    exact ⟨ret_int (by rw [HE.out]; simp), B1.out⟩
  cases bb
  · go_enter Try.func41, Try.ntmps41
    go_wp2_with (first
      | (go_at_call 57; refine (HA.out _).mono ?_; rintro e w1 ⟨rfl, hb1⟩; have B1 := Lib.hid (Below.lit hb1); have c1 := (Ob.below (Ob.made _ _ _) hb1 (by simp)).cell 2)
      | (go_at_call 58; refine (HV.out _ B1.out).mono ?_; rintro e w2 ⟨rfl, hb2⟩; have B2 := Lib.hid (below_step B1.out hb2)))
    go_ret
    exact ⟨ret_int (by rw [HE.out]; simp), B2.out⟩
  by_cases hi : idxA l gc gn < l.length
  · have hpi : ((pi : Int) ≥ 0) := by rw [HI.out, if_pos hi]; omega
    have HE2 : Hid (r = 11) := by show r = 11; rw [HE.out, if_pos ⟨rfl, rfl⟩, if_pos hi]
    clear HE HI hi
    go_enter Try.func41, Try.ntmps41
    go_wp2_with (first
      | (go_at_call 57; refine (HA.out _).mono ?_; rintro e w1 ⟨rfl, hb1⟩; have B1 := Lib.hid (Below.lit hb1); have OB := Lib.hid (Ob.below (Ob.made _ _ _) hb1 (by simp)); have c1 := OB.out.cell 2)
      | (go_at_call 58; refine (HV.out _ B1.out).mono ?_; rintro e w2 ⟨rfl, hb2⟩; have B2 := Lib.hid (below_step B1.out hb2); have OB2 := Lib.hid (Ob.below OB.out hb2 (Ob.lt OB.out)); have c2 := OB2.out.cell 0; have c3 := OB2.out.cell 1)
      | (go_at_call 28; refine (HP.out _ B2.out).mono ?_; rintro e w3 ⟨rfl, hb3⟩; have B3 := Lib.hid (below_step B2.out hb3)))
    go_ret
    exact ⟨ret_int HE2.out.symm, B3.out⟩
  · have hpi : ¬ ((pi : Int) ≥ 0) := by rw [HI.out, if_neg hi]; omega
    have HE2 : Hid (r = 0) := by show r = 0; rw [HE.out, if_pos ⟨rfl, rfl⟩, if_neg hi]
    clear HE HI hi
    go_enter Try.func41, Try.ntmps41
    go_wp2_with (first
      | (go_at_call 57; refine (HA.out _).mono ?_; rintro e w1 ⟨rfl, hb1⟩; have B1 := Lib.hid (Below.lit hb1); have OB := Lib.hid (Ob.below (Ob.made _ _ _) hb1 (by simp)); have c1 := OB.out.cell 2)
      | (go_at_call 58; refine (HV.out _ B1.out).mono ?_; rintro e w2 ⟨rfl, hb2⟩; have B2 := Lib.hid (below_step B1.out hb2); have OB2 := Lib.hid (Ob.below OB.out hb2 (Ob.lt OB.out)); have c2 := OB2.out.cell 0; have c3 := OB2.out.cell 1)
      | (go_at_call 28; refine (HP.out _ B2.out).mono ?_; rintro e w3 ⟨rfl, hb3⟩; have B3 := Lib.hid (below_step B2.out hb3)))
    go_ret
    exact ⟨ret_int HE2.out.symm, B3.out⟩

theorem Ob.grown3 {w : World} {g : Nat} {t : TypeId} {a b c : Value} (h : Ob w g t #[a, b, c]) : (∀ d os, (grow (redrawn w d) os).cell? ⟨g, 0, none⟩ = some a) ∧ (∀ d os, (grow (redrawn w d) os).cell? ⟨g, 1, none⟩ = some b) ∧ ∀ d os, (grow (redrawn w d) os).cell? ⟨g, 2, none⟩ = some c :=
  ⟨fun d os => cell_regrown (h.cell 0) d os, fun d os => cell_regrown (h.cell 1) d os, fun d os => cell_regrown (h.cell 2) d os⟩
set_option maxHeartbeats 1600000 in
theorem aright_any {w : World} {R : Nat → Prop} {A : Option Addr} {n c : Nat} {l : List Giv} (h : Gvs w R A n c l) :
    Calls Try.prog 22 #[.slice A n c] w fun e w' => e = .returned (.int .i64 (rightA l)) ∧ Below w.heap.size w w' := by
  have hle := Rw.le h
  have hcap := Rw.cap h
  have HL := Lib.hid (Rw.len h)
  unfold maxLen at hcap
  have H := Lib.hid h
  clear h
  by_cases h64 : 64 < n
  · have h64' : (64 : Int) < (n : Int) := by omega
    have HE : Hid (rightA l = 6) := by show rightA l = 6; unfold rightA; rw [if_pos (by have := HL.out; omega)]
    clear h64
    go_enter Try.func22, Try.ntmps22
    go_wp2_with fail
    go_ret
    exact ⟨ret_int HE.out.symm, Below.refl _ _⟩
  have h64' : ¬ (64 : Int) < (n : Int) := by omega
  have HE : Hid (rightA l = rightL [] l) := by show rightA l = _; unfold rightA; rw [if_neg (by have := HL.out; omega)]
  generalize rightA l = r at *
  go_enter Try.func22, Try.ntmps22
  go_wp2_with fail
  go_loopw [11] (fun i wr => ∃ k : Nat, k ≤ n ∧ i = .int .i64 k ∧ rightL [] l = rightL (l.take k) (l.drop k) ∧ Below w.heap.size w wr) (fun i _ => n - (intOf i).toNat)
  case atStart => exact ⟨0, Nat.zero_le _, rfl, by simp, Below.refl _ _⟩
  case round =>
    obtain ⟨k, hk, rfl, hf, hb⟩ := hrel
    have HF := Lib.hid hf
    have HB := Lib.hid hb
    have hb' := hb
    clear hf hb
    by_cases hlt : k < n
    · have HGV := Lib.hid (H.out.keep (Kept.all HB.out R) (fun _ h _ => h))
      obtain ⟨b, o, x, A', n', c', rfl, hRb, hbl, hx, hok, ⟨c0, c1, c2⟩, hin⟩ := HGV.out.at_ hlt
      have HX := Lib.hid (rightL_step hx)
      have hal := (Below.refl wr.heap.size wr).alloc (Nat.le_refl _) (.cells #[.int .i64 x.cat, .string x.name, .slice A' n' c'] 49)
      have qr := fun W (hW : Below wr.heap.size wr W) => wrong_any x hok (Rw.take (HGV.out.keep (Kept.all hW R) (fun _ h _ => h)) (Nat.le_of_lt hlt)) (hin.keep (Kept.all hW R) (fun _ h _ => h))
      have HAL := Lib.hid hal
      have hbx := Ob.made wr 49 #[.int .i64 x.cat, .string x.name, .slice A' n' c']
      have D1 := Lib.hid (hb'.alloc hb'.size (.cells #[.int .i64 x.cat, .string x.name, .slice A' n' c'] 49))
      have hk0 : (0 : Int) ≤ (k : Int) := by omega
      have hkc : (k : Int) ≤ (c : Int) := by omega
      have hw : ∀ W d os, Below wr.heap.size wr W → Calls Try.prog 41 #[.slice (some ⟨b, o, none⟩) k c, .agg #[.int .i64 x.cat, .string x.name, .slice A' n' c']] (grow (redrawn W d) os) fun e w' => e = .returned (.int .i64 (wrongA (l.take k) x)) ∧ ∃ p : Regrown, w' = grow (redrawn W p.d) p.os := fun W d os hW => Calls.regrown_of (w := W) (d := d) (os := os) (qr _ (hW.trans ((below_regrown W d os).mono hW.size)))
      clear hx hok hin qr hal
      go_wp2_with fail
      have hW1 := HAL.out
      generalize wr.alloc (.cells #[.int .i64 x.cat, .string x.name, .slice A' n' c'] 49) = W1 at *
      obtain ⟨g0, g1, g2⟩ := Ob.grown3 hbx
      have QR := Lib.hid (fun d os => hw W1 d os hW1)
      clear hw hW1
      by_cases hz : wrongA (l.take k) x = 0
      · rw [hz] at QR
        have HZ := Lib.hid hz
        clear hz
        refine wp_region_quiet_below (by kernel_rfl) (by kernel_rfl) ?_
        repeat (go_big_quiet_step ((go_at_call 41; exact QR.out _ _)))
        refine wpQuiet_nil ?_
        intro _ hw'
        obtain ⟨⟨dq, osq⟩, hw''⟩ := hw'
        subst hw''
        have D2 := Lib.hid (below_step D1.out (below_regrown W1 dq osq))
        clear g0 g1 g2
        generalize grow (redrawn W1 dq) osq = W2 at *
        go_wp2_with fail
        go_roundw
        case rel => exact ⟨k + 1, by omega, by go_num, by rw [HF.out, HX.out, if_neg (by rw [HZ.out]; simp)], D2.out⟩
        case measure => simp [intOf]; omega
      · have HZ := Lib.hid hz
        obtain ⟨ee, he⟩ : ∃ ee, ee = wrongA (l.take k) x := ⟨_, rfl⟩
        have HEE := Lib.hid he
        rw [← he] at hz QR
        have hne : (ee != 0) = true := by simpa using hz
        clear he
        refine wp_region_quiet_below (by kernel_rfl) (by kernel_rfl) ?_
        repeat (go_big_quiet_step ((go_at_call 41; exact QR.out _ _)))
        refine wpQuiet_nil ?_
        intro _ hw'
        obtain ⟨⟨dq, osq⟩, hw''⟩ := hw'
        subst hw''
        have D2 := Lib.hid (below_step D1.out (below_regrown W1 dq osq))
        clear g0 g1 g2
        generalize grow (redrawn W1 dq) osq = W2 at *
        go_wp2_with fail
        go_ret
        exact ⟨ret_int (by rw [HE.out, HF.out, HX.out, if_pos HZ.out]; exact HEE.out), D2.out⟩
    · obtain rfl : k = n := by omega
      go_wp2
      go_ret
      exact ⟨ret_int (by rw [HE.out, HF.out]; exact (rightL_end (by have := HL.out; omega)).symm), HB.out⟩
end Go.Proofs.Ytincnopaclmppaa
/- bailiffkeep: how much may be gone through: takes, text. -/
namespace Go.Proofs.Ytincnopaclmppaa
set_option linter.unusedVariables false
open Go.RowKit

/-- What is left. -/
def Lf (w : World) (g m : Nat) : Prop := Ob w g 81 #[.int .i64 (m : Int)]
/-- A call that takes so much of it. -/
def Taking (f : FuncId) (args : Array Value) (w : World) (g m c : Nat) : Prop :=
  Calls Try.prog f args w fun e w' => e = .returned (.bool (decide (c ≤ m))) ∧ Only g w w' ∧ (c ≤ m → Lf w' g (m - c))
theorem Only.kept {g : Nat} {w w' : World} (h : Only g w w') {R : Nat → Prop} (hR : ∀ b, R b → b ≠ g) : Kept R w w' := ⟨h.le, fun b hb hl => h.heap hl (hR b hb)⟩
theorem Only.alloc (g : Nat) (w : World) (o : Obj) : Only g w (w.alloc o) := Only.of_below ((Below.refl _ _).alloc (Nat.le_refl _) _)

theorem takes_any {w : World} {g m n : Nat} (hl : Lf w g m) (hm : m ≤ 3000) (hn : n ≤ maxLen) : Taking 34 #[.pointer (some ⟨g, 0, none⟩), .int .i64 (n : Int)] w g m n := by
  unfold Taking
  have c0 := hl.cell 0
  have f0 := hl.frozen 0
  have HL := Lib.hid hl
  unfold maxLen at hn
  clear hl
  by_cases h : n ≤ m
  · have h' : ¬ (m : Int) < (n : Int) := by omega
    have e : (m : Int) - (n : Int) = ((m - n : Nat) : Int) := by omega
    have HD := Lib.hid h
    clear h
    go_enter Try.func34, Try.ntmps34
    go_wp2_with fail
    go_ret
    refine ⟨ret_bool (decide_eq_true HD.out).symm, Only.refl.setCell rfl _, fun _ => ?_⟩
    have := HL.out.put 0 (.int .i64 ((m - n : Nat) : Int))
    simpa [Lf] using this
  · have h' : (m : Int) < (n : Int) := by omega
    have HD := Lib.hid h
    clear h
    go_enter Try.func34, Try.ntmps34
    go_wp2_with fail
    go_ret
    exact ⟨ret_bool (decide_eq_false HD.out).symm, Only.refl, fun h => absurd h HD.out⟩

def textC (s : ByteArray) : Nat := 1 + s.size / 8
theorem ktext_any {w : World} {g m : Nat} (s : ByteArray) (hl : Lf w g m) (hm : m ≤ 3000) (hs : s.size ≤ maxLen) : Taking 35 #[.pointer (some ⟨g, 0, none⟩), .string s] w g m (textC s) := by
  unfold maxLen at hs
  have HT := Lib.hid (takes_any (n := textC s) hl hm (by unfold maxLen textC; omega))
  have e : ((textC s : Nat) : Int) = 1 + (s.size : Int) / 8 := by unfold textC; omega
  unfold Taking at HT ⊢
  rw [e] at HT
  clear hl e
  go_enter Try.func35, Try.ntmps35
  go_wp2_with (go_at_call 34; refine HT.out.mono ?_; rintro e w1 ⟨rfl, hb, hw⟩)
  go_ret
  exact ⟨rfl, hb, hw⟩

def sumC {α : Type} (f : α → Nat) : List α → Nat
  | [] => 0
  | x :: l => f x + sumC f l
theorem sumC_app {α : Type} (f : α → Nat) : ∀ (l m : List α), sumC f (l ++ m) = sumC f l + sumC f m
  | [], m => by simp [sumC]
  | x :: l, m => by simp only [List.cons_append, sumC, sumC_app f l m]; omega
theorem sumC_take {α : Type} {f : α → Nat} {l : List α} {k : Nat} {x : α} (h : l[k]? = some x) : sumC f (l.take (k + 1)) = sumC f (l.take k) + f x := by
  obtain ⟨hk, rfl⟩ := List.getElem?_eq_some_iff.1 h
  rw [List.take_succ_eq_append_getElem hk, sumC_app]
  rfl
theorem sumC_zero {α : Type} (f : α → Nat) (l : List α) : sumC f (l.take 0) = 0 := by simp [sumC]
theorem sumC_all {α : Type} {f : α → Nat} {l : List α} {n : Nat} (h : l.length = n) : sumC f (l.take n) = sumC f l := by rw [List.take_of_length_le (by omega)]
theorem sumC_le {α : Type} {f : α → Nat} {l : List α} {k : Nat} {x : α} (h : l[k]? = some x) : sumC f (l.take k) + f x ≤ sumC f l := by
  rw [← sumC_take h]
  have := sumC_app f (l.take (k + 1)) (l.drop (k + 1))
  rw [List.take_append_drop] at this
  omega
theorem sumC_mem {α : Type} {f : α → Nat} {l : List α} {x : α} (h : x ∈ l) : f x ≤ sumC f l := by
  obtain ⟨k, hk, rfl⟩ := List.getElem_of_mem h
  have := sumC_le (f := f) (List.getElem?_eq_getElem hk)
  omega
theorem Lf.alloc {w : World} {g m : Nat} (h : Lf w g m) (o : Obj) : Lf (w.alloc o) g m := Ob.keep h (Below.heap_alloc w o g (Ob.lt h))
end Go.Proofs.Ytincnopaclmppaa
