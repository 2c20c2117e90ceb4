/- Several texts in one: PolRight, PolLit, PolApp, PolicyExprsM, ExprMath, TgtMath, MarkNums, Within, Marks. -/
import Derived.Test.YtmoglaknmlhpgaaGreatDoorOnlE
import Derived.Test.YtmoglaknmlhpgaaGreatDoorOnlA
import Derived.Maps.AppendAt
import Derived.Deep.RegionLaw
import Derived.Test.YtmoglaknmlhpgaaGreatDoorOnlD
import Derived.Test.YtmoglaknmlhpgaaGreatDoorOnlB
import Derived.Test.YtmoglaknmlhpgaaGreatDoorOnlC
import Derived.Test.YtmoglaknmlhpgaaGreatDoorRows
import Derived.WalkKit
import Derived.WalkLawsBesides
import Derived.Lib.Hide
/- Right, Rules (the project's), over any policy. -/
namespace Go.Proofs.YtmoglaknmlhpgaaGreatDoor
set_option linter.unusedVariables false
open Go.RowKit Go.Sort

theorem pol_four : PolOk 4 := pol_succ (pol_succ (pol_succ (pol_succ pol_zero (by omega)) (by omega)) (by omega)) (by omega)

theorem walk_ret2 {fn : Func} {p u : Tmp} {tmps : Array Value} {w : World} {g : Nat} {a b v : Value} (h : fn.results = #[.cell p 59, .tmp u]) (hp : tmps.getD p undef = .pointer (some ⟨g, 0, none⟩)) (hu : tmps.getD u undef = v) (hg : Ob w g 59 #[a, b]) :
  (results fn tmps).run Tryz.prog w = .ok (.tuple #[.agg #[a, b], v]) w := by
 rw [results_cell_tmp h, hp, hu]
 have hl := run_loadVar_row (P := Tryz.prog) w g 59 _ _ (0, 0) _ hg Tryz.underlying59 rfl (by kernel_rfl)
 simp [asAddr, hl, Result.andThen]

def PolIn (w : World) (R : Nat → Prop) (p : Pol) (A1 : Option Addr) (n1 k1 : Nat) (A2 : Option Addr) (n2 k2 : Nat) (A3 : Option Addr) (n3 k3 : Nat) (A4 : Option Addr) (n4 k4 : Nat) : Prop :=
 (p.id.size ≤ maxLen ∧ InI p.alg) ∧ Tg w R A1 n1 k1 p.tg ∧ Rus w R A2 n2 k2 p.rules ∧ (∃ m, Pls w R m A3 n3 k3 p.kids) ∧ Dus w R A4 n4 k4 p.ob
section
variable {w w' : World} {R R' : Nat → Prop} {p : Pol} {A1 A2 A3 A4 : Option Addr} {n1 k1 n2 k2 n3 k3 n4 k4 : Nat}
theorem PolIn.keep (h : PolIn w R p A1 n1 k1 A2 n2 k2 A3 n3 k3 A4 n4 k4) (hk : Kept R w w') (hR : ∀ b, R b → b < w.heap.size → R' b) : PolIn w' R' p A1 n1 k1 A2 n2 k2 A3 n3 k3 A4 n4 k4 := by
 obtain ⟨h0, h1, h2, ⟨m, h3⟩, h4⟩ := h
 exact ⟨h0, h1.keep hk hR, h2.keep hk hR, ⟨m, h3.keep hk hR⟩, h4.keep hk hR⟩
theorem PolIn.low (h : PolIn w R p A1 n1 k1 A2 n2 k2 A3 n3 k3 A4 n4 k4) : PolIn w (fun b => b < w.heap.size) p A1 n1 k1 A2 n2 k2 A3 n3 k3 A4 n4 k4 := h.keep (Kept.refl _ _) fun _ _ h => h
theorem PolIn.then_ (h : PolIn w R p A1 n1 k1 A2 n2 k2 A3 n3 k3 A4 n4 k4) (hb : Below w.heap.size w w') : PolIn w' R p A1 n1 k1 A2 n2 k2 A3 n3 k3 A4 n4 k4 := h.keep (Kept.all hb R) fun _ h _ => h

set_option maxRecDepth 100000 in
set_option maxHeartbeats 1600000 in
theorem through_any (h : PolIn w R p A1 n1 k1 A2 n2 k2 A3 n3 k3 A4 n4 k4) :
  Calls Tryz.prog 17 #[.agg #[.string p.id, .bool p.set, .int .i64 p.alg, .slice A1 n1 k1, .slice A2 n2 k2, .slice A3 n3 k3, .slice A4 n4 k4]] w
   fun e w' => ∃ (B n : Nat), e = .returned (.tuple #[.agg #[.map (some B), .int .i64 n], .int .i64 (rightE p)]) ∧ (rightE p = 0 → n = rulesN p) ∧ Below w.heap.size w w' := by
 have hmm := @run_makeMap Tryz.prog
 have h' := h.low
 have HP := Lib.hid h'
 obtain ⟨⟨hid, halg⟩, _⟩ := h
 have HID := Lib.hid hid
 clear h' hid halg
 have W0 : Hid (Wk ((((w.alloc (.cells #[.string p.id, .bool p.set, .int .i64 p.alg, .slice A1 n1 k1, .slice A2 n2 k2, .slice A3 n3 k3, .slice A4 n4 k4] 28)).alloc (.cells #[.map none, .int .i64 0] 59)).alloc (.map #[] 0)).alloc (.cells #[.map (some (w.heap.size + 1 + 1)), .int .i64 0] 59)) (w.heap.size + 1 + 1 + 1) (w.heap.size + 1 + 1) ⟨[], 0⟩) := by
  refine ⟨?_, ?_, by omega, Nat.le_refl _⟩
  ·have := Ob.made (((w.alloc (.cells #[.string p.id, .bool p.set, .int .i64 p.alg, .slice A1 n1 k1, .slice A2 n2 k2, .slice A3 n3 k3, .slice A4 n4 k4] 28)).alloc (.cells #[.map none, .int .i64 0] 59)).alloc (.map #[] 0)) 59 #[.map (some (w.heap.size + 1 + 1)), .int .i64 0]
   rwa [size_al, size_al, size_al] at this
  ·have := (MapIs.made ((w.alloc (.cells #[.string p.id, .bool p.set, .int .i64 p.alg, .slice A1 n1 k1, .slice A2 n2 k2, .slice A3 n3 k3, .slice A4 n4 k4] 28)).alloc (.cells #[.map none, .int .i64 0] 59))).below ((Below.refl _ (((w.alloc (.cells #[.string p.id, .bool p.set, .int .i64 p.alg, .slice A1 n1 k1, .slice A2 n2 k2, .slice A3 n3 k3, .slice A4 n4 k4] 28)).alloc (.cells #[.map none, .int .i64 0] 59)).alloc (.map #[] 0))).alloc (Nat.le_refl _) (.cells #[.map (some (w.heap.size + 1 + 1)), .int .i64 0] 59))
   rwa [size_al, size_al] at this
 have R0 : Hid (Ob ((((w.alloc (.cells #[.string p.id, .bool p.set, .int .i64 p.alg, .slice A1 n1 k1, .slice A2 n2 k2, .slice A3 n3 k3, .slice A4 n4 k4] 28)).alloc (.cells #[.map none, .int .i64 0] 59)).alloc (.map #[] 0)).alloc (.cells #[.map (some (w.heap.size + 1 + 1)), .int .i64 0] 59)) (w.heap.size + 1) 59 #[.map none, .int .i64 0]) := by
  have h0 := Ob.made (w.alloc (.cells #[.string p.id, .bool p.set, .int .i64 p.alg, .slice A1 n1 k1, .slice A2 n2 k2, .slice A3 n3 k3, .slice A4 n4 k4] 28)) 59 #[.map none, .int .i64 0]
  rw [size_al] at h0
  have h1 := h0.keep (Below.heap_alloc ((w.alloc (.cells #[.string p.id, .bool p.set, .int .i64 p.alg, .slice A1 n1 k1, .slice A2 n2 k2, .slice A3 n3 k3, .slice A4 n4 k4] 28)).alloc (.cells #[.map none, .int .i64 0] 59)) (.map #[] 0) _ (by simp))
  exact h1.keep (Below.heap_alloc _ _ _ (by first | (simp; done) | (simp; omega)))
 have D0 : Hid (Below w.heap.size w ((((w.alloc (.cells #[.string p.id, .bool p.set, .int .i64 p.alg, .slice A1 n1 k1, .slice A2 n2 k2, .slice A3 n3 k3, .slice A4 n4 k4] 28)).alloc (.cells #[.map none, .int .i64 0] 59)).alloc (.map #[] 0)).alloc (.cells #[.map (some (w.heap.size + 1 + 1)), .int .i64 0] 59))) := ((((Below.refl _ w).alloc (Nat.le_refl _) _).alloc (by simp) _).alloc (by first | (simp; done) | (simp; omega)) _).alloc (by first | (simp; done) | (simp; omega)) _
 have HIN := Lib.hid (HP.out.keep (Kept.below D0.out (R := fun b => b < w.heap.size) (fun _ h _ => h)) (fun _ h _ => h))
 have HC : Hid (Calls Tryz.prog 30 #[.pointer (some ⟨w.heap.size + 1 + 1 + 1, 0, none⟩), .agg #[.string p.id, .bool p.set, .int .i64 p.alg, .slice A1 n1 k1, .slice A2 n2 k2, .slice A3 n3 k3, .slice A4 n4 k4], .int .i64 1] ((((w.alloc (.cells #[.string p.id, .bool p.set, .int .i64 p.alg, .slice A1 n1 k1, .slice A2 n2 k2, .slice A3 n3 k3, .slice A4 n4 k4] 28)).alloc (.cells #[.map none, .int .i64 0] 59)).alloc (.map #[] 0)).alloc (.cells #[.map (some (w.heap.size + 1 + 1)), .int .i64 0] 59))
   fun e w' => e = .returned (.int .i64 (polS 4 p ⟨[], 0⟩).1) ∧ Only2 (w.heap.size + 1 + 1 + 1) (w.heap.size + 1 + 1) ((((w.alloc (.cells #[.string p.id, .bool p.set, .int .i64 p.alg, .slice A1 n1 k1, .slice A2 n2 k2, .slice A3 n3 k3, .slice A4 n4 k4] 28)).alloc (.cells #[.map none, .int .i64 0] 59)).alloc (.map #[] 0)).alloc (.cells #[.map (some (w.heap.size + 1 + 1)), .int .i64 0] 59)) w' ∧ WkE w' (w.heap.size + 1 + 1 + 1) (w.heap.size + 1 + 1) (polS 4 p ⟨[], 0⟩)) := by
  obtain ⟨h0, h1, h2, ⟨m, h3⟩, h4⟩ := HIN.out
  exact pol_four W0.out (by simp [idsB]) (fun b hb => ⟨by omega, by omega⟩) h0.1 h1 h2 h3 h4
 have HE : Hid (rightE p = (polS 4 p ⟨[], 0⟩).1 ∧ rulesN p = (polS 4 p ⟨[], 0⟩).2.n) := ⟨rfl, rfl⟩
 generalize polS 4 p ⟨[], 0⟩ = z at *
 go_enter Tryz.func17, Tryz.ntmps17
 go_wp2_with (first
  | (go_at_call 30; refine HC.out.mono ?_; rintro e w1 ⟨rfl, hb1, s', hs', hz'⟩; have S1 := Lib.hid hs'; have O1 := hs'.ob; have Z1 := Lib.hid hz'; have D1 := Lib.hid (D0.out.trans (hb1.below D0.out.size (by omega) (by omega))); have c0 := O1.cell 0; have c1 := O1.cell 1; have R1 := Lib.hid (R0.out.keep (hb1.heap R0.out.lt (by omega) (by omega))); have d0 := R1.out.cell 0; have d1 := R1.out.cell 1; have f0 := R1.out.frozen 0; have f1 := R1.out.frozen 1; clear hb1 hs' hz' O1))
 try simp only [Exit.inBlock, Exit.then]
 refine bodyPost_ret (walk_ret2 (a := .map (some (w.heap.size + 1 + 1))) (b := .int .i64 (s'.n : Int)) rfl rfl rfl (by simpa using (R1.out.put 0 (.map (some (w.heap.size + 1 + 1)))).put 1 (.int .i64 (s'.n : Int)))) rfl ?_
 refine ⟨w.heap.size + 1 + 1, s'.n, by rw [HE.out.1]; rfl, fun h => ?_, (D1.out.setCell (p := ⟨w.heap.size + 1, 0, none⟩) (by simp) _).setCell (p := ⟨w.heap.size + 1, 1, none⟩) (by simp) _⟩
 rw [Z1.out (by rw [← HE.out.1]; exact h), HE.out.2]

theorem right_pol (h : PolIn w R p A1 n1 k1 A2 n2 k2 A3 n3 k3 A4 n4 k4) :
  Calls Tryz.prog 7 #[.agg #[.string p.id, .bool p.set, .int .i64 p.alg, .slice A1 n1 k1, .slice A2 n2 k2, .slice A3 n3 k3, .slice A4 n4 k4]] w
   fun e w' => e = .returned (.int .i64 (rightE p)) ∧ Below w.heap.size w w' := by
 have HC := Lib.hid (through_any (h.then_ ((Below.refl _ w).alloc (Nat.le_refl _) (.cells #[.string p.id, .bool p.set, .int .i64 p.alg, .slice A1 n1 k1, .slice A2 n2 k2, .slice A3 n3 k3, .slice A4 n4 k4] 28))))
 clear h
 generalize rightE p = r at *
 go_enter Tryz.func7, Tryz.ntmps7
 go_wp2_with (first
  | (go_at_call 17; refine HC.out.mono ?_; rintro e w1 ⟨B, n, rfl, hn, hb1⟩; have D1 := Lib.hid (Below.lit hb1); clear hb1 hn))
 go_ret
 exact ⟨rfl, D1.out.alloc D1.out.size _⟩
end
end Go.Proofs.YtmoglaknmlhpgaaGreatDoor
/- Rows that are laid as literals. -/
namespace Go.Proofs.YtmoglaknmlhpgaaGreatDoor
set_option linter.unusedVariables false
open Go.RowKit

theorem flat_at {α : Type} {f : α → List Value} {k : Nat} : ∀ {l : List α} {j : Nat} {x : α} {i : Nat} {v : Value}, (∀ y ∈ l, (f y).length = k) → l[j]? = some x → (f x)[i]? = some v → (l.flatMap f)[j * k + i]? = some v
 | [], _, _, _, _, _, hx, _ => by simp at hx
 | y :: l, 0, x, i, v, hk, hx, hv => by
  simp at hx
  subst hx
  rw [List.flatMap_cons, Nat.zero_mul, Nat.zero_add, List.getElem?_append_left (by rw [List.getElem?_eq_some_iff] at hv; exact hv.1)]
  exact hv
 | y :: l, j + 1, x, i, v, hk, hx, hv => by
  have hy := hk y (by simp)
  rw [List.flatMap_cons, List.getElem?_append_right (by rw [hy, Nat.add_mul]; omega), hy, show (j + 1) * k + i - k = j * k + i by rw [Nat.add_mul]; omega]
  exact flat_at (fun y h => hk y (by simp [h])) (by simpa using hx) hv
theorem Rw.lit {α : Type} {k : Nat} {P : List Value → α → Prop} {R : Nat → Prop} (w : World) (t : TypeId) (f : α → List Value) (l : List α) {n : Nat} (hn : l.length = n) (hc : n ≤ 1000000) (hR : R w.heap.size) (hk : ∀ x ∈ l, (f x).length = k) (hP : ∀ x ∈ l, P (f x) x) :
  Rw k P (w.alloc (.cells (l.flatMap f).toArray t)) R (some ⟨w.heap.size, 0, none⟩) n n l := by
 refine ⟨hn, Nat.le_refl _, ⟨by simp [maxLen]; omega, by omega⟩, .inr ⟨w.heap.size, 0, rfl, hR, by simp, fun j x hx => ⟨f x, hk x (List.mem_of_getElem? hx), fun i v hv => ?_, hP x (List.mem_of_getElem? hx)⟩⟩⟩
 have := (Ob.made w t (l.flatMap f).toArray).cell (j * k + i)
 rw [Nat.zero_add, this, List.getElem?_toArray]
 exact flat_at hk hx hv
theorem Nds.lit (w : World) {R : Nat → Prop} (l : List Nod) {n : Nat} (hn : l.length = n) (hc : n ≤ 1000000) (hR : R w.heap.size) (hok : ∀ x ∈ l, x.ok) : Nds (w.alloc (.cells (l.flatMap Nod.cells).toArray 81)) R (some ⟨w.heap.size, 0, none⟩) n n l :=
 Rw.lit w _ Nod.cells l hn hc hR (fun _ _ => rfl) fun x hx => ⟨rfl, hok x hx⟩
theorem Dus.lit (w : World) {R : Nat → Prop} (l : List Dut) {n : Nat} (hn : l.length = n) (hc : n ≤ 1000000) (hR : R w.heap.size) (hok : ∀ x ∈ l, x.ok) : Dus (w.alloc (.cells (l.flatMap Dut.cells).toArray 65)) R (some ⟨w.heap.size, 0, none⟩) n n l :=
 Rw.lit w _ Dut.cells l hn hc hR (fun _ _ => rfl) fun x hx => ⟨rfl, hok x hx⟩
end Go.Proofs.YtmoglaknmlhpgaaGreatDoor
/- Rows of structs of the call's own: append. -/
namespace Go.Proofs.YtmoglaknmlhpgaaGreatDoor
set_option linter.unusedVariables false
open Go.RowKit

def Fl (w : World) (k : Nat) (A : Option Addr) (n : Nat) (ys : List Value) : Prop :=
 ys.length = n * k ∧ (∀ v ∈ ys, v.oneCell' = true) ∧ (n = 0 ∨ ∃ b o, A = some ⟨b, o, none⟩ ∧ ∀ j u, ys[j]? = some u → w.cell? ⟨b, o + j, none⟩ = some u)

theorem append_rows {P : Program} {T E : TypeId} {i : TypeInfo} {z : Value} {k by_ : Nat} (ht : P.underlying T = some (.slice E)) (hi : P.info? E = some i) (hz : i.zero = some z) (hs : i.size = k) (hb : i.bytes = by_) (hzs : z.cells.size = k) (hk : 0 < k) (hby : by_ ≤ 1000)
  {w : World} {base n c m c2 ty : Nat} {A A2 : Option Addr} {xs ys : List Value} (h : w.ownsRow base E k (.slice A n c) n xs) (hy : Fl w k A2 m ys) (hn : n + m ≤ 1000000) (hbase : base ≤ w.heap.size) :
  ∃ A' c' w', (Builtin.append_ #[T, T] ty #[.slice A n c, .slice A2 m c2]).run P w = .ok (.slice A' (n + m) c') w' ∧
   w'.ownsRow base E k (.slice A' (n + m) c') (n + m) (xs ++ ys) ∧ Below base w w' ∧ w.grownBy w' (Value.slice A n c).ownBlock ∧
   ((Value.slice A' (n + m) c').ownBlock = (Value.slice A n c).ownBlock ∨ (Value.slice A' (n + m) c').ownBlock = some w.heap.size) := by
 obtain ⟨hlen, h1, hy⟩ := hy
 have fin : ∀ (ad : Addr), A2 = some ad → (∀ j u, ys[j]? = some u → w.cell? (ad.add j) = some u) → ∃ A' c' w', (Builtin.append_ #[T, T] ty #[.slice A n c, .slice A2 m c2]).run P w = .ok (.slice A' (n + m) c') w' ∧
   w'.ownsRow base E k (.slice A' (n + m) c') (n + m) (xs ++ ys) ∧ Below base w w' ∧ w.grownBy w' (Value.slice A n c).ownBlock ∧
   ((Value.slice A' (n + m) c').ownBlock = (Value.slice A n c).ownBlock ∨ (Value.slice A' (n + m) c').ownBlock = some w.heap.size) := by
  rintro ad rfl hc
  have hb2 : (n + m) * by_ ≤ 1000000 * 1000 := Nat.mul_le_mul hn hby
  obtain ⟨v', w', hrun, h2, h3, h4, h5⟩ := run_append_own_at (P := P) w base T ty E i z k by_ ht hi hz hs hb hzs hk (.slice A n c) n xs h
   ad m c2 ys hlen hc h1 (by unfold maxLen; omega) (by omega) hbase
  have hform : ∃ A' c', v' = .slice A' (n + m) c' := by
   rcases h2.2 with ⟨hv, hz⟩ | ⟨g, cap, cur, hv, _⟩
   ·exact ⟨_, _, by rw [hv, hz]⟩
   ·exact ⟨_, _, hv⟩
  obtain ⟨A', c', rfl⟩ := hform
  exact ⟨A', c', w', hrun, h2, (Below.refl base w).grown h3 hbase (fun k hk => (h.lt k hk).1), h3, h5⟩
 rcases hy with h0 | ⟨b, o, e, hc⟩
 ·subst h0
  obtain rfl : ys = [] := List.eq_nil_of_length_eq_zero (by omega)
  rcases A2 with _ | ad
  ·exact ⟨A, c, w, append_nil_src ht hi h, by simpa using h, Below.refl _ _, ⟨rfl, rfl, rfl, Nat.le_refl _, fun _ _ _ => rfl⟩, .inl rfl⟩
  ·exact fin ad rfl (fun j u hu => by simp at hu)
 ·refine fin _ e fun j u hu => ?_
  have := hc j u hu
  by_cases hj : j = 0
  ·subst hj; simpa [Addr.add] using this
  ·simpa [Addr.add, hj] using this

theorem flatten_at {k : Nat} : ∀ {l : List (List Value)} {j : Nat} {x : List Value} {i : Nat} {v : Value}, (∀ y ∈ l, y.length = k) → l[j]? = some x → x[i]? = some v → l.flatten[j * k + i]? = some v
 | [], _, _, _, _, _, hx, _ => by simp at hx
 | y :: l, 0, x, i, v, hk, hx, hv => by
  simp at hx
  subst hx
  rw [List.flatten_cons, Nat.zero_mul, Nat.zero_add, List.getElem?_append_left (by rw [List.getElem?_eq_some_iff] at hv; exact hv.1)]
  exact hv
 | y :: l, j + 1, x, i, v, hk, hx, hv => by
  have hy := hk y (by simp)
  rw [List.flatten_cons, List.getElem?_append_right (by rw [hy, Nat.add_mul]; omega), hy, show (j + 1) * k + i - k = j * k + i by rw [Nat.add_mul]; omega]
  exact flatten_at (fun y h => hk y (by simp [h])) (by simpa using hx) hv
theorem flatten_len {k : Nat} : ∀ {l : List (List Value)}, (∀ y ∈ l, y.length = k) → l.flatten.length = l.length * k
 | [], _ => by simp
 | y :: l, h => by
  rw [List.flatten_cons, List.length_append, h y (by simp), flatten_len fun y hy => h y (by simp [hy]), List.length_cons, Nat.add_mul]
  omega
theorem flatten_of {k : Nat} (hk : 0 < k) {l : List (List Value)} {j : Nat} {u : Value} (hl : ∀ y ∈ l, y.length = k) (h : l.flatten[j]? = some u) : ∃ x, l[j / k]? = some x ∧ x[j % k]? = some u := by
 have hj : j < l.length * k := by rw [← flatten_len hl]; exact (List.getElem?_eq_some_iff.1 h).1
 have hd : j / k < l.length := Nat.div_lt_of_lt_mul (by rw [Nat.mul_comm]; exact hj)
 have hx : l[j / k]? = some l[j / k] := List.getElem?_eq_getElem hd
 refine ⟨l[j / k], hx, ?_⟩
 have hm : j % k < (l[j / k]).length := by rw [hl _ (List.getElem_mem hd)]; exact Nat.mod_lt _ hk
 have hv : (l[j / k])[j % k]? = some (l[j / k])[j % k] := List.getElem?_eq_getElem hm
 have := flatten_at hl hx hv
 rw [show j / k * k + j % k = j from by rw [Nat.mul_comm]; exact Nat.div_add_mod j k] at this
 rw [hv, ← this, h]

theorem Rw.raw {α : Type} {k : Nat} {P : List Value → α → Prop} {w : World} {R : Nat → Prop} {A : Option Addr} {n c : Nat} {l : List α} (h : Rw k P w R A n c l) :
  n = 0 ∨ ∃ raw : List (List Value), raw.length = n ∧ (∀ y ∈ raw, y.length = k) ∧ (∀ (j : Nat) (vs : List Value) (x : α), raw[j]? = some vs → l[j]? = some x → P vs x) ∧ ∃ b o, A = some ⟨b, o, none⟩ ∧ ∀ (j : Nat) (vs : List Value), raw[j]? = some vs → ∀ (i : Nat) v, vs[i]? = some v → w.cell? ⟨b, o + j * k + i, none⟩ = some v := by
 obtain ⟨h1, h2, h3, h4⟩ := h
 rcases h4 with h4 | ⟨b, o, e, hb, hlt, hc⟩
 ·exact .inl h4
 right
 have hall : ∀ j, j < n → ∃ vs : List Value, vs.length = k ∧ (∀ (i : Nat) v, vs[i]? = some v → w.cell? ⟨b, o + j * k + i, none⟩ = some v) ∧ ∀ x, l[j]? = some x → P vs x := fun j hj => by
  have hl : j < l.length := by omega
  obtain ⟨vs, a1, a2, a3⟩ := hc j l[j] (List.getElem?_eq_getElem hl)
  refine ⟨vs, a1, a2, fun x hx => ?_⟩
  rw [List.getElem?_eq_getElem hl] at hx
  exact Option.some.inj hx ▸ a3
 obtain ⟨V, hV⟩ : ∃ V : Nat → List Value, ∀ j, j < n → (V j).length = k ∧ (∀ (i : Nat) v, (V j)[i]? = some v → w.cell? ⟨b, o + j * k + i, none⟩ = some v) ∧ ∀ x, l[j]? = some x → P (V j) x :=
  ⟨fun j => if hj : j < n then Classical.choose (hall j hj) else [], fun j hj => by simp only [hj, dif_pos]; exact Classical.choose_spec (hall j hj)⟩
 have hget : ∀ (j : Nat) (vs : List Value), ((List.range n).map V)[j]? = some vs → j < n ∧ vs = V j := fun j vs hj => by
  rw [List.getElem?_map, Option.map_eq_some_iff] at hj
  obtain ⟨i, hi, rfl⟩ := hj
  have hjn : j < n := by have := (List.getElem?_eq_some_iff.1 hi).1; simpa using this
  rw [List.getElem?_range hjn] at hi
  exact ⟨hjn, by rw [Option.some.inj hi]⟩
 refine ⟨(List.range n).map V, by simp, fun y hy => ?_, fun j vs x hj hx => ?_, b, o, e, fun j vs hj i v hv => ?_⟩
 ·obtain ⟨i, hi, rfl⟩ := List.mem_map.1 hy
  exact (hV i (by simpa using hi)).1
 ·obtain ⟨hjn, rfl⟩ := hget j vs hj
  exact (hV j hjn).2.2 x hx
 ·obtain ⟨hjn, rfl⟩ := hget j vs hj
  exact (hV j hjn).2.1 i v hv

theorem Rw.of_own {α : Type} {k : Nat} {P : List Value → α → Prop} {w : World} {base n c : Nat} {E : TypeId} {A : Option Addr} {l : List α} {raw : List (List Value)} {R : Nat → Prop} (h : w.ownsRow base E k (.slice A n c) n raw.flatten)
  (hbig : n ≤ 140737488351232) (hl : raw.length = n) (hln : l.length = n) (hk : ∀ y ∈ raw, y.length = k) (hP : ∀ (j : Nat) (vs : List Value) (x : α), raw[j]? = some vs → l[j]? = some x → P vs x) (hR : ∀ ad, A = some ad → base ≤ ad.block → R ad.block) : Rw k P w R A n c l := by
 rcases h.2 with ⟨hv, hn⟩ | ⟨g, cap, cur, hv, hb, hg, hnc, hcm, hcs, ht⟩
 ·injection hv with h1 h2 h3
  subst h1 h2 h3
  exact ⟨hln, Nat.le_refl _, ⟨by simp [maxLen], by omega⟩, .inl rfl⟩
 ·injection hv with h1 h2 h3
  subst h1 h3
  refine ⟨hln, hnc, ⟨hcm, hbig⟩, .inr ⟨g, 0, rfl, hR _ rfl hb, ?_, fun j x hx => ?_⟩⟩
  ·rcases Nat.lt_or_ge g w.heap.size with hlt | hge
   ·exact hlt
   ·rw [Array.getElem?_eq_none hge] at hg; cases hg
  ·have hjr : j < raw.length := by have := (List.getElem?_eq_some_iff.1 hx).1; omega
   refine ⟨raw[j], hk _ (List.getElem_mem hjr), fun i v hv => ?_, hP j _ x (List.getElem?_eq_getElem hjr) hx⟩
   have := h.cells (g := g) rfl (j * k + i) v (flatten_at hk (List.getElem?_eq_getElem hjr) hv)
   have add : (⟨g, 0, none⟩ : Addr).add (j * k + i) = ⟨g, 0 + j * k + i, none⟩ := by by_cases hj : j * k + i = 0 <;> simp [Addr.add, hj]; omega
   rwa [add] at this
theorem Rw.fl {α : Type} {k : Nat} {P : List Value → α → Prop} {w : World} {R : Nat → Prop} {A : Option Addr} {n c : Nat} {l : List α} (h : Rw k P w R A n c l) (hk : 0 < k) (h1 : ∀ vs x, P vs x → ∀ v ∈ vs, v.oneCell' = true) :
  ∃ raw : List (List Value), raw.length = n ∧ (∀ y ∈ raw, y.length = k) ∧ (∀ (j : Nat) (vs : List Value) (x : α), raw[j]? = some vs → l[j]? = some x → P vs x) ∧ Fl w k A n raw.flatten := by
 rcases h.raw with h0 | ⟨raw, r1, r2, r3, b, o, e, r4⟩
 ·subst h0
  exact ⟨[], rfl, by simp, by simp, by simp, by simp, .inl rfl⟩
 ·refine ⟨raw, r1, r2, r3, by rw [flatten_len r2, r1], fun v hv => ?_, .inr ⟨b, o, e, fun j u hu => ?_⟩⟩
  ·obtain ⟨y, hy, hv⟩ := List.mem_flatten.1 hv
   obtain ⟨j, hj, rfl⟩ := List.getElem_of_mem hy
   have hjl : j < l.length := by have := h.1; omega
   exact h1 _ _ (r3 j _ _ (List.getElem?_eq_getElem hj) (List.getElem?_eq_getElem hjl)) v hv
  ·obtain ⟨x, hx, hv⟩ := flatten_of hk r2 hu
   have := r4 _ _ hx _ _ hv
   rwa [Nat.add_assoc, show j / k * k + j % k = j from by rw [Nat.mul_comm]; exact Nat.div_add_mod j k] at this

theorem Rw.flat_fl {α : Type} {k : Nat} {f : α → List Value} {okp : α → Prop} {w : World} {R : Nat → Prop} {A : Option Addr} {n c : Nat} {l : List α} (h : Rw k (fun vs x => vs = f x ∧ okp x) w R A n c l) (hk : 0 < k) (h1 : ∀ x, ∀ v ∈ f x, v.oneCell' = true) : Fl w k A n (l.flatMap f) := by
 obtain ⟨raw, r1, r2, r3, r4⟩ := Rw.fl h hk (fun vs x hp v hv => h1 x v (hp.1 ▸ hv))
 have hl := h.1
 have e : raw = l.map f := by
  apply List.ext_getElem?
  intro j
  by_cases hj : j < n
  ·have a1 : raw[j]? = some raw[j] := List.getElem?_eq_getElem (by omega)
   have a2 : l[j]? = some l[j] := List.getElem?_eq_getElem (by omega)
   have := (r3 j _ _ a1 a2).1
   rw [a1, List.getElem?_map, a2, this]; rfl
  ·rw [List.getElem?_eq_none (by omega), List.getElem?_eq_none (by rw [List.length_map]; omega)]
 rw [e, ← List.flatMap_def] at r4
 exact r4
theorem Rw.flat_own {α : Type} {k : Nat} {f : α → List Value} {okp : α → Prop} {w : World} {base n c : Nat} {E : TypeId} {A : Option Addr} {l : List α} {R : Nat → Prop} (h : w.ownsRow base E k (.slice A n c) n (l.flatMap f)) (hbig : n ≤ 140737488351232) (hln : l.length = n) (hf : ∀ x, (f x).length = k) (hok : ∀ x ∈ l, okp x)
  (hR : ∀ ad, A = some ad → base ≤ ad.block → R ad.block) : Rw k (fun vs x => vs = f x ∧ okp x) w R A n c l := by
 rw [List.flatMap_def] at h
 refine Rw.of_own h hbig (by rw [List.length_map]; exact hln) hln (fun y hy => ?_) (fun j vs x h1 h2 => ?_) hR
 ·obtain ⟨x, _, rfl⟩ := List.mem_map.1 hy
  exact hf x
 ·rw [List.getElem?_map, h2] at h1
  exact ⟨(Option.some.inj h1).symm, hok x (List.mem_of_getElem? h2)⟩
theorem Dut.one (x : Dut) : ∀ v ∈ x.cells, v.oneCell' = true := by intro v hv; simp [Dut.cells] at hv; rcases hv with rfl | rfl | rfl <;> rfl
theorem Nod.one (x : Nod) : ∀ v ∈ x.cells, v.oneCell' = true := by intro v hv; simp [Nod.cells] at hv; rcases hv with rfl | rfl | rfl | rfl | rfl | rfl | rfl <;> rfl
theorem Mat.one (x : Mat) : ∀ v ∈ x.cells, v.oneCell' = true := by intro v hv; simp [Mat.cells] at hv; rcases hv with rfl | rfl | rfl | rfl | rfl | rfl | rfl <;> rfl
theorem Dus.fl {w : World} {R : Nat → Prop} {A : Option Addr} {n c : Nat} {l : List Dut} (h : Dus w R A n c l) : Fl w 3 A n (l.flatMap Dut.cells) := Rw.flat_fl h (by omega) Dut.one
theorem Nds.fl {w : World} {R : Nat → Prop} {A : Option Addr} {n c : Nat} {l : List Nod} (h : Nds w R A n c l) : Fl w 7 A n (l.flatMap Nod.cells) := Rw.flat_fl h (by omega) Nod.one
theorem Ms.fl {w : World} {R : Nat → Prop} {A : Option Addr} {n c : Nat} {l : List Mat} (h : Ms w R A n c l) : Fl w 7 A n (l.flatMap Mat.cells) := Rw.flat_fl h (by omega) Mat.one
theorem Rw.all {α : Type} {k : Nat} {f : α → List Value} {okp : α → Prop} {w : World} {R : Nat → Prop} {A : Option Addr} {n c : Nat} {l : List α} (h : Rw k (fun vs x => vs = f x ∧ okp x) w R A n c l) : ∀ x ∈ l, okp x := by
 intro x hx
 obtain ⟨j, hj, rfl⟩ := List.getElem_of_mem hx
 obtain ⟨b, o, y, vs, _, _, _, hy, _, _, hp⟩ := h.at_ (j := j) (by have := h.1; omega)
 rw [List.getElem?_eq_getElem hj] at hy
 exact Option.some.inj hy ▸ hp.2
theorem own_none (w : World) (E : TypeId) (k : Nat) : (w.alloc (.cells #[] E)).ownsRow w.heap.size E k (.slice (some ⟨w.heap.size, 0, none⟩) 0 0) 0 [] :=
 World.ownsRow_lit w #[] 0 (Nat.le_refl _) (by simp [maxLen]) (by simp)
theorem flatMap_app {α β : Type} (f : α → List β) (l m : List α) : (l ++ m).flatMap f = l.flatMap f ++ m.flatMap f := List.flatMap_append

theorem info_of {P : Program} {E : TypeId} {z : Value} {k b : Nat} (h : (P.info? E).map (fun i => (i.zero, i.size, i.bytes)) = some (some z, k, b)) : ∃ i, P.info? E = some i ∧ i.zero = some z ∧ i.size = k ∧ i.bytes = b := by
 cases hi : P.info? E with
 | none => rw [hi] at h; cases h
 | some i =>
  rw [hi] at h
  simp only [Option.map_some, Option.some.injEq, Prod.mk.injEq] at h
  exact ⟨i, rfl, h.1, h.2.1, h.2.2⟩
theorem dutinfo : (Tryz.prog.info? 65).map (fun i => (i.zero, i.size, i.bytes)) = some (some (.agg #[.int .i64 0, .int .i64 0, .string ⟨#[]⟩]), 3, 32) := by kernel_rfl
theorem append_duts {w : World} {base n c m c2 ty : Nat} {R : Nat → Prop} {A A2 : Option Addr} {xs ys : List Dut} (h : w.ownsRow base 65 3 (.slice A n c) n (xs.flatMap Dut.cells)) (hy : Dus w R A2 m c2 ys) (hn : n + m ≤ 1000000) (hbase : base ≤ w.heap.size) :
  ∃ A' c' w', (Builtin.append_ #[26, 26] ty #[.slice A n c, .slice A2 m c2]).run Tryz.prog w = .ok (.slice A' (n + m) c') w' ∧
   w'.ownsRow base 65 3 (.slice A' (n + m) c') (n + m) ((xs ++ ys).flatMap Dut.cells) ∧ Below base w w' ∧ w.grownBy w' (Value.slice A n c).ownBlock ∧
   ((Value.slice A' (n + m) c').ownBlock = (Value.slice A n c).ownBlock ∨ (Value.slice A' (n + m) c').ownBlock = some w.heap.size) := by
 obtain ⟨i, hi, hz, hs, hb⟩ := info_of dutinfo
 rw [flatMap_app]
 exact append_rows Tryz.underlying26 hi hz hs hb rfl (by omega) (by omega) h hy.fl hn hbase
end Go.Proofs.YtmoglaknmlhpgaaGreatDoor
/- Expressions behind each other: what they leave; rows of nodes put together. -/
namespace Go.Proofs.YtmoglaknmlhpgaaGreatDoor
set_option linter.unusedVariables false
open Go.RowKit

theorem exprE_ok {l : List Nod} (h : exprE l = 0) (hn : l ≠ []) : l.length ≤ 32 ∧ runX l [] = some [false] := by
 unfold exprE at h
 split at h
 ·cases h
 ·refine ⟨by omega, ?_⟩
  split at h
  ·cases h
  ·rename_i st hst
   split at h
   ·rename_i hc
    rcases hc with hc | hc
    ·exact absurd hc hn
    ·rw [hst, hc]
   ·cases h
end Go.Proofs.YtmoglaknmlhpgaaGreatDoor
/- Conditions, plainly: what an expression comes to over a request (chapter 12). -/
namespace Go.Proofs.YtmoglaknmlhpgaaGreatDoor
set_option linter.unusedVariables false

structure Prt where
 bag : List Vl
 v : Vl
 e : Int
def takesN (op : Int) : Nat := if op = 1 ∨ op = 2 then 0 else if op = 3 ∨ op = 4 ∨ op = 11 then 1 else 2
def decB (op : Int) : List Prt → Bool
 | [a, b] => (decide (op = 12) || decide (op = 13)) && (decide (a.v = truthV (decide (op = 13))) || decide (b.v = truthV (decide (op = 13))))
 | _ => false
def errL : List Prt → Int
 | [] => 0
 | p :: r => if p.e ≠ 0 then p.e else errL r
def singleV : List Vl → Vl × Int
 | [v] => (v, 0)
 | _ => (noneV, 4)
def reckP (op : Int) (of : List Prt) : Vl × Int :=
 if op = 3 then (match of with | p :: _ => singleV p.bag | [] => (noneV, 0))
 else if op = 4 then (match of with | p :: _ => (numV p.bag.length, 0) | [] => (noneV, 0))
 else if op = 5 then (match of with | p :: q :: _ => (truthV (hasB p.bag q.v), 0) | _ => (noneV, 0))
 else callV op (of.map Prt.v)
def madeP (ask : List Giv) (n : Nod) (of : List Prt) : Prt :=
 if n.op = 1 then ⟨[], n.v, 0⟩
 else if n.op = 2 then ⟨getR ask n.a, noneV, getE ask n.a⟩
 else if decB n.op of = true then ⟨[], truthV (decide (n.op = 13)), 0⟩
 else if errL of ≠ 0 then ⟨[], noneV, errL of⟩
 else ⟨[], (reckP n.op of).1, (reckP n.op of).2⟩
def stepP (ask : List Giv) (st : List Prt) (n : Nod) : List Prt := st.take (st.length - takesN n.op) ++ [madeP ask n (st.drop (st.length - takesN n.op))]
def runP (ask : List Giv) (l : List Nod) (st : List Prt) : List Prt := l.foldl (stepP ask) st
def noneP : Prt := ⟨[], noneV, 0⟩
def valP (ask : List Giv) (l : List Nod) : Vl × Int := if l = [] ∨ exprE l ≠ 0 then (noneV, 1) else (((runP ask l []).headD noneP).v, ((runP ask l []).headD noneP).e)
def condP (ask : List Giv) (l : List Nod) : Int := if l = [] then 2 else if (valP ask l).1 = truthV true then 2 else if (valP ask l).1 = truthV false then 0 else 1

theorem runP_app (ask : List Giv) (l m : List Nod) (st : List Prt) : runP ask (l ++ m) st = runP ask m (runP ask l st) := List.foldl_append
theorem runP_cons (ask : List Giv) (n : Nod) (l : List Nod) (st : List Prt) : runP ask (n :: l) st = runP ask l (stepP ask st n) := rfl
theorem popX_len {op : Int} {s s' : List Bool} (h : popX op s = some s') : takesN op ≤ s.length ∧ s'.length = s.length - takesN op + 1 := by
 rcases ops_cases op with rfl | rfl | rfl | rfl | rfl | rfl | rfl | rfl | rfl | rfl | rfl | rfl | rfl | hn
 case inr.inr.inr.inr.inr.inr.inr.inr.inr.inr.inr.inr.inr =>
  obtain ⟨h1, h2, h3, h4, h5, h6, h7, h8, h9, h10, h11, h12, h13⟩ := hn
  simp [popX, h1, h2, h3, h4, h5, h6, h7, h8, h9, h10, h11, h12, h13] at h
 all_goals
  rcases s with _ | ⟨_ | _, _ | ⟨_ | _, s⟩⟩ <;> simp [popX] at h <;> (subst h; simp [takesN])
theorem stepX_len {n : Nod} {s s' : List Bool} (h : stepX n s = some s') : takesN n.op ≤ s.length ∧ s'.length = s.length - takesN n.op + 1 ∧ holdsB n = true := by
 unfold stepX at h
 by_cases hh : holdsB n = true
 ·rw [if_pos hh] at h
  exact ⟨(popX_len h).1, (popX_len h).2, hh⟩
 ·rw [if_neg hh] at h; cases h
theorem stepP_frame {ask : List Giv} {n : Nod} {t st : List Prt} (h : takesN n.op ≤ st.length) : stepP ask (t ++ st) n = t ++ stepP ask st n := by
 unfold stepP
 have e : (t ++ st).length - takesN n.op = t.length + (st.length - takesN n.op) := by rw [List.length_append]; omega
 rw [e, List.take_length_add_append, List.drop_length_add_append, List.append_assoc]
theorem stepP_len {ask : List Giv} {n : Nod} {st : List Prt} (h : takesN n.op ≤ st.length) : (stepP ask st n).length = st.length - takesN n.op + 1 := by
 unfold stepP
 rw [List.length_append, List.length_take]
 simp
theorem runP_frame {ask : List Giv} : ∀ {l : List Nod} {s s' : List Bool} {t st : List Prt}, runX l s = some s' → st.length = s.length → runP ask l (t ++ st) = t ++ runP ask l st ∧ (runP ask l st).length = s'.length
 | [], s, s', t, st, h, hl => by
  simp [runX] at h
  subst h
  exact ⟨rfl, hl⟩
 | n :: l, s, s', t, st, h, hl => by
  simp only [runX] at h
  cases hs : stepX n s with
  | none => rw [hs] at h; cases h
  | some u =>
   rw [hs] at h
   obtain ⟨a, b, _⟩ := stepX_len hs
   rw [runP_cons, runP_cons, stepP_frame (by omega)]
   exact runP_frame h (by rw [stepP_len (by omega)]; omega)
theorem run_right {ask : List Giv} {l : List Nod} (h : exprE l = 0) (hn : l ≠ []) : ∃ p, (∀ t, runP ask l t = t ++ [p]) ∧ valP ask l = (p.v, p.e) := by
 obtain ⟨_, hr⟩ := exprE_ok h hn
 have hf := fun t => runP_frame (ask := ask) (t := t) (st := []) hr rfl
 have hl := (hf []).2
 obtain ⟨p, hp⟩ := List.length_eq_one_iff.1 hl
 refine ⟨p, fun t => ?_, ?_⟩
 ·have := (hf t).1
  rw [List.append_nil, hp] at this
  exact this
 ·unfold valP
  rw [if_neg (by rintro (h0 | h0); exact hn h0; exact h0 h), hp]
  rfl
end Go.Proofs.YtmoglaknmlhpgaaGreatDoor
/- Targets, plainly (chapter 13): three truths, and is the least, or is the greatest. -/
namespace Go.Proofs.YtmoglaknmlhpgaaGreatDoor
set_option linter.unusedVariables false

def trI (b : Bool) : Int := if b = true then 2 else 0
def sameI (a b : Vl) : Int := if a.k = b.k then trI (veq a b) else 1
def lessI (a b : Vl) : Int := if (lessOf a b).2 = 0 then trI (lessOf a b).1 else 1
def heldI (m : Mat) (v : Vl) : Int := if m.op = 1 then sameI v m.v else if m.op = 2 then lessI v m.v else lessI m.v v
def most {α : Type} (f : α → Int) : List α → Int
 | [] => 0
 | x :: r => max (f x) (most f r)
def least {α : Type} (f : α → Int) : List α → Int
 | [] => 2
 | x :: r => min (f x) (least f r)
def matchI (ask : List Giv) (m : Mat) : Int := if getE ask m.a = 0 then most (heldI m) (getR ask m.a) else 1
def allI (ask : List Giv) (l : List Mat) : Int := least (matchI ask) l
def oneI (ask : List Giv) (l : List (List Mat)) : Int := most (allI ask) l
def metI (ask : List Giv) (t : Tgt) : Int := least (oneI ask) t
def Tri (x : Int) : Prop := 0 ≤ x ∧ x ≤ 2

theorem tri0 : Tri 0 := ⟨by decide, by decide⟩
theorem tri1 : Tri 1 := ⟨by decide, by decide⟩
theorem tri2 : Tri 2 := ⟨by decide, by decide⟩
theorem tri_trI (b : Bool) : Tri (trI b) := by cases b <;> exact ⟨by decide, by decide⟩
theorem tri_same (a b : Vl) : Tri (sameI a b) := by
 unfold sameI; split
 ·exact tri_trI _
 ·exact tri1
theorem tri_less (a b : Vl) : Tri (lessI a b) := by
 unfold lessI; split
 ·exact tri_trI _
 ·exact tri1
theorem tri_held (m : Mat) (v : Vl) : Tri (heldI m v) := by
 unfold heldI; split
 ·exact tri_same _ _
 ·split <;> exact tri_less _ _
section
variable {α : Type} {f g : α → Int}
theorem tri_most (h : ∀ x, Tri (f x)) : ∀ l : List α, Tri (most f l)
 | [] => tri0
 | x :: r => by have h1 := h x; have h2 := tri_most h r; unfold Tri at *; show 0 ≤ max (f x) (most f r) ∧ max (f x) (most f r) ≤ 2; omega
theorem tri_least (h : ∀ x, Tri (f x)) : ∀ l : List α, Tri (least f l)
 | [] => tri2
 | x :: r => by have h1 := h x; have h2 := tri_least h r; unfold Tri at *; show 0 ≤ min (f x) (least f r) ∧ min (f x) (least f r) ≤ 2; omega
theorem most_le {l : List α} {c : Int} : most f l ≤ c ↔ 0 ≤ c ∧ ∀ x ∈ l, f x ≤ c := by
 induction l with
 | nil => simp [most]
 | cons x r ih => simp only [most, List.mem_cons, forall_eq_or_imp, Int.max_le, ih]; exact ⟨fun h => ⟨h.2.1, h.1, h.2.2⟩, fun h => ⟨h.2.1, h.1, h.2.2⟩⟩
theorem least_le {l : List α} {c : Int} : c ≤ least f l ↔ c ≤ 2 ∧ ∀ x ∈ l, c ≤ f x := by
 induction l with
 | nil => simp [least]
 | cons x r ih => simp only [least, List.mem_cons, forall_eq_or_imp, Int.le_min, ih]; exact ⟨fun h => ⟨h.2.1, h.1, h.2.2⟩, fun h => ⟨h.2.1, h.1, h.2.2⟩⟩
theorem most_zero (l : List α) : 0 ≤ most f l := (most_le.1 (Int.le_refl _)).1
theorem least_two (l : List α) : least f l ≤ 2 := (least_le.1 (Int.le_refl _)).1
theorem most_app (l m : List α) : most f (l ++ m) = max (most f l) (most f m) := by
 induction l with
 | nil => have := most_zero (f := f) m; simp only [List.nil_append, most]; omega
 | cons x r ih => simp only [List.cons_append, most, ih]; omega
theorem least_app (l m : List α) : least f (l ++ m) = min (least f l) (least f m) := by
 induction l with
 | nil => have := least_two (f := f) m; simp only [List.nil_append, least]; omega
 | cons x r ih => simp only [List.cons_append, least, ih]; omega
theorem most_one (x : α) : most f [x] = max (f x) 0 := rfl
theorem least_one (x : α) : least f [x] = min (f x) 2 := rfl
theorem most_step {l : List α} {k : Nat} {x : α} (h : l[k]? = some x) (hf : 0 ≤ f x) : most f (l.take (k + 1)) = max (most f (l.take k)) (f x) := by
 obtain ⟨hk, rfl⟩ := List.getElem?_eq_some_iff.1 h
 rw [List.take_succ_eq_append_getElem hk, most_app, most_one]
 omega
theorem least_step {l : List α} {k : Nat} {x : α} (h : l[k]? = some x) (hf : f x ≤ 2) : least f (l.take (k + 1)) = min (least f (l.take k)) (f x) := by
 obtain ⟨hk, rfl⟩ := List.getElem?_eq_some_iff.1 h
 rw [List.take_succ_eq_append_getElem hk, least_app, least_one]
 omega
theorem most_same {l : List α} (h : ∀ x ∈ l, f x = g x) : most f l = most g l := by
 induction l with
 | nil => rfl
 | cons x r ih => simp only [most]; rw [h x (by simp), ih (fun y hy => h y (by simp [hy]))]
theorem least_same {l : List α} (h : ∀ x ∈ l, f x = g x) : least f l = least g l := by
 induction l with
 | nil => rfl
 | cons x r ih => simp only [least]; rw [h x (by simp), ih (fun y hy => h y (by simp [hy]))]
end
theorem tri_match (ask : List Giv) (m : Mat) : Tri (matchI ask m) := by
 unfold matchI; split
 ·exact tri_most (tri_held m) _
 ·exact tri1
theorem tri_all (ask : List Giv) (l : List Mat) : Tri (allI ask l) := tri_least (tri_match ask) l
theorem tri_one (ask : List Giv) (l : List (List Mat)) : Tri (oneI ask l) := tri_most (tri_all ask) l
theorem tri_met (ask : List Giv) (l : Tgt) : Tri (metI ask l) := tri_least (tri_one ask) l
end Go.Proofs.YtmoglaknmlhpgaaGreatDoor
/- The quarters 0 .. 4 of one as floats: what comparing, and the greater of two, make of them (plain, but for the run of 'max'). -/
namespace Go.Proofs.YtmoglaknmlhpgaaGreatDoor
open Go.RowKit

def fl (i : Fin 5) : Nat := #[0, 4598175219545276416, 4602678819172646912, 4604930618986332160, 4607182418800017408].getD i.val 0

theorem ord_fl : ∀ i j : Fin 5, FloatKind.f64.format.order (fl i) (fl j) = some (compare i j) := by decide +kernel
theorem fl0 : fl 0 = 0 := rfl
theorem fl2 : fl 2 = 4602678819172646912 := rfl
theorem fl4 : fl 4 = 4607182418800017408 := rfl

theorem ord_eq (i j : Fin 5) : (FloatKind.f64.format.order (fl i) (fl j) == some .eq) = (i == j) := by rw [ord_fl]; revert i j; decide +kernel
theorem ord_gt (i j : Fin 5) : (FloatKind.f64.format.order (fl i) (fl j) == some .gt) = decide (j < i) := by rw [ord_fl]; revert i j; decide +kernel
theorem ord_lt (i j : Fin 5) : (FloatKind.f64.format.order (fl i) (fl j) == some .lt) = decide (i < j) := by rw [ord_fl]; revert i j; decide +kernel

theorem eq0 (i : Fin 5) : (FloatKind.f64.format.order (fl i) 0 == some .eq) = (i == 0) := ord_eq i 0
theorem feq2 (i : Fin 5) : (FloatKind.f64.format.order (fl i) 4602678819172646912 == some .eq) = (i == 2) := ord_eq i 2
theorem eq4 (i : Fin 5) : (FloatKind.f64.format.order (fl i) 4607182418800017408 == some .eq) = (i == 4) := ord_eq i 4
theorem fgt0 (i : Fin 5) : (FloatKind.f64.format.order (fl i) 0 == some .gt) = decide (0 < i) := ord_gt i 0
theorem gt2 (i : Fin 5) : (FloatKind.f64.format.order (fl i) 4602678819172646912 == some .gt) = decide (2 < i) := ord_gt i 2

def hiF (i j : Fin 5) : Fin 5 := if i < j then j else i

section
variable {P : Program} (w : World)
theorem run_max_fl (ts : Array TypeId) (t : TypeId) (i j : Fin 5) : (Builtin.max_ ts t #[.float .f64 (fl i), .float .f64 (fl j)]).run P w = .ok (.float .f64 (fl (hiF i j))) w := by
 have h := ord_fl i j
 have hc : compare i j = .lt ∧ hiF i j = j ∨ compare i j = .gt ∧ hiF i j = i ∨ compare i j = .eq ∧ hiF i j = i ∧ i = j := by revert i j; decide +kernel
 rcases hc with ⟨a, b⟩ | ⟨a, b⟩ | ⟨a, b, rfl⟩
 all_goals rw [a] at h; rw [b]; simp [Builtin.max_, Builtin.max2, h]
end

attribute [irreducible] fl
end Go.Proofs.YtmoglaknmlhpgaaGreatDoor
/- bailiffbook.Within: a number brought between two bounds. -/
namespace Go.Proofs.YtmoglaknmlhpgaaGreatDoor
open Go.RowKit

end Go.Proofs.YtmoglaknmlhpgaaGreatDoor
/- Marks: each function of package mark, and of the reference, over marks whose parts are quarters (plain words first). -/
namespace Go.Proofs.YtmoglaknmlhpgaaGreatDoor
open Go.RowKit
attribute [local go_sem] eq0 feq2 eq4 fgt0 gt2 ord_eq ord_gt ord_lt run_max_fl

theorem ret_c {a b c d : Nat} (h : a = c) (k : b = d) : Ending.returned (.complex .f64 a b) = .returned (.complex .f64 c d) := by rw [h, k]
theorem ret_s {a b : List UInt8} (h : a = b) : Ending.returned (.string ⟨a.toArray⟩) = .returned (.string ⟨b.toArray⟩) := by rw [h]

def rightM (p d : Fin 5) : Bool := (p == 0 || p == 2 || p == 4) && (d == 0 || d == 2 || d == 4) && !(p == 4 && !(d == 0)) && !(d == 4 && !(p == 0))
def nameM (p d : Fin 5) : List UInt8 :=
 if p = 0 ∧ d = 0 then [78, 111, 116, 65, 112, 112, 108, 105, 99, 97, 98, 108, 101]
 else if p = 4 ∧ d = 0 then [80, 101, 114, 109, 105, 116]
 else if p = 0 ∧ d = 4 then [68, 101, 110, 121]
 else if p = 2 ∧ d = 0 then [73, 110, 100, 101, 116, 101, 114, 109, 105, 110, 97, 116, 101, 123, 80, 125]
 else if p = 0 ∧ d = 2 then [73, 110, 100, 101, 116, 101, 114, 109, 105, 110, 97, 116, 101, 123, 68, 125]
 else if p = 2 ∧ d = 2 then [73, 110, 100, 101, 116, 101, 114, 109, 105, 110, 97, 116, 101, 123, 68, 80, 125]
 else []
def indetP (p d : Fin 5) : Fin 5 := if p = 4 ∧ d = 0 then 2 else p
def indetD (p d : Fin 5) : Fin 5 := if p = 0 ∧ d = 4 then 2 else d
def overP (p d : Fin 5) : Fin 5 := if d = 4 then 0 else if d = 2 then (if 2 ≤ p then 2 else 0) else if p = 4 then 4 else if p = 2 then 2 else 0
def overD (_p d : Fin 5) : Fin 5 := if d = 4 then 4 else if d = 2 then 2 else 0
theorem five : ∀ i : Fin 5, i = 0 ∨ i = 1 ∨ i = 2 ∨ i = 3 ∨ i = 4 := by decide

set_option maxHeartbeats 800000 in
theorem join_any (p d q e : Fin 5) (w : World) : Calls Tryz.prog 129 #[.complex .f64 (fl p) (fl d), .complex .f64 (fl q) (fl e)] w fun z w' => z = .returned (.complex .f64 (fl (hiF p q)) (fl (hiF d e))) ∧ w = w' := by
 go_enter Tryz.func129, Tryz.ntmps129
 go_wp2
 go_ret
 exact ⟨rfl, rfl⟩
set_option maxHeartbeats 800000 in
theorem turn_any (p d : Fin 5) (w : World) : Calls Tryz.prog 133 #[.complex .f64 (fl p) (fl d)] w fun z w' => z = .returned (.complex .f64 (fl d) (fl p)) ∧ w = w' := by
 go_enter Tryz.func133, Tryz.ntmps133
 go_wp2
 go_ret
 exact ⟨rfl, rfl⟩
set_option maxHeartbeats 3200000 in
theorem over_any (p d : Fin 5) (w : World) : Calls Tryz.prog 132 #[.complex .f64 (fl p) (fl d)] w fun z w' => z = .returned (.complex .f64 (fl (overP p d)) (fl (overD p d))) ∧ w = w' := by
 obtain rfl | rfl | rfl | rfl | rfl := five p
 all_goals
  obtain rfl | rfl | rfl | rfl | rfl := five d
  all_goals
   go_enter Tryz.func132, Tryz.ntmps132
   go_wp2
   go_ret
   exact ⟨ret_c (by decide +kernel) (by decide +kernel), rfl⟩
set_option maxHeartbeats 3200000 in
theorem mname_any (p d : Fin 5) (w : World) : Calls Tryz.prog 153 #[.complex .f64 (fl p) (fl d)] w fun z w' => z = .returned (.string ⟨(nameM p d).toArray⟩) ∧ w = w' := by
 obtain rfl | rfl | rfl | rfl | rfl := five p
 all_goals
  obtain rfl | rfl | rfl | rfl | rfl := five d
  all_goals
   go_enter Tryz.func153, Tryz.ntmps153
   go_wp2
   go_ret
   exact ⟨ret_s (by decide +kernel), rfl⟩
theorem name_empty : ∀ p d : Fin 5, (nameM p d).isEmpty = !rightM p d := by decide +kernel
set_option maxHeartbeats 800000 in
theorem mright_any (p d : Fin 5) (w : World) : Calls Tryz.prog 128 #[.complex .f64 (fl p) (fl d)] w fun z w' => z = .returned (.bool (rightM p d)) ∧ w = w' := by
 have h := name_empty p d
 have H := Lib.hid h
 clear h
 go_enter Tryz.func128, Tryz.ntmps128
 go_wp2_with fail
 refine (mname_any p d _).mono ?_
 rintro e w' ⟨rfl, rfl⟩
 go_wp2
 go_ret
 exact ⟨ret_bool (by simp [H.out]), rfl⟩
end Go.Proofs.YtmoglaknmlhpgaaGreatDoor
