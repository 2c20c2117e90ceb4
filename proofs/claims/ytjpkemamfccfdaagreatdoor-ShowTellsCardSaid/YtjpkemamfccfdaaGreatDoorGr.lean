/- Rows of the call's own that grow by one, whose elements lead to memory apart from the row itself. -/
import Derived.Test.YtjpkemamfccfdaaGreatDoorPolOw
namespace Go.Proofs.YtjpkemamfccfdaaGreatDoor
set_option linter.unusedVariables false
open Go.RowKit

/-- The blocks from base on but for the row's own. -/
def Nb (base : Nat) (v : Value) (b : Nat) : Prop := base ≤ b ∧ some b ≠ v.ownBlock
/-- Elements that are kept where the memory that they lead to is. -/
def Keeps {α : Type} (P : World → (Nat → Prop) → List Value → α → Prop) : Prop :=
  ∀ (w w' : World) (R R' : Nat → Prop) vs x, P w R vs x → Kept R w w' → (∀ b, R b → b < w.heap.size → R' b) → P w' R' vs x
def Gr {α : Type} (k : Nat) (P : World → (Nat → Prop) → List Value → α → Prop) (w : World) (base : Nat) (E : TypeId) (A : Option Addr) (n c : Nat) (l : List α) : Prop :=
  Ow k (P w (Nb base (.slice A n c))) w base E A n c l ∧ base ≤ w.heap.size

section
variable {α : Type} {k : Nat} {P : World → (Nat → Prop) → List Value → α → Prop} {w w' : World} {base : Nat} {E : TypeId} {A : Option Addr} {n c : Nat} {l : List α}
theorem Ow.lt {P : List Value → α → Prop} (h : Ow k P w base E A n c l) : ∀ b, (Value.slice A n c).ownBlock = some b → base ≤ b ∧ b < w.heap.size := by
  obtain ⟨raw, h1, _⟩ := h
  exact h1.lt
theorem Gr.nil (w : World) (base : Nat) (hb : base ≤ w.heap.size) : Gr k P w base E none 0 0 [] := ⟨Ow.nil _ _ _ _ _, hb⟩
theorem Gr.len (h : Gr k P w base E A n c l) : l.length = n := h.1.len
theorem Gr.below (hP : Keeps P) (h : Gr k P w base E A n c l) (hb : Below w.heap.size w w') : Gr k P w' base E A n c l :=
  ⟨(h.1.mapP (fun vs x _ hp => hP _ _ _ _ vs x hp (Kept.all hb _) (fun _ h _ => h))).below hb, Nat.le_trans h.2 hb.size⟩
/-- It reads as its list; row and elements lie from base on. -/
theorem Gr.rw (hP : Keeps P) (h : Gr k P w base E A n c l) (hbig : n ≤ 140737488351232) : Rw k (P w (fun b => base ≤ b)) w (fun b => base ≤ b) A n c l :=
  (h.1.mapP (fun vs x _ hp => hP _ _ _ (fun b => base ≤ b) vs x hp (Kept.refl _ _) (fun _ h _ => h.1))).rw hbig (fun _ _ h => h)
/-- One more, laid behind as a literal. -/
theorem Gr.push {Pg : Program} {T : TypeId} {i : TypeInfo} {z : Value} {by_ : Nat} (ht : Pg.underlying T = some (.slice E)) (hi : Pg.info? E = some i) (hz : i.zero = some z) (hs : i.size = k) (hb : i.bytes = by_) (hzs : z.cells.size = k) (hk : 0 < k) (hby : by_ ≤ 1000)
    {ty : Nat} {vs : List Value} {x : α} (hP : Keeps P) (h : Gr k P w base E A n c l) (hx : P w (Nb base (.slice A n c)) vs x) (hl : vs.length = k) (h1 : ∀ w R vs (x : α), P w R vs x → ∀ v ∈ vs, v.oneCell' = true) (hn : n < 1000000) :
    ∃ A' c' w', (Builtin.append_ #[T, T] ty #[.slice A n c, .slice (some ⟨w.heap.size, 0, none⟩) 1 1]).run Pg (w.alloc (.cells vs.toArray E)) = .ok (.slice A' (n + 1) c') w' ∧ Gr k P w' base E A' (n + 1) c' (l ++ [x]) ∧ Below base w w' := by
  have hbase := h.2
  have a1 : Below w.heap.size w (w.alloc (.cells vs.toArray E)) := (Below.refl _ _).alloc (Nat.le_refl _) _
  have h' := Gr.below hP h a1
  have hlit : Rw k (P (w.alloc (.cells vs.toArray E)) (Nb base (.slice A n c))) (w.alloc (.cells vs.toArray E)) (fun _ => True) (some ⟨w.heap.size, 0, none⟩) 1 1 [x] := by
    have := Rw.lit (P := P (w.alloc (.cells vs.toArray E)) (Nb base (.slice A n c))) (R := fun _ => True) w E (fun _ => vs) [x] (n := 1) rfl (by omega) trivial (fun _ _ => hl) (fun y hy => by simp at hy; subst hy; exact hP _ _ _ _ _ _ hx (Kept.all a1 _) (fun _ h _ => h))
    simpa using this
  obtain ⟨A', c', w', hrun, hown, hbel, hg, hob⟩ := Ow.app (ty := ty) ht hi hz hs hb hzs hk hby h'.1 hlit (h1 _ _) (by omega) h'.2
  refine ⟨A', c', w', hrun, ⟨hown.mapP fun vs x _ hp => hP _ _ _ _ vs x hp ⟨hg.size, fun b hR hlt => hg.block b hlt hR.2⟩ (fun b hR hlt => ⟨hR.1, ?_⟩), Nat.le_trans h'.2 hbel.size⟩, (a1.mono hbase).trans hbel⟩
  rcases hob with e | e
  · rw [e]; exact hR.2
  · rw [e]
    intro he
    injection he with he
    omega
end
theorem keeps_alp : Keeps AlP := fun _ _ _ _ _ _ h hk hR => h.keep hk hR
theorem keeps_anp : Keeps AnP := fun _ _ _ _ _ _ h hk hR => h.keep hk hR
theorem keeps_rul : Keeps RulAt := fun _ _ _ _ _ _ h hk hR => h.keep hk hR
theorem keeps_pol (d : Nat) : Keeps (fun w R => PolAt w R d) := fun _ _ _ _ _ _ h hk hR => PolAt.keep hk hR h
theorem matinfo : (Tryz.prog.info? 48).map (fun i => (i.zero, i.size, i.bytes)) = some (some (.agg #[.int .i64 0, .string ⟨#[]⟩, .bool false, .int .i64 0, .int .i64 0, .int .i64 0, .string ⟨#[]⟩]), 7, 72) := by kernel_rfl
/-- append([]Match{}, a...). -/
theorem copy_mats {w : World} {R : Nat → Prop} {A0 : Option Addr} {p0 c0 : Nat} {L0 : List Mat} (h0 : Ms w R A0 p0 c0 L0) (h : p0 ≤ 1000000) :
    ∃ A5 c5 w5, (Builtin.append_ #[49, 49] 49 #[.slice (some ⟨w.heap.size, 0, none⟩) 0 0, .slice A0 p0 c0]).run Tryz.prog (w.alloc (.cells #[] 48)) = .ok (.slice A5 p0 c5) w5 ∧ Below w.heap.size w w5 ∧ Ms w5 (fun b => w.heap.size ≤ b) A5 p0 c5 L0 := by
  have e1 : Below w.heap.size w (w.alloc (.cells #[] 48)) := (Below.refl _ _).alloc (Nat.le_refl _) _
  obtain ⟨i, hi, hz, hs, hb⟩ := info_of matinfo
  obtain ⟨A5, c5, w5, r5, o5, b5, _, _⟩ := append_rows (ty := 49) (c2 := c0) (m := p0) Tryz.underlying49 hi hz hs hb rfl (by omega) (by omega) (own_none w 48 7) (Ms.fl (h0.keep (Kept.all e1 R) (fun _ h _ => h))) (by omega) e1.size
  rw [Nat.zero_add] at r5 o5
  refine ⟨A5, c5, w5, r5, e1.trans b5, ?_⟩
  exact Rw.flat_own o5 (by omega) (Rw.len h0) (fun _ => rfl) (Rw.all h0) (fun _ _ h => h)
theorem copy_duts {w : World} {R : Nat → Prop} {A0 : Option Addr} {p0 c0 : Nat} {L0 : List Dut} (h0 : Dus w R A0 p0 c0 L0) (h : p0 ≤ 1000000) :
    ∃ A5 c5 w5, (Builtin.append_ #[26, 26] 26 #[.slice (some ⟨w.heap.size, 0, none⟩) 0 0, .slice A0 p0 c0]).run Tryz.prog (w.alloc (.cells #[] 56)) = .ok (.slice A5 p0 c5) w5 ∧ Below w.heap.size w w5 ∧ Dus w5 (fun b => w.heap.size ≤ b) A5 p0 c5 L0 := by
  have e1 : Below w.heap.size w (w.alloc (.cells #[] 56)) := (Below.refl _ _).alloc (Nat.le_refl _) _
  obtain ⟨A5, c5, w5, r5, o5, b5, _, _⟩ := append_duts (ty := 26) (xs := []) (own_none w 56 3) (h0.keep (Kept.all e1 R) (fun _ h _ => h)) (by omega) e1.size
  rw [Nat.zero_add] at r5 o5
  refine ⟨A5, c5, w5, r5, e1.trans b5, ?_⟩
  exact Rw.flat_own o5 (by omega) (Rw.len h0) (fun _ => rfl) (Rw.all h0) (fun _ _ h => h)
theorem copy_nods {w : World} {R : Nat → Prop} {A0 : Option Addr} {p0 c0 : Nat} {L0 : List Nod} (h0 : Nds w R A0 p0 c0 L0) (h : p0 ≤ 1000000) :
    ∃ A5 c5 w5, (Builtin.append_ #[29, 29] 29 #[.slice (some ⟨w.heap.size, 0, none⟩) 0 0, .slice A0 p0 c0]).run Tryz.prog (w.alloc (.cells #[] 52)) = .ok (.slice A5 p0 c5) w5 ∧ Below w.heap.size w w5 ∧ Nds w5 (fun b => w.heap.size ≤ b) A5 p0 c5 L0 := by
  have e1 : Below w.heap.size w (w.alloc (.cells #[] 52)) := (Below.refl _ _).alloc (Nat.le_refl _) _
  obtain ⟨A5, c5, w5, r5, o5, b5, _, _⟩ := append_nods (ty := 29) (xs := []) (own_none w 52 7) (h0.keep (Kept.all e1 R) (fun _ h _ => h)) (by omega) e1.size
  rw [Nat.zero_add] at r5 o5
  refine ⟨A5, c5, w5, r5, e1.trans b5, ?_⟩
  exact Rw.flat_own o5 (by omega) (Rw.len h0) (fun _ => rfl) (Rw.all h0) (fun _ _ h => h)
/-- One more AllOf, one more AnyOf. -/
theorem push_all {w : World} {base n c : Nat} {A : Option Addr} {l : List (List Mat)} {A1 : Option Addr} {n1 c1 : Nat} {x : List Mat} (h : Gr 1 AlP w base 49 A n c l) (hx : Ms w (Nb base (.slice A n c)) A1 n1 c1 x) (hn : n < 1000000) :
    ∃ A' c' w', (Builtin.append_ #[50, 50] 50 #[.slice A n c, .slice (some ⟨w.heap.size, 0, none⟩) 1 1]).run Tryz.prog (w.alloc (.cells #[.slice A1 n1 c1] 49)) = .ok (.slice A' (n + 1) c') w' ∧ Gr 1 AlP w' base 49 A' (n + 1) c' (l ++ [x]) ∧ Below base w w' := by
  obtain ⟨i, hi, hz, hs, hb⟩ := info_of s0info
  exact Gr.push (vs := [.slice A1 n1 c1]) (x := x) Tryz.underlying50 hi hz hs hb rfl (by omega) (by omega) keeps_alp h ⟨A1, n1, c1, rfl, hx⟩ rfl (fun _ _ _ _ => AlP.one _ _) hn
theorem push_any {w : World} {base n c : Nat} {A : Option Addr} {l : Tgt} {A1 : Option Addr} {n1 c1 : Nat} {x : List (List Mat)} (h : Gr 1 AnP w base 50 A n c l) (hx : Als w (Nb base (.slice A n c)) A1 n1 c1 x) (hn : n < 1000000) :
    ∃ A' c' w', (Builtin.append_ #[23, 23] 23 #[.slice A n c, .slice (some ⟨w.heap.size, 0, none⟩) 1 1]).run Tryz.prog (w.alloc (.cells #[.slice A1 n1 c1] 50)) = .ok (.slice A' (n + 1) c') w' ∧ Gr 1 AnP w' base 50 A' (n + 1) c' (l ++ [x]) ∧ Below base w w' := by
  obtain ⟨i, hi, hz, hs, hb⟩ := info_of s1info
  exact Gr.push (vs := [.slice A1 n1 c1]) (x := x) Tryz.underlying23 hi hz hs hb rfl (by omega) (by omega) keeps_anp h ⟨A1, n1, c1, rfl, hx⟩ rfl (fun _ _ _ _ => AnP.one _ _) hn
/-- What is new lies apart from a row that is older. -/
theorem Gr.apart {α : Type} {k : Nat} {P : World → (Nat → Prop) → List Value → α → Prop} {w : World} {base : Nat} {E : TypeId} {A : Option Addr} {n c : Nat} {l : List α} (h : Gr k P w base E A n c l) : ∀ b, w.heap.size ≤ b → Nb base (.slice A n c) b := fun b hb => by
  refine ⟨Nat.le_trans h.2 hb, fun e => ?_⟩
  have := (h.1.lt b e.symm).2
  omega
/-- A block that is known to be empty is a row of the call's own. -/
theorem own_ob {V : World} {E : TypeId} {k g base : Nat} (h : Ob V g E #[]) (hb : base ≤ g) : V.ownsRow base E k (.slice (some ⟨g, 0, none⟩) 0 0) 0 [] :=
  ⟨by simp, .inr ⟨g, 0, #[], rfl, hb, h, Nat.le_refl _, by simp [maxLen], by simp, by simp⟩⟩
/-- append to an empty row that was laid before. -/
theorem copy_duts_at {V : World} {R : Nat → Prop} {A0 : Option Addr} {p0 c0 g : Nat} {L0 : List Dut} (hg : Ob V g 56 #[]) (h0 : Dus V R A0 p0 c0 L0) (h : p0 ≤ 1000000) (hlt : g ≤ V.heap.size) :
    ∃ A5 c5 w5, (Builtin.append_ #[26, 26] 26 #[.slice (some ⟨g, 0, none⟩) 0 0, .slice A0 p0 c0]).run Tryz.prog V = .ok (.slice A5 p0 c5) w5 ∧ Below g V w5 ∧ Dus w5 (fun b => b = g ∨ b = V.heap.size) A5 p0 c5 L0 ∧ Kept (fun b => b ≠ g) V w5 := by
  obtain ⟨A5, c5, w5, r5, o5, b5, g5, t5⟩ := append_duts (ty := 26) (xs := []) (own_ob hg (Nat.le_refl g)) h0 (by omega) hlt
  rw [Nat.zero_add] at r5 o5
  exact ⟨A5, c5, w5, r5, b5, Rw.flat_own o5 (by omega) (Rw.len h0) (fun _ => rfl) (Rw.all h0) (fun ad e _ => by subst e; exact t5.elim (fun h => .inl (by injection h)) (fun h => .inr (by injection h))), g5.size, fun b hb hlt => g5.block b hlt (fun e => hb (by injection e))⟩
theorem copy_nods_at {V : World} {R : Nat → Prop} {A0 : Option Addr} {p0 c0 g : Nat} {L0 : List Nod} (hg : Ob V g 52 #[]) (h0 : Nds V R A0 p0 c0 L0) (h : p0 ≤ 1000000) (hlt : g ≤ V.heap.size) :
    ∃ A5 c5 w5, (Builtin.append_ #[29, 29] 29 #[.slice (some ⟨g, 0, none⟩) 0 0, .slice A0 p0 c0]).run Tryz.prog V = .ok (.slice A5 p0 c5) w5 ∧ Below g V w5 ∧ Nds w5 (fun b => b = g ∨ b = V.heap.size) A5 p0 c5 L0 ∧ Kept (fun b => b ≠ g) V w5 := by
  obtain ⟨A5, c5, w5, r5, o5, b5, g5, t5⟩ := append_nods (ty := 29) (xs := []) (own_ob hg (Nat.le_refl g)) h0 (by omega) hlt
  rw [Nat.zero_add] at r5 o5
  exact ⟨A5, c5, w5, r5, b5, Rw.flat_own o5 (by omega) (Rw.len h0) (fun _ => rfl) (Rw.all h0) (fun ad e _ => by subst e; exact t5.elim (fun h => .inl (by injection h)) (fun h => .inr (by injection h))), g5.size, fun b hb hlt => g5.block b hlt (fun e => hb (by injection e))⟩
end Go.Proofs.YtjpkemamfccfdaaGreatDoor
