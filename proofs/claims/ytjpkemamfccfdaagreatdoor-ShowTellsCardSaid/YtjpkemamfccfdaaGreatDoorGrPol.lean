/- Rows of rules and of policies that grow; a policy that is returned. -/
import Derived.Test.YtjpkemamfccfdaaGreatDoorGr
import Derived.Laws.ResultCell
namespace Go.Proofs.YtjpkemamfccfdaaGreatDoor
set_option linter.unusedVariables false
open Go.RowKit

theorem ruleinfo : (Tryz.prog.info? 54).map (fun i => (i.zero, i.size, i.bytes)) = some (some (.agg #[.string ⟨#[]⟩, .bool false, .slice none 0 0, .slice none 0 0, .slice none 0 0]), 5, 96) := by kernel_rfl
theorem RulAt.one (w : World) (R : Nat → Prop) (vs : List Value) (r : Rul) (h : RulAt w R vs r) : ∀ v ∈ vs, v.oneCell' = true := by
  obtain ⟨A1, n1, c1, A2, n2, c2, A3, n3, c3, rfl, _⟩ := h
  intro v hv
  simp at hv
  rcases hv with rfl | rfl | rfl | rfl | rfl <;> rfl
/-- One more rule. -/
theorem push_rule {w : World} {base n c : Nat} {A : Option Addr} {l : List Rul} {r : Rul} {A1 A2 A3 : Option Addr} {n1 n2 n3 c1 c2 c3 : Nat} (h : Gr 5 RulAt w base 54 A n c l) (h0 : r.id.size ≤ maxLen)
    (h1 : Tg w (Nb base (.slice A n c)) A1 n1 c1 r.tg) (h2 : Nds w (Nb base (.slice A n c)) A2 n2 c2 r.cond) (h3 : Dus w (Nb base (.slice A n c)) A3 n3 c3 r.ob) (hn : n < 1000000) :
    ∃ A' c' w', (Builtin.append_ #[24, 24] 24 #[.slice A n c, .slice (some ⟨w.heap.size, 0, none⟩) 1 1]).run Tryz.prog (w.alloc (.cells #[.string r.id, .bool r.deny, .slice A1 n1 c1, .slice A2 n2 c2, .slice A3 n3 c3] 54)) = .ok (.slice A' (n + 1) c') w' ∧ Gr 5 RulAt w' base 54 A' (n + 1) c' (l ++ [r]) ∧ Below base w w' := by
  obtain ⟨i, hi, hz, hs, hb⟩ := info_of ruleinfo
  exact Gr.push (vs := [.string r.id, .bool r.deny, .slice A1 n1 c1, .slice A2 n2 c2, .slice A3 n3 c3]) (x := r) Tryz.underlying24 hi hz hs hb rfl (by omega) (by omega) keeps_rul h ⟨A1, n1, c1, A2, n2, c2, A3, n3, c3, rfl, h0, h1, h2, h3⟩ rfl RulAt.one hn
theorem Kept.below_ {R R' : Nat → Prop} {w w' : World} (h : Kept R w w') (hR : ∀ b, R' b → R b) : Kept R' w w' := ⟨h.1, fun b hb hlt => h.2 b (hR b hb) hlt⟩
theorem polinfo : (Tryz.prog.info? 28).map (fun i => (i.zero, i.size, i.bytes)) = some (some (.agg #[.string ⟨#[]⟩, .bool false, .int .i64 0, .slice none 0 0, .slice none 0 0, .slice none 0 0, .slice none 0 0]), 7, 128) := by kernel_rfl
theorem PolAt.one {d : Nat} (w : World) (R : Nat → Prop) (vs : List Value) (r : Pol) (h : PolAt w R d vs r) : ∀ v ∈ vs, v.oneCell' = true := by
  match d, h with
  | d + 1, h =>
    obtain ⟨A1, n1, c1, A2, n2, c2, A3, n3, c3, A4, n4, c4, rfl, _⟩ := h
    intro v hv
    simp at hv
    rcases hv with rfl | rfl | rfl | rfl | rfl | rfl | rfl <;> rfl
/-- One more policy. -/
theorem push_pol {w : World} {base n c d : Nat} {A : Option Addr} {l : List Pol} {p : Pol} {A1 A2 A3 A4 : Option Addr} {n1 n2 n3 n4 c1 c2 c3 c4 : Nat} (h : Gr 7 (fun w R => PolAt w R d) w base 28 A n c l)
    (hp : PolAt w (Nb base (.slice A n c)) d [.string p.id, .bool p.set, .int .i64 p.alg, .slice A1 n1 c1, .slice A2 n2 c2, .slice A3 n3 c3, .slice A4 n4 c4] p) (hn : n < 1000000) :
    ∃ A' c' w', (Builtin.append_ #[25, 25] 25 #[.slice A n c, .slice (some ⟨w.heap.size, 0, none⟩) 1 1]).run Tryz.prog (w.alloc (.cells #[.string p.id, .bool p.set, .int .i64 p.alg, .slice A1 n1 c1, .slice A2 n2 c2, .slice A3 n3 c3, .slice A4 n4 c4] 28)) = .ok (.slice A' (n + 1) c') w' ∧ Gr 7 (fun w R => PolAt w R d) w' base 28 A' (n + 1) c' (l ++ [p]) ∧ Below base w w' := by
  obtain ⟨i, hi, hz, hs, hb⟩ := info_of polinfo
  exact Gr.push (vs := [.string p.id, .bool p.set, .int .i64 p.alg, .slice A1 n1 c1, .slice A2 n2 c2, .slice A3 n3 c3, .slice A4 n4 c4]) (x := p) Tryz.underlying25 hi hz hs hb rfl (by omega) (by omega) (keeps_pol d) h hp rfl (fun w R vs x h => PolAt.one w R vs x h) hn
theorem Only.kept9 {g : Nat} {w w' : World} (h : Only g w w') {R : Nat → Prop} (hR : ∀ b, R b → b ≠ g) : Kept R w w' := ⟨h.size, fun b hb hl => h.heap hl (hR b hb)⟩
theorem Only.grown {g : Nat} {w w' : World} (o : Only g w w') : w.grownBy w' (some g) := o
theorem Ow.only {α : Type} {k : Nat} {P : List Value → α → Prop} {w w' : World} {base g : Nat} {E : TypeId} {A : Option Addr} {n c : Nat} {l : List α} (h : Ow k P w base E A n c l) (o : Only g w w') (hg : g < base) : Ow k P w' base E A n c l :=
  h.grown o.grown (.inr (fun e => by have := (h.lt g e).1; omega))
theorem Gr.only {α : Type} {k : Nat} {P : World → (Nat → Prop) → List Value → α → Prop} {w w' : World} {base g : Nat} {E : TypeId} {A : Option Addr} {n c : Nat} {l : List α} (hP : Keeps P) (h : Gr k P w base E A n c l) (o : Only g w w') (hg : g < base) : Gr k P w' base E A n c l :=
  ⟨(h.1.mapP (fun vs x _ hp => hP _ _ _ _ vs x hp (o.kept9 (fun b hb => by have := hb.1; omega)) (fun _ h _ => h))).only o hg, Nat.le_trans h.2 o.size⟩
theorem pol_ret {fn : Func} {t : Tmp} {tmps : Array Value} {w : World} {g : Nat} {s : ByteArray} {b : Bool} {a : Int} {A1 A2 A3 A4 : Option Addr} {n1 n2 n3 n4 c1 c2 c3 c4 : Nat} (h : fn.results = #[.cell t 28]) (hp : tmps.getD t undef = .pointer (some ⟨g, 0, none⟩))
    (hg : Ob w g 28 #[.string s, .bool b, .int .i64 a, .slice A1 n1 c1, .slice A2 n2 c2, .slice A3 n3 c3, .slice A4 n4 c4]) :
    (results fn tmps).run Tryz.prog w = .ok (.agg #[.string s, .bool b, .int .i64 a, .slice A1 n1 c1, .slice A2 n2 c2, .slice A3 n3 c3, .slice A4 n4 c4]) w :=
  results_cell_row h tmps w g _ _ (0, 0) _ hp hg Tryz.underlying28 rfl (by kernel_rfl)
end Go.Proofs.YtjpkemamfccfdaaGreatDoor
