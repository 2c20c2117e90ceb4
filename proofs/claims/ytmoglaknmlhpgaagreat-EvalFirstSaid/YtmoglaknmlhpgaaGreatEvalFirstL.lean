/- The law EvalFirst: rows of rules that are put behind each other; a policy with other rules in memory. -/
import Derived.Test.YtmoglaknmlhpgaaGreatEvalSet
namespace Go.Proofs.YtmoglaknmlhpgaaGreat
set_option linter.unusedVariables false
open Go.RowKit

theorem evfield (x y : Nat) (A : Option Addr) (n c : Nat) (w : World) : (Instr.field 33 (.agg #[.complex .f64 x y, .slice A n c]) 0).run Tryz.prog w = .ok (.complex .f64 x y) w := by kernel_rfl
theorem append_ruls {w : World} {base n c m c2 ty : Nat} {R R2 : Nat → Prop} {A A2 : Option Addr} {xs ys : List Rul} (h : Ow 5 (RulAt w R2) w base 61 A n c xs) (hy : Rw 5 (RulAt w R2) w R A2 m c2 ys) (hn : n + m ≤ 1000000) (hbase : base ≤ w.heap.size) :
    ∃ A' c' w', (Builtin.append_ #[24, 24] ty #[.slice A n c, .slice A2 m c2]).run Tryz.prog w = .ok (.slice A' (n + m) c') w' ∧ Ow 5 (RulAt w R2) w' base 61 A' (n + m) c' (xs ++ ys) ∧ Below base w w' ∧ w.grownBy w' (Value.slice A n c).ownBlock ∧
      ((Value.slice A' (n + m) c').ownBlock = (Value.slice A n c).ownBlock ∨ (Value.slice A' (n + m) c').ownBlock = some w.heap.size) := by
  obtain ⟨i, hi, hz, hs, hb⟩ := info_of ruleinfo
  exact Ow.app Tryz.underlying24 hi hz hs hb rfl (by omega) (by omega) h hy (fun vs x h => RulAt.one _ _ vs x h) hn hbase
theorem both_ruls {w : World} {R : Nat → Prop} {A0 A1 : Option Addr} {p0 c0 p1 c1 q : Nat} {L0 L1 : List Rul} (h0 : Rus w R A0 p0 c0 L0) (h1 : Rus w R A1 p1 c1 L1) (h : p0 + p1 ≤ 1000000) (hq : q = p0 + p1) :
    ∃ A5 c5 w5 A6 c6 w6, (Builtin.append_ #[24, 24] 24 #[.slice (some ⟨w.heap.size, 0, none⟩) 0 0, .slice A0 p0 c0]).run Tryz.prog (w.alloc (.cells #[] 61)) = .ok (.slice A5 p0 c5) w5 ∧
      (Builtin.append_ #[24, 24] 24 #[.slice A5 p0 c5, .slice A1 p1 c1]).run Tryz.prog w5 = .ok (.slice A6 q c6) w6 ∧ Below w.heap.size w w5 ∧ Below w.heap.size w w6 ∧ Rus w6 (fun b => R b ∨ w.heap.size ≤ b) A6 q c6 (L0 ++ L1) := by
  subst hq
  have e1 : Below w.heap.size w (w.alloc (.cells #[] 61)) := (Below.refl _ _).alloc (Nat.le_refl _) _
  have hlow0 : Rus (w.alloc (.cells #[] 61)) (fun b => R b ∧ b < w.heap.size) A0 p0 c0 L0 := h0.keep (Kept.all e1 R) (fun b h hb => ⟨h, hb⟩)
  obtain ⟨A5, c5, w5, r5, o5, b5, _, _⟩ := append_ruls (ty := 24) (xs := []) (Ow.made 5 (RulAt (w.alloc (.cells #[] 61)) (fun b => R b ∧ b < w.heap.size)) w 61) hlow0 (by omega) e1.size
  rw [Nat.zero_add] at r5 o5
  have e5 := e1.trans b5
  have o5' := o5.mapP (P' := RulAt w5 (fun b => R b ∧ b < w.heap.size)) (fun vs x _ hp => hp.keep (Kept.below b5 (fun b hb _ => hb.2)) (fun b hb _ => hb))
  have hlow1 : Rus w5 (fun b => R b ∧ b < w.heap.size) A1 p1 c1 L1 := h1.keep (Kept.all e5 R) (fun b h hb => ⟨h, hb⟩)
  obtain ⟨A6, c6, w6, r6, o6, b6, _, _⟩ := append_ruls (ty := 24) o5' hlow1 h e5.size
  refine ⟨A5, c5, w5, A6, c6, w6, r5, r6, e5, e5.trans b6, ?_⟩
  exact (o6.mapP (P' := RulAt w6 (fun b => R b ∨ w.heap.size ≤ b)) (fun vs x _ hp => hp.keep (Kept.below b6 (fun b hb _ => hb.2)) (fun _ h _ => .inl h.1))).rw (by omega) (fun _ _ h => .inr h)
theorem Rus.drop {w : World} {R : Nat → Prop} {A : Option Addr} {n c : Nat} {l : List Rul} (h : Rus w R A n c l) {m : Nat} (hm : m ≤ n) : Rus w R (if c = m then A else A.map (·.add (m * 5))) (n - m) (c - m) (l.drop m) := Rw.drop h hm
theorem Rus.take {w : World} {R : Nat → Prop} {A : Option Addr} {n c : Nat} {l : List Rul} (h : Rus w R A n c l) {m : Nat} (hm : m ≤ n) : Rus w R A m c (l.take m) := Rw.take h hm
theorem with_in {V : World} {R : Nat → Prop} {p : Pol} {B1 B2 B3 B4 C2 : Option Addr} {n1 d1 n2 d2 n3 d3 n4 d4 m2 e2 : Nat} (h : PolIn V R p B1 n1 d1 B2 n2 d2 B3 n3 d3 B4 n4 d4) {a : Int} (ha : InI a) {l : List Rul} (hr : Rus V R C2 m2 e2 l) : PolIn V R (withR p a l) B1 n1 d1 C2 m2 e2 B3 n3 d3 B4 n4 d4 :=
  ⟨⟨h.1.1, ha⟩, h.2.1, hr, h.2.2.2.1, h.2.2.2.2⟩
theorem with_size (m : Nat) (p : Pol) (a : Int) : polC (m + 1) (withR p a p.rules) = polC (m + 1) p := by
  rw [polC, polC]
  rfl
theorem with_with (p : Pol) (a b : Int) (l k : List Rul) : withR (withR p a l) b k = withR p b k := rfl
theorem rule_at (ask : List Giv) {w : World} {R R2 : Nat → Prop} {A A1 A2 A3 : Option Addr} {n c n1 c1 n2 c2 n3 c3 : Nat} (r : Rul) (h1 : Tg w R A1 n1 c1 r.tg) (h2 : Nds w R A2 n2 c2 r.cond) (h3 : Dus w R A3 n3 c3 r.ob) (hob : obE r.ob = 0) (hA : Gvs w R2 A n c ask) (hG : ShortG ask) {vp vd : Fin 5} {vob : List Dut} (hv : ruleV ask r = ⟨(vp, vd), vob⟩) :
    Calls Tryz.prog 23 #[.agg #[.string r.id, .bool r.deny, .slice A1 n1 c1, .slice A2 n2 c2, .slice A3 n3 c3], .slice A n c] w fun e w' => ∃ A' n' c', e = .returned (.agg #[.complex .f64 (fl vp) (fl vd), .slice A' n' c']) ∧ Below w.heap.size w w' := by
  have h := evrule_any h1 h2 h3 (ob_short hob) (by have h1 := Rw.len h3; have h2 := ob_eight hob; omega) hA hG
  rw [hv] at h
  exact h.mono fun e w' ⟨A', n', c', e1, e2, _⟩ => ⟨A', n', c', e1, e2⟩
theorem evtwo (g : Int) : ∃ a : Fin 6, (a = 0 ∨ a = 1) ∧ 1 + withinOf g 0 1 = algN a := by
  have h := within_le (n := g) (lo := 0) (hi := 1) (by omega)
  rcases (show withinOf g 0 1 = 0 ∨ withinOf g 0 1 = 1 by omega) with e | e
  · exact ⟨0, .inl rfl, by rw [e]; rfl⟩
  · exact ⟨1, .inr rfl, by rw [e]; rfl⟩
theorem no_kids {w : World} {R : Nat → Prop} {A : Option Addr} {n c d : Nat} {l : List Pol} (h : Pls w R d A n c l) (hl : l = []) (m : Nat) : Pls w R m A n c l := by
  subst hl
  exact Rw.keep h (Kept.refl _ _) (fun _ h _ => h) (fun vs x hx => by simp at hx)
theorem right_take {p : Pol} (h : rightE p = 0) (hs : p.set = false) (k : Nat) : rightE (withR p 3 (p.rules.take k)) = 0 :=
  right_with h hs (by omega) (fun r hr => List.mem_of_mem_take hr) (by rw [List.length_take]; omega) (fun hd => (((List.take_sublist k p.rules).map Rul.id).nodup hd))
theorem right_turn {p : Pol} (h : rightE p = 0) (hs : p.set = false) {a : Fin 6} (ha : a = 0 ∨ a = 1) (k : Nat) : rightE (withR p (algN a) (p.rules.drop k ++ p.rules.take k)) = 0 := by
  refine right_with h hs (by rcases ha with rfl | rfl <;> decide) (fun r hr => (List.mem_append.1 hr).elim List.mem_of_mem_drop List.mem_of_mem_take) (by rw [List.length_append, List.length_drop, List.length_take]; omega) (fun hd => ?_)
  have hp : (p.rules.take k ++ p.rules.drop k).Perm (p.rules.drop k ++ p.rules.take k) := List.perm_append_comm
  rw [List.take_append_drop] at hp
  exact ((hp.map Rul.id).nodup_iff).1 hd
end Go.Proofs.YtmoglaknmlhpgaaGreat
