/- PolicyNames: what Right says of the copies. -/
import Derived.Test.YtcpbmeejgkjmjaaPolCalls
import Derived.Test.YtcpbmeejgkjmjaaPolicyNamesM
import Derived.Test.YtcpbmeejgkjmjaaOwPut
namespace Go.Proofs.Ytcpbmeejgkjmjaa
set_option linter.unusedVariables false
open Go.RowKit

section
variable {V V' U : World} {m : Nat} {p : Pol} {B1 B2 B3 B4 : Option Addr} {n1 n2 n3 n4 d1 d2 d3 d4 : Nat}
theorem CopyTo.in_ (h : CopyTo V V' m p B1 n1 d1 B2 n2 d2 B3 n3 d3 B4 n4 d4) (hid : p.id.size ≤ maxLen) (ha : InI p.alg) (hn2 : n2 ≤ 3000) (hn3 : n3 ≤ 3000) : PolIn V' (fun b => V.heap.size ≤ b) p B1 n1 d1 B2 n2 d2 B3 n3 d3 B4 n4 d4 := by
  obtain ⟨C1, e1, c1, C2, e2, c2, C3, e3, c3, C4, e4, c4, e, h0, h00, h1, h2, h3, h4⟩ := h.at_ hid ha hn2 hn3
  simp only [List.cons.injEq, Value.slice.injEq, and_true, true_and] at e
  obtain ⟨⟨rfl, rfl, rfl⟩, ⟨rfl, rfl, rfl⟩, ⟨rfl, rfl, rfl⟩, rfl, rfl, rfl⟩ := e
  exact ⟨⟨hid, ha⟩, h1, h2, ⟨m, h3⟩, h4⟩
/-- The copy under a name that is none. -/
theorem right_own (h : CopyTo V V' m p B1 n1 d1 B2 n2 d2 B3 n3 d3 B4 n4 d4) (ha : InI p.alg) (hid : p.id.size ≤ maxLen) (hn2 : n2 ≤ 3000) (hn3 : n3 ≤ 3000) {x : ByteArray} (hx : x.size ≤ maxLen) (hno : ¬ Named (bl x)) (hU : Below V'.heap.size V' U) :
    Calls Try.prog 9 #[.agg #[.string x, .bool p.set, .int .i64 p.alg, .slice B1 n1 d1, .slice B2 n2 d2, .slice B3 n3 d3, .slice B4 n4 d4]] U fun e w' => e = .returned (.int .i64 1) ∧ Below U.heap.size U w' := by
  obtain ⟨_, h1, h2, h3, h4⟩ := h.in_ hid ha hn2 hn3
  exact call_right (p := .mk x p.set p.alg p.tg p.rules p.kids p.ob) (names_own hno) ⟨⟨hx, ha⟩, h1, h2, h3, h4⟩ U hU
/-- A set's copy with a rule. -/
theorem right_rules (h : CopyTo V V' m p B1 n1 d1 B2 n2 d2 B3 n3 d3 B4 n4 d4) (ha : InI p.alg) (hid : p.id.size ≤ maxLen) (hn2 : n2 ≤ 3000) (hn3 : n3 ≤ 3000) (hset : p.set = true) (h0 : rightE p = 0) {x : ByteArray} (hx : x.size ≤ maxLen) {g : Nat} (hU : Below V'.heap.size V' U)
    (hg : Ob U g 48 #[.string x, .bool false, .slice none 0 0, .slice none 0 0, .slice none 0 0]) (U' : World) (hU' : Below U.heap.size U U') :
    Calls Try.prog 9 #[.agg #[.string p.id, .bool p.set, .int .i64 p.alg, .slice B1 n1 d1, .slice (some ⟨g, 0, none⟩) 1 1, .slice B3 n3 d3, .slice B4 n4 d4]] U' fun e w' => e = .returned (.int .i64 1) ∧ Below U'.heap.size U' w' := by
  have hin := (h.in_ hid ha hn2 hn3).then_ hU
  obtain ⟨_, h1, h2, h3, h4⟩ := hin
  have hrow : Rus U (fun _ => True) (some ⟨g, 0, none⟩) 1 1 [⟨x, false, [], [], []⟩] := by
    refine ⟨rfl, Nat.le_refl _, ⟨by simp [maxLen], by omega⟩, .inr ⟨g, 0, rfl, trivial, hg.lt, fun j y hy => ?_⟩⟩
    match j, hy with
    | 0, hy =>
      obtain rfl := Option.some.inj hy
      refine ⟨[.string x, .bool false, .slice none 0 0, .slice none 0 0, .slice none 0 0], rfl, fun i v hv => ?_, none, 0, 0, none, 0, 0, none, 0, 0, rfl, hx, Rw.nil_ _ _ _ _, Rw.nil_ _ _ _ _, Rw.nil_ _ _ _ _⟩
      have := hg.cell i
      simp only [Nat.zero_mul, Nat.zero_add, Nat.add_zero]
      rw [this]
      simpa using hv
  refine call_right (p := .mk p.id p.set p.alg p.tg [⟨x, false, [], [], []⟩] p.kids p.ob) (R := fun _ => True) (names_fit (right_parts h0).1 ?_) ⟨⟨hid, ha⟩, h1.keep (Kept.refl _ _) (fun _ _ _ => trivial), hrow, ?_, h4.keep (Kept.refl _ _) (fun _ _ _ => trivial)⟩ U' hU'
  · unfold fitsB
    show (_ && _ && (if p.set = true then decide ((1 : Nat) = 0) else _)) = false
    rw [if_pos hset]
    simp
  · obtain ⟨e, h3⟩ := h3
    exact ⟨e, h3.keep (Kept.refl _ _) (fun _ _ _ => trivial)⟩
/-- A policy's copy with a kid. -/
theorem right_kids (h : CopyTo V V' m p B1 n1 d1 B2 n2 d2 B3 n3 d3 B4 n4 d4) (ha : InI p.alg) (hid : p.id.size ≤ maxLen) (hn2 : n2 ≤ 3000) (hn3 : n3 ≤ 3000) (hset : p.set = false) (h0 : rightE p = 0) {x : ByteArray} (hx : x.size ≤ maxLen) {g : Nat} (hU : Below V'.heap.size V' U)
    (hg : Ob U g 28 #[.string x, .bool false, .int .i64 1, .slice none 0 0, .slice none 0 0, .slice none 0 0, .slice none 0 0]) (U' : World) (hU' : Below U.heap.size U U') :
    Calls Try.prog 9 #[.agg #[.string p.id, .bool p.set, .int .i64 p.alg, .slice B1 n1 d1, .slice B2 n2 d2, .slice (some ⟨g, 0, none⟩) 1 1, .slice B4 n4 d4]] U' fun e w' => e = .returned (.int .i64 1) ∧ Below U'.heap.size U' w' := by
  have hin := (h.in_ hid ha hn2 hn3).then_ hU
  obtain ⟨_, h1, h2, h3, h4⟩ := hin
  have hrow : Pls U (fun _ => True) 1 (some ⟨g, 0, none⟩) 1 1 [.mk x false 1 [] [] [] []] := by
    refine ⟨rfl, Nat.le_refl _, ⟨by simp [maxLen], by omega⟩, .inr ⟨g, 0, rfl, trivial, hg.lt, fun j y hy => ?_⟩⟩
    match j, hy with
    | 0, hy =>
      obtain rfl := Option.some.inj hy
      refine ⟨[.string x, .bool false, .int .i64 1, .slice none 0 0, .slice none 0 0, .slice none 0 0, .slice none 0 0], rfl, fun i v hv => ?_, none, 0, 0, none, 0, 0, none, 0, 0, none, 0, 0, rfl, hx, (by show InI 1; unfold InI; omega), Rw.nil_ _ _ _ _, Rw.nil_ _ _ _ _, Rw.nil_ _ _ _ _, Rw.nil_ _ _ _ _⟩
      have := hg.cell i
      simp only [Nat.zero_mul, Nat.zero_add, Nat.add_zero]
      rw [this]
      simpa using hv
  refine call_right (p := .mk p.id p.set p.alg p.tg p.rules [.mk x false 1 [] [] [] []] p.ob) (R := fun _ => True) (names_fit (right_parts h0).1 ?_) ⟨⟨hid, ha⟩, h1.keep (Kept.refl _ _) (fun _ _ _ => trivial), h2.keep (Kept.refl _ _) (fun _ _ _ => trivial), ⟨1, hrow⟩, h4.keep (Kept.refl _ _) (fun _ _ _ => trivial)⟩ U' hU'
  unfold fitsB
  show (_ && _ && (if p.set = true then _ else decide ((1 : Nat) = 0) && _)) = false
  rw [if_neg (by rw [hset]; simp)]
  simp
end
theorem no_name (x : ByteArray) : ¬ Named (bl (⟨#[88]⟩ ++ x)) := by
  intro h
  have e : bl (⟨#[88]⟩ ++ x) = 88 :: x.data.toList := by
    show (⟨#[88]⟩ ++ x : ByteArray).data.toList = _
    rw [ByteArray.data_append]
    simp
  rw [e] at h
  have := h.2 0 (by simp)
  simp at this
  revert this
  decide
section
variable {V V' U : World} {m : Nat} {p : Pol} {B1 B2 B3 B4 : Option Addr} {n1 n2 n3 n4 d1 d2 d3 d4 : Nat}
theorem CopyTo.then_ (h : CopyTo V V' m p B1 n1 d1 B2 n2 d2 B3 n3 d3 B4 n4 d4) (hU : Below V'.heap.size V' U) : CopyTo V U m p B1 n1 d1 B2 n2 d2 B3 n3 d3 B4 n4 d4 := by
  obtain ⟨s1, s2, l1, l2, l3, ht, hd, hr, hl, hk⟩ := h
  refine ⟨s1, s2, l1, l2, Nat.le_trans l3 hU.size, ht.keep (Kept.all hU _) (fun _ h _ => h), hd.keep (Kept.all hU _) (fun _ h _ => h), ?_, hl, hk.below (keeps_pol m) hU⟩
  exact (hr.mapP (fun vs x _ h => h.keep (Kept.all hU _) (fun _ h _ => h))).below hU
/-- The copy, one of its kids under the policy's name: where that is, and what Right says then. -/
theorem kid_put (h : CopyTo V V' m p B1 n1 d1 B2 n2 d2 B3 n3 d3 B4 n4 d4) (hid : p.id.size ≤ maxLen) (ha : InI p.alg) (hn2 : n2 ≤ 3000) (hn3 : n3 ≤ 3000) (h0 : rightE p = 0) (hl : p.kids.length = n3) {j : Nat} (hj : j < n3) :
    ∃ g, B3 = some ⟨g, 0, none⟩ ∧ V.heap.size ≤ g ∧ g < V'.heap.size ∧ ∀ U, Below V'.heap.size V' U → ∃ u, U.cell? ⟨g, j * 7, none⟩ = some u ∧ U.frozen? ⟨g, j * 7, none⟩ = false ∧ Only g U (U.setCell ⟨g, j * 7, none⟩ (.string p.id)) ∧
      ∀ X, Below (U.setCell ⟨g, j * 7, none⟩ (.string p.id)).heap.size (U.setCell ⟨g, j * 7, none⟩ (.string p.id)) X →
        Calls Try.prog 9 #[.agg #[.string p.id, .bool p.set, .int .i64 p.alg, .slice B1 n1 d1, .slice B2 n2 d2, .slice B3 n3 d3, .slice B4 n4 d4]] X fun e w' => e = .returned (.int .i64 1) ∧ Below X.heap.size X w' := by
  obtain ⟨g, u, e, l1, l2, _⟩ := h.kid hid ha hn2 hn3 hj hid
  refine ⟨g, e, l1, l2, fun U hU => ?_⟩
  obtain ⟨g', u', e', _, _, c1, c2, c3, k, hk, hp⟩ := (h.then_ hU).kid hid ha hn2 hn3 hj hid
  obtain rfl : g = g' := by rw [e] at e'; injection e' with e'; injection e'
  exact ⟨u', c1, c2, c3, fun X hX => call_right (p := .mk p.id p.set p.alg p.tg p.rules (p.kids.set j k) p.ob) (names_kid h0 (by omega) hk) hp X hX⟩
theorem rule_put (h : CopyTo V V' m p B1 n1 d1 B2 n2 d2 B3 n3 d3 B4 n4 d4) (hid : p.id.size ≤ maxLen) (ha : InI p.alg) (hn2 : n2 ≤ 3000) (hn3 : n3 ≤ 3000) (h0 : rightE p = 0) (hl : p.rules.length = n2) {j : Nat} (hj : j < n2) :
    ∃ g, B2 = some ⟨g, 0, none⟩ ∧ V.heap.size ≤ g ∧ g < V'.heap.size ∧ ∀ U, Below V'.heap.size V' U → ∃ u, U.cell? ⟨g, j * 5, none⟩ = some u ∧ U.frozen? ⟨g, j * 5, none⟩ = false ∧ Only g U (U.setCell ⟨g, j * 5, none⟩ (.string p.id)) ∧
      ∀ X, Below (U.setCell ⟨g, j * 5, none⟩ (.string p.id)).heap.size (U.setCell ⟨g, j * 5, none⟩ (.string p.id)) X →
        Calls Try.prog 9 #[.agg #[.string p.id, .bool p.set, .int .i64 p.alg, .slice B1 n1 d1, .slice B2 n2 d2, .slice B3 n3 d3, .slice B4 n4 d4]] X fun e w' => e = .returned (.int .i64 1) ∧ Below X.heap.size X w' := by
  obtain ⟨g, u, e, l1, l2, _⟩ := h.rule hid ha hn2 hn3 hj hid
  refine ⟨g, e, l1, l2, fun U hU => ?_⟩
  obtain ⟨g', u', e', _, _, c1, c2, c3, k, hk, hp⟩ := (h.then_ hU).rule hid ha hn2 hn3 hj hid
  obtain rfl : g = g' := by rw [e] at e'; injection e' with e'; injection e'
  exact ⟨u', c1, c2, c3, fun X hX => call_right (p := .mk p.id p.set p.alg p.tg (p.rules.set j k) p.kids p.ob) (names_rule h0 (by omega) hk) hp X hX⟩
end
end Go.Proofs.Ytcpbmeejgkjmjaa
