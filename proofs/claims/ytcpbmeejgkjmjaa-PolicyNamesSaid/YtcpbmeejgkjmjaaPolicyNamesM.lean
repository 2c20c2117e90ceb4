/- PolicyNames: what becomes of a right policy whose names, rules or kids are changed (plain). -/
import Derived.Test.YtcpbmeejgkjmjaaPolCountsM
namespace Go.Proofs.Ytcpbmeejgkjmjaa
set_option linter.unusedVariables false

/-- What a right policy's run was. -/
theorem right_parts {p : Pol} (h : rightE p = 0) : idS p.id ⟨[], 0⟩ = some ⟨[p.id], 0⟩ ∧ fitsB p = true ∧ orE (tgE p.tg) (obE p.ob) = 0 ∧ ¬ (16 < p.rules.length ∨ 16 < p.kids.length) ∧
    ∃ s2 s3, firstS ruleS p.rules ⟨[p.id], 0⟩ = (0, s2) ∧ firstS (polS 3) p.kids s2 = (0, s3) := by
  have e0 : polS (3 + 1) p ⟨[], 0⟩ = (0, (polS 4 p ⟨[], 0⟩).2) := by unfold rightE at h; rw [← h]
  generalize (polS 4 p ⟨[], 0⟩).2 = s' at *
  rw [polS] at e0
  cases hi : idS p.id ⟨[], 0⟩ with
  | none => rw [hi] at e0; simp at e0
  | some s1 =>
    rw [hi] at e0
    simp only at e0
    have h1 := (idS_sub hi (t := ⟨[], 0⟩) ⟨fun _ h => h, Nat.le_refl _⟩).2
    subst h1
    split at e0
    · simp at e0
    rename_i c1
    split at e0
    · rename_i c2; simp only [Prod.mk.injEq] at e0; exact absurd e0.1 c2
    rename_i c2
    split at e0
    · simp at e0
    rename_i c3
    split at e0
    · rename_i c4; rw [e0] at c4; exact absurd rfl c4
    rename_i c4
    have c4' : (firstS ruleS p.rules ⟨[] ++ [p.id], 0⟩).1 = 0 := by simpa using c4
    refine ⟨rfl, by simpa using c1, by simpa using c2, c3, (firstS ruleS p.rules ⟨[p.id], 0⟩).2, s', ?_, e0⟩
    rw [← c4']
    rfl
/-- One element is changed for one that is an error wherever x was met. -/
theorem first_set {α : Type} {f f' : α → Seen → Int × Seen} (hf : ∀ x, Fine f f' x) {x : ByteArray} {y : α} (hy : ∀ t, metB x t.ids = true → (f y t).1 = 1) : ∀ (l : List α) (s s' : Seen) (j : Nat), firstS f l s = (0, s') → metB x s.ids = true → j < l.length → (firstS f (l.set j y) s).1 = 1
  | [], _, _, _, _, _, hj => by simp at hj
  | a :: l, s, s', 0, _, hm, _ => by
    have h1 := hy s hm
    rw [List.set_cons_zero]
    unfold firstS
    rw [if_pos (by rw [h1]; omega), h1]
  | a :: l, s, s', j + 1, h, hm, hj => by
    rw [List.set_cons_succ]
    unfold firstS at h ⊢
    split at h
    · rename_i h0; rw [h] at h0; exact absurd rfl h0
    · rename_i h0
      rw [if_neg h0]
      have h0 : (f a s).1 = 0 := by simpa using h0
      obtain ⟨add, m, e, _⟩ := hf a s (f a s).2 (by rw [← h0])
      exact first_set hf hy l _ s' j h (by rw [e, metB_app, hm]; rfl) (by simpa using hj)
theorem rule_met {r : Rul} {t : Seen} (h : metB r.id t.ids = true) : (ruleS r t).1 = 1 := by
  unfold ruleS idS
  rw [h]
  simp
theorem pol_met {p : Pol} {d : Nat} {t : Seen} (h : metB p.id t.ids = true) : (polS (d + 1) p t).1 = 1 := by
  rw [polS]
  unfold idS
  rw [h]
  simp
theorem met_self (x : ByteArray) (l : List ByteArray) : metB x ([x] ++ l) = true := by simp [metB]
/-- A rule has the policy's name. -/
theorem names_rule {p : Pol} (h : rightE p = 0) {j : Nat} (hj : j < p.rules.length) {r : Rul} (hr : r.id = p.id) : rightE (.mk p.id p.set p.alg p.tg (p.rules.set j r) p.kids p.ob) = 1 := by
  obtain ⟨h1, h2, h3, h4, s2, s3, h5, h6⟩ := right_parts h
  unfold rightE
  rw [polS]
  show (match idS p.id ⟨[], 0⟩ with | none => ((1 : Int), (⟨[], 0⟩ : Seen)) | some s1 => _).1 = 1
  rw [h1]
  simp only
  have e2 : fitsB (.mk p.id p.set p.alg p.tg (p.rules.set j r) p.kids p.ob) = true := by
    have := h2
    unfold fitsB at this ⊢
    have hl : (Pol.mk p.id p.set p.alg p.tg (p.rules.set j r) p.kids p.ob).rules.length = p.rules.length := List.length_set
    rw [hl]
    exact this
  have e3 : orE (tgE (Pol.mk p.id p.set p.alg p.tg (p.rules.set j r) p.kids p.ob).tg) (obE (Pol.mk p.id p.set p.alg p.tg (p.rules.set j r) p.kids p.ob).ob) = 0 := h3
  have e4 : ¬ (16 < (Pol.mk p.id p.set p.alg p.tg (p.rules.set j r) p.kids p.ob).rules.length ∨ 16 < (Pol.mk p.id p.set p.alg p.tg (p.rules.set j r) p.kids p.ob).kids.length) := by
    show ¬ (16 < (p.rules.set j r).length ∨ 16 < p.kids.length)
    rw [List.length_set]
    exact h4
  have e5 : (firstS ruleS (Pol.mk p.id p.set p.alg p.tg (p.rules.set j r) p.kids p.ob).rules ⟨[p.id], 0⟩).1 = 1 := first_set (x := p.id) fine_rule (fun t ht => rule_met (by rw [hr]; exact ht)) p.rules _ s2 j h5 (met_self p.id []) hj
  rw [e2, e3]
  simp only [Bool.true_eq_false, if_false, ne_eq, not_true, e4, e5]
  simp
  exact e5
/-- A kid has the policy's name. -/
theorem names_kid {p : Pol} (h : rightE p = 0) {j : Nat} (hj : j < p.kids.length) {k : Pol} (hk : k.id = p.id) : rightE (.mk p.id p.set p.alg p.tg p.rules (p.kids.set j k) p.ob) = 1 := by
  obtain ⟨h1, h2, h3, h4, s2, s3, h5, h6⟩ := right_parts h
  unfold rightE
  rw [polS]
  show (match idS p.id ⟨[], 0⟩ with | none => ((1 : Int), (⟨[], 0⟩ : Seen)) | some s1 => _).1 = 1
  rw [h1]
  simp only
  have e2 : fitsB (.mk p.id p.set p.alg p.tg p.rules (p.kids.set j k) p.ob) = true := by
    have := h2
    unfold fitsB at this ⊢
    have hl : (Pol.mk p.id p.set p.alg p.tg p.rules (p.kids.set j k) p.ob).kids.length = p.kids.length := List.length_set
    rw [hl]
    exact this
  have e3 : orE (tgE (Pol.mk p.id p.set p.alg p.tg p.rules (p.kids.set j k) p.ob).tg) (obE (Pol.mk p.id p.set p.alg p.tg p.rules (p.kids.set j k) p.ob).ob) = 0 := h3
  have e4 : ¬ (16 < (Pol.mk p.id p.set p.alg p.tg p.rules (p.kids.set j k) p.ob).rules.length ∨ 16 < (Pol.mk p.id p.set p.alg p.tg p.rules (p.kids.set j k) p.ob).kids.length) := by
    show ¬ (16 < p.rules.length ∨ 16 < (p.kids.set j k).length)
    rw [List.length_set]
    exact h4
  have e5 : firstS ruleS (Pol.mk p.id p.set p.alg p.tg p.rules (p.kids.set j k) p.ob).rules ⟨[p.id], 0⟩ = (0, s2) := h5
  obtain ⟨add, m, e, _⟩ := fine_first fine_rule p.rules _ s2 h5
  have e6 : (firstS (polS 3) (Pol.mk p.id p.set p.alg p.tg p.rules (p.kids.set j k) p.ob).kids s2).1 = 1 := first_set (x := p.id) (fun x => fine_pol 3 3 (Nat.le_refl _) x) (fun t ht => pol_met (by rw [hk]; exact ht)) p.kids s2 s3 j h6 (by rw [e]; exact met_self p.id add) hj
  rw [e2, e3, e5]
  simp only [Bool.true_eq_false, if_false, ne_eq, not_true, e4, e6]
/-- Its own name is none. -/
theorem names_own {p : Pol} (h : ¬ Named (bl p.id)) : rightE p = 1 := by
  unfold rightE
  rw [polS]
  unfold idS
  rw [if_neg (fun c => h c.1)]
/-- It doesn't fit. -/
theorem names_fit {p : Pol} (h : idS p.id ⟨[], 0⟩ = some ⟨[p.id], 0⟩) (hf : fitsB p = false) : rightE p = 1 := by
  unfold rightE
  rw [polS, h]
  simp [hf]
end Go.Proofs.Ytcpbmeejgkjmjaa
