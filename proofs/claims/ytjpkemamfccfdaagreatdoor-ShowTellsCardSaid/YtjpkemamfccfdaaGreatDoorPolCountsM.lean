/- What a right policy's run leaves; a kid of it by itself (plain). -/
import Derived.Test.YtjpkemamfccfdaaGreatDoorPolPol
import Derived.Test.YtjpkemamfccfdaaGreatDoorKeepSmall
namespace Go.Proofs.YtjpkemamfccfdaaGreatDoor
set_option linter.unusedVariables false

/-- Fewer names met, fewer rules. -/
def Sub (t s : Seen) : Prop := (∀ x, metB x t.ids = true → metB x s.ids = true) ∧ t.n ≤ s.n
theorem metB_app (x : ByteArray) (l m : List ByteArray) : metB x (l ++ m) = (metB x l || metB x m) := by simp [metB, List.any_append]
theorem Sub.app {t s : Seen} (h : Sub t s) (add : List ByteArray) (m : Nat) : Sub ⟨t.ids ++ add, t.n + m⟩ ⟨s.ids ++ add, s.n + m⟩ := by
  refine ⟨fun x hx => ?_, by have := h.2; show t.n + m ≤ s.n + m; omega⟩
  rw [metB_app, Bool.or_eq_true] at hx ⊢
  exact hx.imp (h.1 x) id
/-- A run without an error adds the same names, as many rules, wherever fewer were met. -/
def Fine {α : Type} (f f' : α → Seen → Int × Seen) (x : α) : Prop := ∀ s s', f x s = (0, s') → ∃ add m, s' = ⟨s.ids ++ add, s.n + m⟩ ∧ ∀ t, Sub t s → f' x t = (0, ⟨t.ids ++ add, t.n + m⟩)
theorem fine_first {α : Type} {f f' : α → Seen → Int × Seen} (h : ∀ x, Fine f f' x) : ∀ (l : List α) s s', firstS f l s = (0, s') → ∃ add m, s' = ⟨s.ids ++ add, s.n + m⟩ ∧ ∀ t, Sub t s → firstS f' l t = (0, ⟨t.ids ++ add, t.n + m⟩)
  | [], s, s', e => by
    simp [firstS] at e
    subst e
    exact ⟨[], 0, by simp, fun t _ => by simp [firstS]⟩
  | x :: l, s, s', e => by
    simp only [firstS] at e
    split at e
    · rename_i h0
      rw [e] at h0
      exact absurd rfl h0
    · rename_i h0
      have h0 : (f x s).1 = 0 := by simpa using h0
      have e1 : f x s = (0, (f x s).2) := by rw [← h0]
      obtain ⟨a1, m1, r1, q1⟩ := h x s _ e1
      obtain ⟨a2, m2, r2, q2⟩ := fine_first h l _ _ e
      refine ⟨a1 ++ a2, m1 + m2, ?_, fun t ht => ?_⟩
      · rw [r2, r1]; simp [Nat.add_assoc]
      · simp only [firstS, q1 t ht, ne_eq, not_true, if_false]
        have hs := ht.app a1 m1
        rw [← r1] at hs
        rw [q2 _ hs]
        simp [Nat.add_assoc]
theorem idS_sub {x : ByteArray} {s t s1 : Seen} (h : idS x s = some s1) (hs : Sub t s) : idS x t = some ⟨t.ids ++ [x], t.n⟩ ∧ s1 = ⟨s.ids ++ [x], s.n⟩ := by
  unfold idS at h ⊢
  split at h
  · rename_i hc
    refine ⟨?_, (Option.some.inj h).symm⟩
    rw [if_pos]
    refine ⟨hc.1, ?_⟩
    cases hm : metB x t.ids with
    | false => rfl
    | true =>
      have := hs.1 x hm
      rw [hc.2] at this
      cases this
  · cases h
theorem fine_rule (r : Rul) : Fine ruleS ruleS r := by
  intro s s' h
  unfold ruleS at h
  cases hi : idS r.id s with
  | none => rw [hi] at h; simp at h
  | some s1 =>
    rw [hi] at h
    simp only at h
    split at h
    · simp at h
    · rename_i hn
      simp only [Prod.mk.injEq] at h
      have h1 := (idS_sub hi (t := s) ⟨fun _ h => h, Nat.le_refl _⟩).2
      subst h1
      refine ⟨[r.id], 1, h.2.symm, fun t ht => ?_⟩
      obtain ⟨e1, _⟩ := idS_sub hi ht
      unfold ruleS
      rw [e1]
      have hn' : ¬ 64 < t.n + 1 := by have := ht.2; simp only at hn; omega
      simp only [hn', if_false, h.1]
theorem fine_pol : ∀ (d d' : Nat), d ≤ d' → ∀ p, Fine (polS d) (polS d') p
  | 0, d', _, p => by intro s s' h; simp [polS] at h
  | d + 1, 0, hd, p => by omega
  | d + 1, d' + 1, hd, p => by
    intro s s' h
    simp only [polS] at h
    cases hi : idS p.id s with
    | none => rw [hi] at h; simp at h
    | some s1 =>
      rw [hi] at h
      simp only at h
      have h1 := (idS_sub hi (t := s) ⟨fun _ h => h, Nat.le_refl _⟩).2
      subst h1
      split at h
      · simp at h
      rename_i c1
      split at h
      · rename_i c2; simp only [Prod.mk.injEq] at h; exact absurd h.1 c2
      rename_i c2
      split at h
      · simp at h
      rename_i c3
      split at h
      · rename_i c4; rw [h] at c4; exact absurd rfl c4
      rename_i c4
      have c4' : (firstS ruleS p.rules ⟨s.ids ++ [p.id], s.n⟩).1 = 0 := by simpa using c4
      have e1 : firstS ruleS p.rules ⟨s.ids ++ [p.id], s.n⟩ = (0, (firstS ruleS p.rules ⟨s.ids ++ [p.id], s.n⟩).2) := by rw [← c4']
      obtain ⟨a1, m1, r1, q1⟩ := fine_first fine_rule _ _ _ e1
      obtain ⟨a2, m2, r2, q2⟩ := fine_first (fine_pol d d' (by omega)) _ _ _ h
      rw [r1] at r2 q2
      refine ⟨[p.id] ++ a1 ++ a2, m1 + m2, by rw [r2]; simp [Nat.add_assoc], fun t ht => ?_⟩
      obtain ⟨e2, _⟩ := idS_sub hi ht
      have ht1 : Sub ⟨t.ids ++ [p.id], t.n⟩ ⟨s.ids ++ [p.id], s.n⟩ := ht.app [p.id] 0
      have g1 := q1 _ ht1
      have g2 := q2 _ (ht1.app a1 m1)
      simp only [polS, e2, c1, if_false, c2, c3, g1, ne_eq, not_true, g2]
      simp [Nat.add_assoc]
theorem rule_n {r : Rul} {s s' : Seen} (h : ruleS r s = (0, s')) : s'.n = s.n + 1 ∧ s'.n ≤ 64 := by
  unfold ruleS at h
  cases hi : idS r.id s with
  | none => rw [hi] at h; simp at h
  | some s1 =>
    rw [hi] at h
    simp only at h
    have h1 := (idS_sub hi (t := s) ⟨fun _ h => h, Nat.le_refl _⟩).2
    split at h
    · simp at h
    · rename_i hn
      simp only [Prod.mk.injEq] at h
      rw [← h.2]
      subst h1
      exact ⟨rfl, Nat.le_of_not_lt hn⟩
theorem rules_n : ∀ {l : List Rul} {s s' : Seen}, firstS ruleS l s = (0, s') → s.n ≤ 64 → s'.n = s.n + l.length ∧ s'.n ≤ 64
  | [], s, s', h, hs => by simp [firstS] at h; subst h; simp; exact hs
  | r :: l, s, s', h, hs => by
    simp only [firstS] at h
    split at h
    · rename_i h0; rw [h] at h0; exact absurd rfl h0
    · rename_i h0
      have h0 : (ruleS r s).1 = 0 := by simpa using h0
      have e1 : ruleS r s = (0, (ruleS r s).2) := by rw [← h0]
      obtain ⟨a, b⟩ := rule_n e1
      obtain ⟨c, d⟩ := rules_n h b
      simp only [List.length_cons]
      omega
theorem pol_n : ∀ {d : Nat} {p : Pol} {s s' : Seen}, polS d p s = (0, s') → s.n ≤ 64 → s'.n ≤ 64
  | 0, p, s, s', h, _ => by simp [polS] at h
  | d + 1, p, s, s', h, hs => by
    simp only [polS] at h
    cases hi : idS p.id s with
    | none => rw [hi] at h; simp at h
    | some s1 =>
      rw [hi] at h
      simp only at h
      have h1 := (idS_sub hi (t := s) ⟨fun _ h => h, Nat.le_refl _⟩).2
      subst h1
      split at h
      · simp at h
      split at h
      · rename_i c2; simp only [Prod.mk.injEq] at h; exact absurd h.1 c2
      split at h
      · simp at h
      split at h
      · rename_i c4; rw [h] at c4; exact absurd rfl c4
      rename_i c4
      have c4' : (firstS ruleS p.rules ⟨s.ids ++ [p.id], s.n⟩).1 = 0 := by simpa using c4
      have e1 : firstS ruleS p.rules ⟨s.ids ++ [p.id], s.n⟩ = (0, (firstS ruleS p.rules ⟨s.ids ++ [p.id], s.n⟩).2) := by rw [← c4']
      have hr := (rules_n e1 hs).2
      have kids : ∀ (l : List Pol) (a b : Seen), firstS (polS d) l a = (0, b) → a.n ≤ 64 → b.n ≤ 64 := by
        intro l
        induction l with
        | nil => intro a b h ha; simp [firstS] at h; subst h; exact ha
        | cons x l ih =>
          intro a b h ha
          simp only [firstS] at h
          split at h
          · rename_i h0; rw [h] at h0; exact absurd rfl h0
          · rename_i h0
            have h0 : (polS d x a).1 = 0 := by simpa using h0
            have e1 : polS d x a = (0, (polS d x a).2) := by rw [← h0]
            exact ih _ _ h (pol_n e1 ha)
      exact kids _ _ _ h hr
/-- A policy that is right anywhere is right by itself, with as many rules. -/
theorem kid_alone {p : Pol} {s s' : Seen} (h : polS 3 p s = (0, s')) : rightE p = 0 ∧ s'.n = s.n + rulesN p := by
  obtain ⟨add, m, e, q⟩ := fine_pol 3 4 (by omega) p s s' h
  have := q ⟨[], 0⟩ ⟨fun x hx => by simp [metB] at hx, Nat.zero_le _⟩
  unfold rightE rulesN
  rw [this, e]
  simp
theorem kids_alone : ∀ {l : List Pol} {s s' : Seen}, firstS (polS 3) l s = (0, s') → (∀ k ∈ l, rightE k = 0) ∧ s'.n = s.n + sumC rulesN l
  | [], s, s', h => by simp [firstS] at h; subst h; simp [sumC]
  | x :: l, s, s', h => by
    simp only [firstS] at h
    split at h
    · rename_i h0; rw [h] at h0; exact absurd rfl h0
    · rename_i h0
      have h0 : (polS 3 x s).1 = 0 := by simpa using h0
      have e1 : polS 3 x s = (0, (polS 3 x s).2) := by rw [← h0]
      obtain ⟨a, b⟩ := kid_alone e1
      obtain ⟨c, d⟩ := kids_alone h
      refine ⟨fun k hk => ?_, by rw [d, b]; simp only [sumC]; omega⟩
      rcases List.mem_cons.1 hk with rfl | hk
      · exact a
      · exact c k hk
/-- What is known of a right policy. -/
theorem right_all {p : Pol} (h : rightE p = 0) : (∀ k ∈ p.kids, rightE k = 0) ∧ rulesN p = p.rules.length + sumC rulesN p.kids ∧ rulesN p ≤ 64 ∧ p.rules.length ≤ 16 ∧ p.kids.length ≤ 16 := by
  have e0 : polS (3 + 1) p ⟨[], 0⟩ = (0, (polS 4 p ⟨[], 0⟩).2) := by unfold rightE at h; rw [← h]
  have hn := pol_n e0 (Nat.zero_le _)
  unfold rulesN
  generalize (polS 4 p ⟨[], 0⟩).2 = s' at *
  rw [polS] at e0
  cases hi : idS p.id ⟨[], 0⟩ with
  | none => rw [hi] at e0; simp at e0
  | some s1 =>
    rw [hi] at e0
    simp only at e0
    have h1 := (idS_sub hi (t := ⟨[], 0⟩) ⟨fun _ h => h, Nat.le_refl _⟩).2
    subst h1
    split at e0
    · simp at e0
    split at e0
    · rename_i c2; simp only [Prod.mk.injEq] at e0; exact absurd e0.1 c2
    split at e0
    · simp at e0
    rename_i c3
    split at e0
    · rename_i c4; rw [e0] at c4; exact absurd rfl c4
    rename_i c4
    have c4' : (firstS ruleS p.rules ⟨[] ++ [p.id], 0⟩).1 = 0 := by simpa using c4
    have e1 : firstS ruleS p.rules ⟨[] ++ [p.id], 0⟩ = (0, (firstS ruleS p.rules ⟨[] ++ [p.id], 0⟩).2) := by rw [← c4']
    obtain ⟨r1, _⟩ := rules_n e1 (Nat.zero_le _)
    obtain ⟨k1, k2⟩ := kids_alone e0
    refine ⟨k1, ?_, hn, by omega, by omega⟩
    rw [k2, r1]
    simp
    rfl
end Go.Proofs.YtjpkemamfccfdaaGreatDoor
