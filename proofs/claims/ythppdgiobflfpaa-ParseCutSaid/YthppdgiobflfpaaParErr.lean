/- The parser, plainly: what went wrong first stays. -/
import Derived.Test.YthppdgiobflfpaaNineA
namespace Go.Proofs.Ythppdgiobflfpaa
set_option linter.unusedVariables false

/-- Once something went wrong, that stays. -/
def Kp (s s' : Pz) : Prop := s.err ≠ 0 → s'.err = s.err ∧ s'.at_ = s.at_
section
variable {s s1 s2 : Pz}
theorem Kp.refl (s : Pz) : Kp s s := fun _ => ⟨rfl, rfl⟩
theorem Kp.trans (h1 : Kp s s1) (h2 : Kp s1 s2) : Kp s s2 := fun h => by
  obtain ⟨a, b⟩ := h1 h
  obtain ⟨c, d⟩ := h2 (by rw [a]; exact h)
  exact ⟨c.trans a, d.trans b⟩
/-- Where nothing is wrong in the end, nothing was. -/
theorem Kp.back (h : Kp s s1) (h1 : s1.err = 0) : s.err = 0 := by
  apply Decidable.byContradiction
  intro h0
  exact h0 ((h h0).1.symm.trans h1)
theorem kp_fail (e p : Int) (s : Pz) : Kp s (failR e p s) := fun h => by
  unfold failR
  rw [if_neg h]
  exact ⟨rfl, rfl⟩
theorem kp_wrong (s : Pz) : Kp s (wrongR s) := kp_fail _ _ _
theorem kp_most (n l : Int) (s : Pz) : Kp s (mostR n l s) := by
  unfold mostR
  split
  · exact kp_fail _ _ _
  · exact .refl _
theorem kp_next (s : Pz) : Kp s (nextR s) := fun _ => ⟨rfl, rfl⟩
theorem kp_take (ws : List ByteArray) (s : Pz) : Kp s (takeR ws s).2 := by
  unfold takeR
  split
  · exact .refl _
  · exact kp_next _
theorem kp_must (ws : List ByteArray) (s : Pz) : Kp s (mustR ws s).2 := by
  unfold mustR
  split
  · exact kp_wrong _
  · exact kp_next _
theorem kp_name (s : Pz) : Kp s (nameR s).2 := by
  unfold nameR
  split
  · exact kp_next _
  · exact kp_wrong _
theorem kp_end (s : Pz) : Kp s (endR s) := by
  unfold endR
  split
  · exact .refl _
  · exact kp_wrong _
theorem kp_attr (cat : Int) (s : Pz) : Kp s (attrR cat s).2 := by
  have h0 : Kp s (if cat = 0 then wrongR s else s) := by
    split
    · exact kp_wrong _
    · exact .refl _
  exact ((h0.trans (kp_must _ _)).trans (kp_name _)).trans (kp_take _ _)
theorem kp_value (s : Pz) : Kp s (valueR s).2 := by
  unfold valueR
  split
  · exact kp_must _ _
  · exact kp_next _
theorem kp_match (s : Pz) : Kp s (matchR s).2 := (((kp_take _ _).trans (kp_attr _ _)).trans (kp_must _ _)).trans (kp_value _)
theorem kp_leaf (s : Pz) : Kp s (leafR s).2 := by
  unfold leafR
  split
  · exact (kp_take _ _).trans (kp_attr _ _)
  · exact (kp_take _ _).trans (kp_value _)
theorem kp_row {α : Type} {one : Pz → α × Pz} {btw : ByteArray} (ho : ∀ s, Kp s (one s).2) : ∀ (n : Nat) (l : List α) (s : Pz), Kp s (rowR one btw n l s).2
  | 0, _, _ => .refl _
  | n + 1, l, s => by
    have h1 := ((ho s).trans (kp_most ((l ++ [(one s).1]).length : Int) 8 _)).trans (kp_take [btw] _)
    unfold rowR
    simp only
    split
    · exact h1
    · exact h1.trans (kp_row ho n _ _)
theorem kp_allOf (s : Pz) : Kp s (allOfR s).2 := kp_row kp_match _ _ _
theorem kp_anyOf (s : Pz) : Kp s (anyOfR s).2 := ((kp_must [m_lp] s).trans (kp_row kp_allOf _ _ _)).trans (kp_must _ _)
theorem kp_target (s : Pz) : Kp s (targetR s).2 := by
  unfold targetR
  split
  · exact kp_take _ _
  · exact (kp_take _ _).trans (kp_row kp_anyOf _ _ _)
theorem kp_duties : ∀ (n : Nat) (l : List Dut) (s : Pz), Kp s (dutiesR n l s).2
  | 0, _, _ => .refl _
  | n + 1, l, s => by
    unfold dutiesR
    split
    · exact kp_take _ _
    · exact (((((kp_take _ _).trans (kp_must _ _)).trans (kp_must _ _)).trans (kp_name _)).trans (kp_most _ _ _)).trans (kp_duties n _ _)
theorem kp_duts (s : Pz) : Kp s (dutsR s).2 := kp_duties _ _ _
theorem kp_nod (bag : Bool) (p : Int) (l : List Nod) (n : Nod) (s : Pz) : Kp s (nodR bag p l n s).2 := by
  unfold nodR
  simp only
  split
  · exact (kp_most _ _ _).trans (kp_fail _ _ _)
  · exact kp_most _ _ _
theorem kp_call {ex : List Nod → Bool → Pz → List Nod × Pz} (he : ∀ l b s, Kp s (ex l b s).2) (l : List Nod) (s : Pz) : Kp s (callR ex l s).2.2 := by
  have h1 := (kp_must [w_one, w_size, w_has, w_eq, w_less, w_add, w_sub, w_mul, w_not, w_and, w_or] s).trans (he l (isBag (2 + ((mustR [w_one, w_size, w_has, w_eq, w_less, w_add, w_sub, w_mul, w_not, w_and, w_or] s).1 : Int))) _)
  unfold callR
  simp only
  split
  · exact (h1.trans (he _ _ _)).trans (kp_must _ _)
  · exact h1.trans (kp_must _ _)
theorem kp_expr : ∀ (n : Nat) (l : List Nod) (b : Bool) (s : Pz), Kp s (exprR n l b s).2
  | 0, _, _, _ => .refl _
  | n + 1, l, b, s => by
    unfold exprR
    split
    · exact ((kp_take _ _).trans (kp_call (kp_expr n) _ _)).trans (kp_nod _ _ _ _ _)
    · exact ((kp_take _ _).trans (kp_leaf _)).trans (kp_nod _ _ _ _ _)
theorem kp_cond (s : Pz) : Kp s (condR s).2 := by
  unfold condR
  split
  · exact kp_take _ _
  · exact (kp_take _ _).trans (kp_expr _ _ _ _)
theorem kp_rule (s : Pz) : Kp s (ruleR s).2 := by
  have h1 := kp_must [w_permit, w_deny] s
  have h2 := h1.trans (kp_name _)
  have h3 := h2.trans (kp_target _)
  have h4 := h3.trans (kp_cond _)
  have h5 := h4.trans (kp_duts _)
  have h6 := h5.trans (kp_must [m_semi] _)
  unfold ruleR
  simp only
  exact h6
theorem kp_met (s : Pz) : Kp s (metR s) := fun _ => ⟨rfl, rfl⟩
theorem kp_rules : ∀ (n : Nat) (l : List Rul) (s : Pz), Kp s (rulesR n l s).2
  | 0, _, _ => .refl _
  | n + 1, l, s => by
    unfold rulesR
    split
    · exact .refl _
    · exact ((((kp_met s).trans (kp_most _ _ _)).trans (kp_most _ _ _)).trans (kp_rule _)).trans (kp_rules n _ _)
theorem kp_kids {po : Pz → Pol × Pz} (hp : ∀ s, Kp s (po s).2) : ∀ (n : Nat) (l : List Pol) (s : Pz), Kp s (kidsR po n l s).2
  | 0, _, _ => .refl _
  | n + 1, l, s => by
    unfold kidsR
    split
    · exact .refl _
    · exact ((kp_most _ _ _).trans (hp _)).trans (kp_kids hp n _ _)
theorem kp_in {f : Nat} (hp : ∀ s, Kp s (polR f s).2) (a : Nat) (s : Pz) : Kp s (inR f a s).2.2 := by
  unfold inR
  split
  · exact kp_kids hp _ _ _
  · exact kp_rules _ _ _
theorem kp_pol : ∀ (f : Nat) (s : Pz), Kp s (polR f s).2
  | 0, s => .refl _
  | f + 1, s => by
    obtain ⟨s0, h0⟩ : ∃ t, mostR (5 - (f : Int)) 4 s = t := ⟨_, rfl⟩
    obtain ⟨a, s1, h1⟩ := pair_eq (mustR [w_policy, w_set] s0)
    obtain ⟨b, s2, h2⟩ := pair_eq (nameR s1)
    obtain ⟨c, s3, h3⟩ := pair_eq (mustR w_algs s2)
    obtain ⟨t, s4, h4⟩ := pair_eq (targetR s3)
    obtain ⟨d, s5, h5⟩ := pair_eq (mustR [m_lb] s4)
    obtain ⟨r, ks, h6⟩ := pair_eq (inR f a s5)
    obtain ⟨k, s6⟩ := ks
    obtain ⟨e, s7, h7⟩ := pair_eq (mustR [m_rb] s6)
    obtain ⟨o, s8, h8⟩ := pair_eq (dutsR s7)
    rw [polR_eq f s h0 h1 h2 h3 h4 h5 h6 h7 h8]
    have k0 : Kp s s0 := h0 ▸ kp_most _ _ _
    have k1 : Kp s0 s1 := by have := kp_must [w_policy, w_set] s0; rwa [h1] at this
    have k2 : Kp s1 s2 := by have := kp_name s1; rwa [h2] at this
    have k3 : Kp s2 s3 := by have := kp_must w_algs s2; rwa [h3] at this
    have k4 : Kp s3 s4 := by have := kp_target s3; rwa [h4] at this
    have k5 : Kp s4 s5 := by have := kp_must [m_lb] s4; rwa [h5] at this
    have k6 : Kp s5 s6 := by have := kp_in (kp_pol f) a s5; rwa [h6] at this
    have k7 : Kp s6 s7 := by have := kp_must [m_rb] s6; rwa [h7] at this
    have k8 : Kp s7 s8 := by have := kp_duts s7; rwa [h8] at this
    exact k0.trans (k1.trans (k2.trans (k3.trans (k4.trans (k5.trans (k6.trans (k7.trans k8)))))))
end
end Go.Proofs.Ythppdgiobflfpaa
