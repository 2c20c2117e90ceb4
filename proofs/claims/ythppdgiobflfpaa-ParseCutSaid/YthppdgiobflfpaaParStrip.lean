/- The parser, plainly: places don't matter to what is read. -/
import Derived.Test.YthppdgiobflfpaaNineA
namespace Go.Proofs.Ythppdgiobflfpaa
set_option linter.unusedVariables false

/-- A token without its place; a state without places. -/
def Tk.z (t : Tk) : Tk := ⟨t.k, 0, t.n, t.s⟩
def Pz.st (s : Pz) : Pz := ⟨s.rest.map Tk.z, s.met, s.err, 0⟩
section
variable {s : Pz}
theorem st_hd : s.st.hd = s.hd.z := by
  unfold Pz.hd Pz.st
  cases s.rest <;> rfl
theorem st_len : s.st.rest.length = s.rest.length := List.length_map ..
theorem st_fail (e a : Int) (s : Pz) : failR e 0 s.st = (failR e a s).st := by
  unfold failR
  show (if s.err = 0 then _ else _) = _
  split <;> simp [Pz.st, List.map_drop]
theorem st_wrong : wrongR s.st = (wrongR s).st := by
  unfold wrongR
  rw [st_hd]
  exact st_fail 5 _ s
theorem st_most (n l : Int) : mostR n l s.st = (mostR n l s).st := by
  unfold mostR
  split
  · rw [st_hd]
    exact st_fail 6 _ s
  · rfl
theorem st_sees (ws : List ByteArray) : seesR ws s.st = seesR ws s := by
  unfold seesR
  rw [st_hd]
  rfl
theorem st_next : nextR s.st = (nextR s).st := by
  unfold nextR
  simp [Pz.st]
theorem st_take (ws : List ByteArray) : takeR ws s.st = ((takeR ws s).1, (takeR ws s).2.st) := by
  unfold takeR
  rw [st_sees]
  split
  · rfl
  · rw [st_next]
theorem st_must (ws : List ByteArray) : mustR ws s.st = ((mustR ws s).1, (mustR ws s).2.st) := by
  unfold mustR
  rw [st_sees]
  split
  · rw [st_wrong]
  · rw [st_next]
theorem st_end : endR s.st = (endR s).st := by
  unfold endR
  rw [st_hd]
  show (if s.hd.k = 7 then _ else _) = _
  split
  · rfl
  · exact st_wrong
theorem st_name : nameR s.st = ((nameR s).1, (nameR s).2.st) := by
  unfold nameR
  rw [st_hd]
  show (if s.hd.k = 1 then _ else _) = _
  split
  · rw [st_next]; rfl
  · rw [st_wrong]
theorem st_cat : catR s.st = ((catR s).1, (catR s).2.st) := st_take _
theorem st_attr (cat : Int) (s : Pz) : attrR cat s.st = ((attrR cat s).1, (attrR cat s).2.st) := by
  have h0 : (if cat = 0 then wrongR s.st else s.st) = (if cat = 0 then wrongR s else s).st := by
    split
    · exact st_wrong
    · rfl
  unfold attrR
  simp only
  rw [h0, st_must]
  simp only
  rw [st_name]
  simp only
  rw [st_take]
theorem st_value (s : Pz) : valueR s.st = ((valueR s).1, (valueR s).2.st) := by
  unfold valueR
  rw [st_hd, st_must, st_next]
  show (if kindR s.hd.k = 1 then _ else _) = _
  split <;> rfl
theorem st_match (s : Pz) : matchR s.st = ((matchR s).1, (matchR s).2.st) := by
  unfold matchR
  simp only
  rw [st_cat]
  simp only
  rw [st_attr]
  simp only
  rw [st_must]
  simp only
  rw [st_value]
theorem st_leaf (s : Pz) : leafR s.st = ((leafR s).1, (leafR s).2.st) := by
  unfold leafR
  rw [st_cat]
  simp only
  rw [st_attr, st_value]
  split <;> rfl
theorem st_row {α : Type} {one : Pz → α × Pz} {btw : ByteArray} (ho : ∀ s : Pz, one s.st = ((one s).1, (one s).2.st)) : ∀ (n : Nat) (l : List α) (s : Pz), rowR one btw n l s.st = ((rowR one btw n l s).1, (rowR one btw n l s).2.st)
  | 0, l, s => rfl
  | n + 1, l, s => by
    unfold rowR
    simp only
    rw [ho]
    simp only
    rw [st_most, st_take]
    simp only
    split
    · rfl
    · exact st_row ho n _ _
theorem st_allOf (s : Pz) : allOfR s.st = ((allOfR s).1, (allOfR s).2.st) := by
  unfold allOfR
  rw [st_len]
  exact st_row st_match _ _ _
theorem st_anyOf (s : Pz) : anyOfR s.st = ((anyOfR s).1, (anyOfR s).2.st) := by
  unfold anyOfR
  simp only
  rw [st_must]
  simp only
  rw [st_len, st_row st_allOf]
  simp only
  rw [st_must]
theorem st_target (s : Pz) : targetR s.st = ((targetR s).1, (targetR s).2.st) := by
  unfold targetR
  rw [st_take]
  simp only
  split
  · rfl
  · rw [st_len, st_row st_anyOf]
theorem st_duties : ∀ (n : Nat) (l : List Dut) (s : Pz), dutiesR n l s.st = ((dutiesR n l s).1, (dutiesR n l s).2.st)
  | 0, l, s => rfl
  | n + 1, l, s => by
    unfold dutiesR
    rw [st_take]
    simp only
    split
    · rfl
    · rw [st_must]
      simp only
      rw [st_must]
      simp only
      rw [st_name]
      simp only
      rw [st_most]
      exact st_duties n _ _
theorem st_duts (s : Pz) : dutsR s.st = ((dutsR s).1, (dutsR s).2.st) := by
  unfold dutsR
  rw [st_len]
  exact st_duties _ _ _
theorem st_nod (bag : Bool) (p : Int) (l : List Nod) (n : Nod) (s : Pz) : nodR bag 0 l n s.st = ((nodR bag p l n s).1, (nodR bag p l n s).2.st) := by
  unfold nodR
  rw [st_most]
  split
  · rw [st_fail 5 p]
  · rfl
theorem st_call {ex : List Nod → Bool → Pz → List Nod × Pz} (he : ∀ l b s, ex l b (Pz.st s) = ((ex l b s).1, (ex l b s).2.st)) (l : List Nod) (s : Pz) : callR ex l s.st = ((callR ex l s).1, (callR ex l s).2.1, (callR ex l s).2.2.st) := by
  unfold callR
  simp only
  rw [st_must]
  simp only
  rw [he]
  simp only
  rw [he]
  split
  · simp only
    rw [st_must]
  · simp only
    rw [st_must]
theorem st_expr : ∀ (n : Nat) (l : List Nod) (b : Bool) (s : Pz), exprR n l b s.st = ((exprR n l b s).1, (exprR n l b s).2.st)
  | 0, _, _, _ => rfl
  | n + 1, l, b, s => by
    unfold exprR
    rw [st_take, st_hd]
    simp only
    split
    · rw [st_call (st_expr n)]
      exact st_nod b s.hd.p _ _ _
    · rw [st_leaf]
      exact st_nod b s.hd.p _ _ _
theorem st_cond (s : Pz) : condR s.st = ((condR s).1, (condR s).2.st) := by
  unfold condR
  rw [st_take]
  simp only
  split
  · rfl
  · rw [st_len, st_expr]
theorem st_rule (s : Pz) : ruleR s.st = ((ruleR s).1, (ruleR s).2.st) := by
  unfold ruleR
  simp only
  rw [st_must]
  simp only
  rw [st_name]
  simp only
  rw [st_target]
  simp only
  rw [st_cond]
  simp only
  rw [st_duts]
  simp only
  rw [st_must]
theorem st_met : metR s.st = (metR s).st := rfl
theorem st_rules : ∀ (n : Nat) (l : List Rul) (s : Pz), rulesR n l s.st = ((rulesR n l s).1, (rulesR n l s).2.st)
  | 0, _, _ => rfl
  | n + 1, l, s => by
    unfold rulesR
    rw [st_sees]
    split
    · rfl
    · simp only
      rw [st_met, st_most]
      have e : ∀ x : Pz, x.st.met = x.met := fun _ => rfl
      rw [e, st_most, st_rule]
      simp only
      exact st_rules n _ _
theorem st_kids {po : Pz → Pol × Pz} (hp : ∀ s : Pz, po s.st = ((po s).1, (po s).2.st)) : ∀ (n : Nat) (l : List Pol) (s : Pz), kidsR po n l s.st = ((kidsR po n l s).1, (kidsR po n l s).2.st)
  | 0, _, _ => rfl
  | n + 1, l, s => by
    unfold kidsR
    rw [st_sees]
    split
    · rfl
    · simp only
      rw [st_most, hp]
      simp only
      exact st_kids hp n _ _
theorem st_in {f : Nat} (hp : ∀ s : Pz, polR f s.st = ((polR f s).1, (polR f s).2.st)) (a : Nat) (s : Pz) : inR f a s.st = ((inR f a s).1, (inR f a s).2.1, (inR f a s).2.2.st) := by
  unfold inR
  split
  · rw [st_len, st_kids hp]
  · rw [st_len, st_rules]
theorem st_pol : ∀ (f : Nat) (s : Pz), polR f s.st = ((polR f s).1, (polR f s).2.st)
  | 0, s => rfl
  | f + 1, s => by
    obtain ⟨s0, h0⟩ : ∃ t, mostR (5 - (f : Int)) 4 s = t := ⟨_, rfl⟩
    obtain ⟨a, s1, h1⟩ := pair_eq (mustR [w_policy, w_set] s0)
    obtain ⟨b, s2, h2⟩ := pair_eq (nameR s1)
    obtain ⟨c, s3, h3⟩ := pair_eq (mustR w_algs s2)
    obtain ⟨t, s4, h4⟩ := pair_eq (targetR s3)
    obtain ⟨d, s5, h5⟩ := pair_eq (mustR [m_lb] s4)
    obtain ⟨r, ks, h6⟩ := pair_eq (inR f a s5)
    obtain ⟨k, s6⟩ := ks
    obtain ⟨e, s7, h7⟩ := pair_eq (mustR [m_rb] s6)
    obtain ⟨o, s8, h8⟩ := pair_eq (dutsR s7)
    rw [polR_eq f s h0 h1 h2 h3 h4 h5 h6 h7 h8]
    exact polR_eq f s.st (by rw [st_most, h0]) (by rw [st_must, h1]) (by rw [st_name, h2]) (by rw [st_must, h3]) (by rw [st_target, h4]) (by rw [st_must, h5]) (by rw [st_in (st_pol f), h6]) (by rw [st_must, h7]) (by rw [st_duts, h8])
/-- Tokens that are the same but for their places are read as the same. -/
theorem read_same {a b : List Tk} (h : a.map Tk.z = b.map Tk.z) : (polR 5 ⟨a, 0, 0, 0⟩).1 = (polR 5 ⟨b, 0, 0, 0⟩).1 ∧ (endR (polR 5 ⟨a, 0, 0, 0⟩).2).err = (endR (polR 5 ⟨b, 0, 0, 0⟩).2).err := by
  have ha := st_pol 5 ⟨a, 0, 0, 0⟩
  have hb := st_pol 5 ⟨b, 0, 0, 0⟩
  have e : (⟨a, 0, 0, 0⟩ : Pz).st = (⟨b, 0, 0, 0⟩ : Pz).st := by
    show (⟨a.map Tk.z, 0, 0, 0⟩ : Pz) = ⟨b.map Tk.z, 0, 0, 0⟩
    rw [h]
  rw [e, hb] at ha
  obtain ⟨p, sa, hpa⟩ := pair_eq (polR 5 ⟨a, 0, 0, 0⟩)
  obtain ⟨q, sb, hpb⟩ := pair_eq (polR 5 ⟨b, 0, 0, 0⟩)
  rw [hpa, hpb] at ha ⊢
  simp only [Prod.mk.injEq] at ha
  refine ⟨ha.1.symm, ?_⟩
  have h1 : (endR sa.st).err = (endR sa).err := by rw [st_end]; rfl
  have h2 : (endR sb.st).err = (endR sb).err := by rw [st_end]; rfl
  rw [← h1, ← h2, ha.2]
end
end Go.Proofs.Ythppdgiobflfpaa
