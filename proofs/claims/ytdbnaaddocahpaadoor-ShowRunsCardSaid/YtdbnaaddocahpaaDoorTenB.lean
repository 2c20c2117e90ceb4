/- Several texts in one: ParTok, ParStrip, ParBlanks, ParEval, ParToks, LexNumM, VShowM, LexVal, ShowTok, ShowRead, ShowExpr, VBox, PolMem, VNameV, VRightV, PolLeaf, PolCut, VEq. -/
import Derived.Test.YtdbnaaddocahpaaDoorTenA
import Derived.Laws.StructEq
import Derived.Laws.Tables
import Derived.Laws.Cover2
/- The parser, plainly: the tokens it begins with; what it answers. -/
namespace Go.Proofs.YtdbnaaddocahpaaDoor
set_option linter.unusedVariables false

theorem decD_le {most : Nat} {d : List UInt8} {x : Nat} (h : decD most d = some x) : x ≤ most := by
  unfold decD at h
  split at h
  · cases h
  · rename_i hn
    cases h
    exact Nat.le_of_not_lt fun h => hn (.inr (.inr h))
/-- A token's numbers are such as Go has. -/
theorem tokB_in {l : List UInt8} {k n : Int} {s : List UInt8} {m : Nat} (h : tokB l = some (k, n, s, m)) : (1 ≤ k ∧ k ≤ 6) ∧ InI n := by
  cases l with
  | nil => cases h
  | cons c r =>
    rw [tokB] at h
    have z : InI 0 := by unfold InI; omega
    split at h
    · split at h
      · cases h; exact ⟨by omega, z⟩
      · cases h
    · split at h
      · cases hq : decD 9223372036854775807 ((c :: r).takeWhile dgt) with
        | none => rw [hq] at h; cases h
        | some x =>
          have := decD_le hq
          rw [hq] at h
          cases h
          exact ⟨by omega, by unfold InI; omega⟩
      · split at h
        · cases hq : decD 9223372036854775808 (r.takeWhile dgt) with
          | none => rw [hq] at h; cases h
          | some x =>
            have := decD_le hq
            rw [hq] at h
            simp only [Option.bind_some] at h
            split at h
            · cases h
            · cases h; exact ⟨by omega, by unfold InI; omega⟩
        · split at h
          · cases hq : decD 1099511627776 (r.takeWhile dgt) with
            | none => rw [hq] at h; cases h
            | some x =>
              have := decD_le hq
              rw [hq] at h; cases h; exact ⟨by omega, by unfold InI; omega⟩
          · split at h
            · split at h
              · cases h; exact ⟨by omega, z⟩
              · cases h
            · split at h
              · cases hq : qtB r with
                | none => rw [hq] at h; cases h
                | some q =>
                  rw [hq] at h
                  simp only [Option.bind_some] at h
                  split at h
                  · cases h; exact ⟨by omega, z⟩
                  · cases h
              · split at h
                · cases h; exact ⟨by omega, z⟩
                · cases h
theorem lexB_in : ∀ (n : Nat) (l : List UInt8) (p : Nat) (ts : List Tk), l.length ≤ n → lexB l p = .ok ts → ∀ t ∈ ts, InI t.k ∧ InI t.n ∧ t.s.size ≤ l.length
  | n, [], p, ts, _, h => by
    rw [lexB_nil] at h
    cases h
    intro t ht
    simp at ht
    subst ht
    refine ⟨by unfold InI; simp, by unfold InI; simp, Nat.zero_le _⟩
  | 0, c :: r, p, ts, hl, h => by simp at hl
  | n + 1, c :: r, p, ts, hl, h => by
    cases hb : blk c with
    | true =>
      rw [lexB_blank hb] at h
      intro t ht
      obtain ⟨a, b, c⟩ := lexB_in n r (p + 1) ts (by simpa using hl) h t ht
      exact ⟨a, b, by simp only [List.length_cons]; omega⟩
    | false =>
      cases hq : tokB (c :: r) with
      | none => rw [lexB_bad hb hq] at h; cases h
      | some q =>
        obtain ⟨k, m, s, j⟩ := q
        rw [lexB_tok hb hq] at h
        obtain ⟨j1, j2, j3⟩ := tokB_pos hq
        obtain ⟨⟨k1, k2⟩, hn⟩ := tokB_in hq
        cases hr : lexB ((c :: r).drop j) (p + j) with
        | error e => rw [hr] at h; cases h
        | ok us =>
          rw [hr] at h
          simp only [cat, Except.ok.injEq] at h
          subst h
          intro t ht
          rcases List.mem_append.1 ht with ht | ht
          · simp at ht
            subst ht
            exact ⟨in_small (by show -100 ≤ k; omega) (by show k ≤ 100; omega), hn, by show s.toArray.size ≤ _; simp only [List.size_toArray]; omega⟩
          · obtain ⟨a, b, d⟩ := lexB_in n _ _ us (by simp only [List.length_drop]; simp only [List.length_cons] at hl ⊢; omega) hr t ht
            exact ⟨a, b, by simp only [List.length_drop] at d; omega⟩
/-- The state that the parser begins with. -/
theorem start_ok {s : ByteArray} {ts : List Tk} (hs : s.size ≤ 4096) (h : lexB s.data.toList 0 = .ok ts) : (⟨ts, 0, 0, 0⟩ : Pz).ok s.size ∧ ts.length ≤ 4097 := by
  have hl : s.data.toList.length = s.size := rfl
  obtain ⟨us, e, hu⟩ := lexB_ne _ _ 0 ts (Nat.le_refl _) h
  have hp := lexB_places _ _ 0 ts (Nat.le_refl _) h
  have hi := lexB_in _ _ 0 ts (Nat.le_refl _) h
  rw [hl] at hu hp hi
  have hlen : ts.length ≤ 4097 := by rw [e]; simp; omega
  refine ⟨⟨⟨_, by rw [e]; exact List.getLast?_concat, rfl⟩, fun t ht => ?_, ⟨by show ts.length ≤ 5000; omega, by show 0 + ts.length ≤ 6000; omega, hs⟩, .inl rfl, Int.le_refl _, by show (0 : Int) ≤ (s.size : Int); omega⟩, hlen⟩
  obtain ⟨a, b, c⟩ := hi t ht
  obtain ⟨d, f⟩ := hp t ht
  exact ⟨a, ⟨by omega, by omega⟩, b, by unfold maxLen; omega⟩
theorem pair_eq {α β : Type} (x : α × β) : ∃ a b, x = (a, b) := ⟨x.1, x.2, rfl⟩
/-- What parseR comes to. -/
theorem parseR_big {s : ByteArray} (h : 4096 < s.size) : parseR s = (noPol, 6, 4096) := by unfold parseR; rw [if_pos h]
theorem parseR_bad {s : ByteArray} {p : Nat} (h : s.size ≤ 4096) (hl : lexB s.data.toList 0 = .error p) : parseR s = (noPol, 5, (p : Int)) := by unfold parseR; rw [if_neg (by omega), hl]
theorem parseR_ok {s : ByteArray} {ts : List Tk} {p : Pol} {s1 z : Pz} (h : s.size ≤ 4096) (hl : lexB s.data.toList 0 = .ok ts) (hp : polR 5 ⟨ts, 0, 0, 0⟩ = (p, s1)) (hz : endR s1 = z) :
    parseR s = if z.err = 0 then (if rightE p = 0 then (p, 0, 0) else (noPol, 5, (s.size : Int))) else (noPol, z.err, z.at_) := by
  unfold parseR
  rw [if_neg (by omega), hl]
  simp only [hp, hz]
/-- An error is one of the two, and its place is in the text. -/
theorem parseR_err (s : ByteArray) (hs : s.size ≤ 4096) : (parseR s).2.1 = 0 ∧ (parseR s).2.2 = 0 ∧ rightE (parseR s).1 = 0 ∨ ((parseR s).2.1 = 5 ∨ (parseR s).2.1 = 6) ∧ (parseR s).1 = noPol ∧ 0 ≤ (parseR s).2.2 ∧ (parseR s).2.2 ≤ (s.size : Int) := by
  cases hl : lexB s.data.toList 0 with
  | error p =>
    rw [parseR_bad hs hl]
    have := lexB_err_le _ _ 0 p (Nat.le_refl _) hl
    have e : s.data.toList.length = s.size := rfl
    exact .inr ⟨.inl rfl, rfl, by show (0 : Int) ≤ (p : Int); omega, by show (p : Int) ≤ _; omega⟩
  | ok ts =>
    obtain ⟨h0, hlen⟩ := start_ok hs hl
    have g := (pol_go (L := s.size) 4 ⟨ts, 0, 0, 0⟩ h0 (by show 0 + ts.length ≤ 5990; omega)).1
    obtain ⟨q, s1, hq⟩ := pair_eq (polR 5 ⟨ts, 0, 0, 0⟩)
    change Goes _ _ (polR 5 _).2 at g
    rw [hq] at g
    have k := (end_go g.1).1
    obtain ⟨z, hz⟩ : ∃ z, endR s1 = z := ⟨_, rfl⟩
    rw [parseR_ok hs hl hq hz]
    change (endR s1).ok _ at k
    rw [hz] at k
    split
    · split
      · rename_i hr
        exact .inl ⟨rfl, rfl, hr⟩
      · exact .inr ⟨.inl rfl, rfl, by show (0 : Int) ≤ (s.size : Int); omega, Int.le_refl _⟩
    · rename_i he
      exact .inr ⟨k.2.2.2.1.resolve_left he, rfl, k.2.2.2.2.1, k.2.2.2.2.2⟩
end Go.Proofs.YtdbnaaddocahpaaDoor
/- The parser, plainly: places don't matter to what is read. -/
namespace Go.Proofs.YtdbnaaddocahpaaDoor
set_option linter.unusedVariables false

/-- A token without its place; a state without places. -/
def Tk.z (t : Tk) : Tk := ⟨t.k, 0, t.n, t.s⟩
def Pz.st (s : Pz) : Pz := ⟨s.rest.map Tk.z, s.met, s.err, 0⟩
section
variable {s : Pz}
theorem st_hd : s.st.hd = s.hd.z := by
  unfold Pz.hd Pz.st
  cases s.rest <;> rfl
theorem st_len : s.st.rest.length = s.rest.length := List.length_map ..
theorem st_fail (e a : Int) (s : Pz) : failR e 0 s.st = (failR e a s).st := by
  unfold failR
  show (if s.err = 0 then _ else _) = _
  split <;> simp [Pz.st, List.map_drop]
theorem st_wrong : wrongR s.st = (wrongR s).st := by
  unfold wrongR
  rw [st_hd]
  exact st_fail 5 _ s
theorem st_most (n l : Int) : mostR n l s.st = (mostR n l s).st := by
  unfold mostR
  split
  · rw [st_hd]
    exact st_fail 6 _ s
  · rfl
theorem st_sees (ws : List ByteArray) : seesR ws s.st = seesR ws s := by
  unfold seesR
  rw [st_hd]
  rfl
theorem st_next : nextR s.st = (nextR s).st := by
  unfold nextR
  simp [Pz.st]
theorem st_take (ws : List ByteArray) : takeR ws s.st = ((takeR ws s).1, (takeR ws s).2.st) := by
  unfold takeR
  rw [st_sees]
  split
  · rfl
  · rw [st_next]
theorem st_must (ws : List ByteArray) : mustR ws s.st = ((mustR ws s).1, (mustR ws s).2.st) := by
  unfold mustR
  rw [st_sees]
  split
  · rw [st_wrong]
  · rw [st_next]
theorem st_end : endR s.st = (endR s).st := by
  unfold endR
  rw [st_hd]
  show (if s.hd.k = 7 then _ else _) = _
  split
  · rfl
  · exact st_wrong
theorem st_name : nameR s.st = ((nameR s).1, (nameR s).2.st) := by
  unfold nameR
  rw [st_hd]
  show (if s.hd.k = 1 then _ else _) = _
  split
  · rw [st_next]; rfl
  · rw [st_wrong]
theorem st_cat : catR s.st = ((catR s).1, (catR s).2.st) := st_take _
theorem st_attr (cat : Int) (s : Pz) : attrR cat s.st = ((attrR cat s).1, (attrR cat s).2.st) := by
  have h0 : (if cat = 0 then wrongR s.st else s.st) = (if cat = 0 then wrongR s else s).st := by
    split
    · exact st_wrong
    · rfl
  unfold attrR
  simp only
  rw [h0, st_must]
  simp only
  rw [st_name]
  simp only
  rw [st_take]
theorem st_value (s : Pz) : valueR s.st = ((valueR s).1, (valueR s).2.st) := by
  unfold valueR
  rw [st_hd, st_must, st_next]
  show (if kindR s.hd.k = 1 then _ else _) = _
  split <;> rfl
theorem st_match (s : Pz) : matchR s.st = ((matchR s).1, (matchR s).2.st) := by
  unfold matchR
  simp only
  rw [st_cat]
  simp only
  rw [st_attr]
  simp only
  rw [st_must]
  simp only
  rw [st_value]
theorem st_leaf (s : Pz) : leafR s.st = ((leafR s).1, (leafR s).2.st) := by
  unfold leafR
  rw [st_cat]
  simp only
  rw [st_attr, st_value]
  split <;> rfl
theorem st_row {α : Type} {one : Pz → α × Pz} {btw : ByteArray} (ho : ∀ s : Pz, one s.st = ((one s).1, (one s).2.st)) : ∀ (n : Nat) (l : List α) (s : Pz), rowR one btw n l s.st = ((rowR one btw n l s).1, (rowR one btw n l s).2.st)
  | 0, l, s => rfl
  | n + 1, l, s => by
    unfold rowR
    simp only
    rw [ho]
    simp only
    rw [st_most, st_take]
    simp only
    split
    · rfl
    · exact st_row ho n _ _
theorem st_allOf (s : Pz) : allOfR s.st = ((allOfR s).1, (allOfR s).2.st) := by
  unfold allOfR
  rw [st_len]
  exact st_row st_match _ _ _
theorem st_anyOf (s : Pz) : anyOfR s.st = ((anyOfR s).1, (anyOfR s).2.st) := by
  unfold anyOfR
  simp only
  rw [st_must]
  simp only
  rw [st_len, st_row st_allOf]
  simp only
  rw [st_must]
theorem st_target (s : Pz) : targetR s.st = ((targetR s).1, (targetR s).2.st) := by
  unfold targetR
  rw [st_take]
  simp only
  split
  · rfl
  · rw [st_len, st_row st_anyOf]
theorem st_duties : ∀ (n : Nat) (l : List Dut) (s : Pz), dutiesR n l s.st = ((dutiesR n l s).1, (dutiesR n l s).2.st)
  | 0, l, s => rfl
  | n + 1, l, s => by
    unfold dutiesR
    rw [st_take]
    simp only
    split
    · rfl
    · rw [st_must]
      simp only
      rw [st_must]
      simp only
      rw [st_name]
      simp only
      rw [st_most]
      exact st_duties n _ _
theorem st_duts (s : Pz) : dutsR s.st = ((dutsR s).1, (dutsR s).2.st) := by
  unfold dutsR
  rw [st_len]
  exact st_duties _ _ _
theorem st_nod (bag : Bool) (p : Int) (l : List Nod) (n : Nod) (s : Pz) : nodR bag 0 l n s.st = ((nodR bag p l n s).1, (nodR bag p l n s).2.st) := by
  unfold nodR
  rw [st_most]
  split
  · rw [st_fail 5 p]
  · rfl
theorem st_call {ex : List Nod → Bool → Pz → List Nod × Pz} (he : ∀ l b s, ex l b (Pz.st s) = ((ex l b s).1, (ex l b s).2.st)) (l : List Nod) (s : Pz) : callR ex l s.st = ((callR ex l s).1, (callR ex l s).2.1, (callR ex l s).2.2.st) := by
  unfold callR
  simp only
  rw [st_must]
  simp only
  rw [he]
  simp only
  rw [he]
  split
  · simp only
    rw [st_must]
  · simp only
    rw [st_must]
theorem st_expr : ∀ (n : Nat) (l : List Nod) (b : Bool) (s : Pz), exprR n l b s.st = ((exprR n l b s).1, (exprR n l b s).2.st)
  | 0, _, _, _ => rfl
  | n + 1, l, b, s => by
    unfold exprR
    rw [st_take, st_hd]
    simp only
    split
    · rw [st_call (st_expr n)]
      exact st_nod b s.hd.p _ _ _
    · rw [st_leaf]
      exact st_nod b s.hd.p _ _ _
theorem st_cond (s : Pz) : condR s.st = ((condR s).1, (condR s).2.st) := by
  unfold condR
  rw [st_take]
  simp only
  split
  · rfl
  · rw [st_len, st_expr]
theorem st_rule (s : Pz) : ruleR s.st = ((ruleR s).1, (ruleR s).2.st) := by
  unfold ruleR
  simp only
  rw [st_must]
  simp only
  rw [st_name]
  simp only
  rw [st_target]
  simp only
  rw [st_cond]
  simp only
  rw [st_duts]
  simp only
  rw [st_must]
theorem st_met : metR s.st = (metR s).st := rfl
theorem st_rules : ∀ (n : Nat) (l : List Rul) (s : Pz), rulesR n l s.st = ((rulesR n l s).1, (rulesR n l s).2.st)
  | 0, _, _ => rfl
  | n + 1, l, s => by
    unfold rulesR
    rw [st_sees]
    split
    · rfl
    · simp only
      rw [st_met, st_most]
      have e : ∀ x : Pz, x.st.met = x.met := fun _ => rfl
      rw [e, st_most, st_rule]
      simp only
      exact st_rules n _ _
theorem st_kids {po : Pz → Pol × Pz} (hp : ∀ s : Pz, po s.st = ((po s).1, (po s).2.st)) : ∀ (n : Nat) (l : List Pol) (s : Pz), kidsR po n l s.st = ((kidsR po n l s).1, (kidsR po n l s).2.st)
  | 0, _, _ => rfl
  | n + 1, l, s => by
    unfold kidsR
    rw [st_sees]
    split
    · rfl
    · simp only
      rw [st_most, hp]
      simp only
      exact st_kids hp n _ _
theorem st_in {f : Nat} (hp : ∀ s : Pz, polR f s.st = ((polR f s).1, (polR f s).2.st)) (a : Nat) (s : Pz) : inR f a s.st = ((inR f a s).1, (inR f a s).2.1, (inR f a s).2.2.st) := by
  unfold inR
  split
  · rw [st_len, st_kids hp]
  · rw [st_len, st_rules]
theorem st_pol : ∀ (f : Nat) (s : Pz), polR f s.st = ((polR f s).1, (polR f s).2.st)
  | 0, s => rfl
  | f + 1, s => by
    obtain ⟨s0, h0⟩ : ∃ t, mostR (5 - (f : Int)) 4 s = t := ⟨_, rfl⟩
    obtain ⟨a, s1, h1⟩ := pair_eq (mustR [w_policy, w_set] s0)
    obtain ⟨b, s2, h2⟩ := pair_eq (nameR s1)
    obtain ⟨c, s3, h3⟩ := pair_eq (mustR w_algs s2)
    obtain ⟨t, s4, h4⟩ := pair_eq (targetR s3)
    obtain ⟨d, s5, h5⟩ := pair_eq (mustR [m_lb] s4)
    obtain ⟨r, ks, h6⟩ := pair_eq (inR f a s5)
    obtain ⟨k, s6⟩ := ks
    obtain ⟨e, s7, h7⟩ := pair_eq (mustR [m_rb] s6)
    obtain ⟨o, s8, h8⟩ := pair_eq (dutsR s7)
    rw [polR_eq f s h0 h1 h2 h3 h4 h5 h6 h7 h8]
    exact polR_eq f s.st (by rw [st_most, h0]) (by rw [st_must, h1]) (by rw [st_name, h2]) (by rw [st_must, h3]) (by rw [st_target, h4]) (by rw [st_must, h5]) (by rw [st_in (st_pol f), h6]) (by rw [st_must, h7]) (by rw [st_duts, h8])
/-- Tokens that are the same but for their places are read as the same. -/
theorem read_same {a b : List Tk} (h : a.map Tk.z = b.map Tk.z) : (polR 5 ⟨a, 0, 0, 0⟩).1 = (polR 5 ⟨b, 0, 0, 0⟩).1 ∧ (endR (polR 5 ⟨a, 0, 0, 0⟩).2).err = (endR (polR 5 ⟨b, 0, 0, 0⟩).2).err := by
  have ha := st_pol 5 ⟨a, 0, 0, 0⟩
  have hb := st_pol 5 ⟨b, 0, 0, 0⟩
  have e : (⟨a, 0, 0, 0⟩ : Pz).st = (⟨b, 0, 0, 0⟩ : Pz).st := by
    show (⟨a.map Tk.z, 0, 0, 0⟩ : Pz) = ⟨b.map Tk.z, 0, 0, 0⟩
    rw [h]
  rw [e, hb] at ha
  obtain ⟨p, sa, hpa⟩ := pair_eq (polR 5 ⟨a, 0, 0, 0⟩)
  obtain ⟨q, sb, hpb⟩ := pair_eq (polR 5 ⟨b, 0, 0, 0⟩)
  rw [hpa, hpb] at ha ⊢
  simp only [Prod.mk.injEq] at ha
  refine ⟨ha.1.symm, ?_⟩
  have h1 : (endR sa.st).err = (endR sa).err := by rw [st_end]; rfl
  have h2 : (endR sb.st).err = (endR sb).err := by rw [st_end]; rfl
  rw [← h1, ← h2, ha.2]
end
end Go.Proofs.YtdbnaaddocahpaaDoor
/- ParseBlanks, plainly: blanks ahead and behind change nothing. -/
namespace Go.Proofs.YtdbnaaddocahpaaDoor
set_option linter.unusedVariables false

/-- What is read without an error. -/
theorem parseR_fine {s : ByteArray} {p : Pol} {i : Int} (hs : s.size ≤ 4096) (h : parseR s = (p, 0, i)) : ∃ ts, lexB s.data.toList 0 = .ok ts ∧ (polR 5 ⟨ts, 0, 0, 0⟩).1 = p ∧ (endR (polR 5 ⟨ts, 0, 0, 0⟩).2).err = 0 ∧ rightE p = 0 ∧ i = 0 := by
  cases hl : lexB s.data.toList 0 with
  | error q => rw [parseR_bad hs hl] at h; simp at h
  | ok ts =>
    obtain ⟨q, s1, hq⟩ := pair_eq (polR 5 ⟨ts, 0, 0, 0⟩)
    obtain ⟨z, hz⟩ : ∃ z, endR s1 = z := ⟨_, rfl⟩
    rw [parseR_ok hs hl hq hz] at h
    split at h
    · rename_i he
      split at h
      · rename_i hr
        simp only [Prod.mk.injEq] at h
        obtain ⟨rfl, _, hi⟩ := h
        exact ⟨ts, rfl, by rw [hq], by rw [hq, hz]; exact he, hr, hi.symm⟩
      · simp at h
    · rename_i he
      simp only [Prod.mk.injEq] at h
      exact absurd h.2.1 he
theorem parseR_of {s : ByteArray} {ts : List Tk} {p : Pol} (hs : s.size ≤ 4096) (hl : lexB s.data.toList 0 = .ok ts) (hp : (polR 5 ⟨ts, 0, 0, 0⟩).1 = p) (he : (endR (polR 5 ⟨ts, 0, 0, 0⟩).2).err = 0) (hr : rightE p = 0) : parseR s = (p, 0, 0) := by
  obtain ⟨q, s1, hq⟩ := pair_eq (polR 5 ⟨ts, 0, 0, 0⟩)
  obtain ⟨z, hz⟩ : ∃ z, endR s1 = z := ⟨_, rfl⟩
  rw [hq] at hp he
  simp only at hp
  subst hp
  change (endR s1).err = 0 at he
  rw [hz] at he
  rw [parseR_ok hs hl hq hz, if_pos he, if_pos hr]
theorem z_sh (d : Nat) (t : Tk) : (shT d t).z = t.z := rfl
theorem lexB_blanks : ∀ (g : List UInt8) (p : Nat), (∀ c ∈ g, blk c = true) → lexB g p = .ok [⟨7, ((p + g.length : Nat) : Int), 0, ⟨#[]⟩⟩] := by
  intro g p hg
  have := lexB_ahead g [] p hg
  rw [List.append_nil] at this
  rw [this, lexB_nil]
/-- .. and what stands there is the same but for its places. -/
theorem blanks_toks {g a : List UInt8} {ts : List Tk} (hg : ∀ c ∈ g, blk c = true) (h : lexB a 0 = .ok ts) : ∃ us, lexB ((10 :: g) ++ (a ++ (10 :: g))) 0 = .ok us ∧ us.map Tk.z = ts.map Tk.z := by
  have hg' : ∀ c ∈ (10 :: g), blk c = true := by
    intro c hc
    rcases List.mem_cons.1 hc with rfl | hc
    · decide
    · exact hg c hc
  rw [lexB_ahead _ _ _ hg', lexB_from, lexB_join (.inr rfl) h, lexB_blanks g _ hg]
  refine ⟨_, rfl, ?_⟩
  obtain ⟨us, e, _⟩ := lexB_ne _ _ 0 ts (Nat.le_refl _) h
  rw [e]
  simp [Tk.z, shT]
theorem blanks_read {s t : ByteArray} {p : Pol} {i : Int} {g : List UInt8} (hs : s.size ≤ 600) (h : parseR s = (p, 0, i)) (hg : ∀ c ∈ g, blk c = true) (hgl : g.length ≤ 10) (ht : t.data.toList = (10 :: g) ++ (s.data.toList ++ (10 :: g))) : parseR t = (p, 0, 0) := by
  obtain ⟨ts, hl, hp, he, hr, _⟩ := parseR_fine (by omega) h
  obtain ⟨us, hu, hz⟩ := blanks_toks hg hl
  have e := read_same hz
  have hsz : t.size = (10 :: g).length + (s.size + (10 :: g).length) := by
    have : t.size = t.data.toList.length := rfl
    rw [this, ht, List.length_append, List.length_append]
    rfl
  refine parseR_of (by simp only [List.length_cons] at hsz; omega) (by rw [ht]; exact hu) (e.1.trans hp) (e.2.trans he) hr
end Go.Proofs.YtdbnaaddocahpaaDoor
/- The parser, plainly: closed texts are read by reckoning. -/
namespace Go.Proofs.YtdbnaaddocahpaaDoor
set_option linter.unusedVariables false

/-- lexB, by how many steps it may go. -/
def lexF : Nat → List UInt8 → Nat → Except Nat (List Tk)
  | 0, _, _ => .error 0
  | n + 1, [], p => .ok [⟨7, p, 0, ⟨#[]⟩⟩]
  | n + 1, c :: r, p => if blk c = true then lexF n r (p + 1) else
      match tokB (c :: r) with
      | none => .error p
      | some (k, m, s, j) => cat [⟨k, p, m, ⟨s.toArray⟩⟩] (lexF n ((c :: r).drop j) (p + j))
theorem lexF_eq : ∀ (n : Nat) (l : List UInt8) (p : Nat), l.length < n → lexF n l p = lexB l p
  | 0, _, _, h => by omega
  | n + 1, [], p, h => by rw [lexB_nil]; rfl
  | n + 1, c :: r, p, h => by
    simp only [List.length_cons] at h
    unfold lexF
    cases hb : blk c with
    | true => rw [if_pos rfl, lexB_blank hb, lexF_eq n r (p + 1) (by omega)]
    | false =>
      rw [if_neg (by simp)]
      cases hq : tokB (c :: r) with
      | none => rw [lexB_bad hb hq]
      | some q =>
        obtain ⟨k, m, s, j⟩ := q
        have := (tokB_pos hq).1
        rw [lexB_tok hb hq]
        simp only
        rw [lexF_eq n _ (p + j) (by simp only [List.length_drop, List.length_cons]; omega)]
def parseF (n : Nat) (l : List UInt8) : Pol × Int × Int :=
  if 4096 < l.length then (noPol, 6, 4096) else
  match lexF n l 0 with
  | .error p => (noPol, 5, (p : Int))
  | .ok ts =>
    let u := polR 5 ⟨ts, 0, 0, 0⟩
    let z := endR u.2
    if z.err = 0 then (if rightE u.1 = 0 then (u.1, 0, 0) else (noPol, 5, (l.length : Int))) else (noPol, z.err, z.at_)
theorem parseF_eq (s : ByteArray) : parseR s = parseF (s.data.toList.length + 1) s.data.toList := by
  unfold parseR parseF
  rw [lexF_eq _ _ 0 (Nat.lt_succ_self _)]
  rfl
theorem parse_eval {s : ByteArray} {n : Nat} {x : Pol × Int × Int} (h : parseF (n + 1) s.data.toList = x) (hn : s.data.toList.length = n) : parseR s = x := by
  rw [parseF_eq, hn, h]
theorem run_b : parseR ⟨#[112, 111, 108, 105, 99, 121, 32, 112, 32, 111, 110, 108, 121, 32, 123, 32, 125]⟩ = (noPol, 5, 17) := parse_eval (n := 17) (by kernel_rfl) (by kernel_rfl)
end Go.Proofs.YtdbnaaddocahpaaDoor
/- The parser, plainly: texts as rows of tokens, places aside. -/
namespace Go.Proofs.YtdbnaaddocahpaaDoor
set_option linter.unusedVariables false

/-- The tokens of a text, places aside. -/
def Zx (l : List UInt8) (zs : List Tk) : Prop := ∃ ts, lexB l 0 = .ok ts ∧ ts.map Tk.z = zs
def tEnd : Tk := ⟨7, 0, 0, ⟨#[]⟩⟩
def tName (s : ByteArray) : Tk := ⟨1, 0, 0, s⟩
def tMark (c : UInt8) : Tk := ⟨6, 0, 0, ⟨#[c]⟩⟩
theorem Zx.nil : Zx [] [tEnd] := ⟨_, lexB_nil 0, rfl⟩
theorem map_sh (d : Nat) (ts : List Tk) : (ts.map (shT d)).map Tk.z = ts.map Tk.z := by simp [Tk.z, shT]
theorem Zx.at_ {l : List UInt8} {zs : List Tk} (h : Zx l zs) (p : Nat) : ∃ ts, lexB l p = .ok ts ∧ ts.map Tk.z = zs := by
  obtain ⟨ts, h1, h2⟩ := h
  exact ⟨ts.map (shT p), by rw [lexB_from, h1]; rfl, by rw [map_sh, h2]⟩
theorem Zx.blank {c : UInt8} {r : List UInt8} {zs : List Tk} (hc : blk c = true) (h : Zx r zs) : Zx (c :: r) zs := by
  obtain ⟨ts, h1, h2⟩ := h.at_ (0 + 1)
  exact ⟨ts, by rw [lexB_blank hc, h1], h2⟩
theorem Zx.sp {r : List UInt8} {zs : List Tk} (h : Zx r zs) : Zx (32 :: r) zs := h.blank (by decide)
theorem Zx.tok {c : UInt8} {r : List UInt8} {zs : List Tk} {k n : Int} {s : List UInt8} {m : Nat} (hc : blk c = false) (ht : tokB (c :: r) = some (k, n, s, m)) (h : Zx ((c :: r).drop m) zs) : Zx (c :: r) (⟨k, 0, n, ⟨s.toArray⟩⟩ :: zs) := by
  obtain ⟨ts, h1, h2⟩ := h.at_ (0 + m)
  refine ⟨_, by rw [lexB_tok hc ht, h1]; rfl, ?_⟩
  rw [← h2]
  rfl
theorem lett_blk {a : UInt8} (h : lett a = true) : blk a = false := by
  unfold lett at h
  unfold blk
  simp at h ⊢
  omega
theorem take_name {l : List UInt8} (hl : ∀ b ∈ l, inm b = true) {c : UInt8} (hc : inm c = false) (r : List UInt8) : (l ++ c :: r).takeWhile inm = l := by
  induction l with
  | nil => simp [hc]
  | cons a l ih =>
    rw [List.cons_append, List.takeWhile_cons, if_pos (hl a (by simp)), ih (fun b hb => hl b (by simp [hb]))]
theorem Named.inm {l : List UInt8} (h : Named l) : ∀ b ∈ l, inm b = true := by
  intro b hb
  obtain ⟨j, hj, rfl⟩ := List.mem_iff_getElem.1 hb
  have := h.2 j hj
  unfold okAt at this
  unfold Go.Proofs.YtdbnaaddocahpaaDoor.inm
  simp at this ⊢
  rcases this with h | h
  · exact .inl h
  · exact .inr h.2
theorem Zx.name {nm : List UInt8} (hn : Named nm) {c : UInt8} (hc : inm c = false) {r : List UInt8} {zs : List Tk} (h : Zx (c :: r) zs) : Zx (nm ++ c :: r) (tName ⟨nm.toArray⟩ :: zs) := by
  have hi := hn.inm
  have ht := take_name hi hc r
  cases nm with
  | nil => exact absurd hn.1.1 (by simp)
  | cons a l =>
    have ha : lett a = true := by
      have := hn.2 0 (by simp)
      unfold okAt at this
      simpa using this
    refine Zx.tok (k := 1) (n := 0) (s := a :: l) (m := (a :: l).length) (lett_blk ha) ?_ ?_
    · show tokB ((a :: l) ++ c :: r) = _
      rw [List.cons_append, tokB, if_pos ha, ← List.cons_append, ht, if_pos hn]
    · show Zx (((a :: l) ++ c :: r).drop (a :: l).length) zs
      rw [List.drop_left]
      exact h
theorem Zx.mark {c : UInt8} (hb : blk c = false) (ht : ∀ r, tokB (c :: r) = some (6, 0, [c], 1)) {r : List UInt8} {zs : List Tk} (h : Zx r zs) : Zx (c :: r) (tMark c :: zs) :=
  Zx.tok (k := 6) (n := 0) (s := [c]) (m := 1) hb (ht r) h
theorem markT (c : UInt8) (h : lett c = false ∧ dgt c = false ∧ c ≠ 45 ∧ c ≠ 64 ∧ c ≠ 35 ∧ c ≠ 34 ∧ mrk c = true) : ∀ r, tokB (c :: r) = some (6, 0, [c], 1) := by
  intro r
  obtain ⟨h1, h2, h3, h4, h5, h6, h7⟩ := h
  rw [tokB, if_neg (by rw [h1]; simp), if_neg (by rw [h2]; simp), if_neg h3, if_neg h4, if_neg h5, if_neg h6, if_pos h7]
theorem Zx.m123 {r : List UInt8} {zs : List Tk} (h : Zx r zs) : Zx (123 :: r) (tMark 123 :: zs) := h.mark (by decide) (markT _ (by decide))
theorem Zx.m125 {r : List UInt8} {zs : List Tk} (h : Zx r zs) : Zx (125 :: r) (tMark 125 :: zs) := h.mark (by decide) (markT _ (by decide))
theorem Zx.m40 {r : List UInt8} {zs : List Tk} (h : Zx r zs) : Zx (40 :: r) (tMark 40 :: zs) := h.mark (by decide) (markT _ (by decide))
theorem Zx.m41 {r : List UInt8} {zs : List Tk} (h : Zx r zs) : Zx (41 :: r) (tMark 41 :: zs) := h.mark (by decide) (markT _ (by decide))
theorem Zx.m46 {r : List UInt8} {zs : List Tk} (h : Zx r zs) : Zx (46 :: r) (tMark 46 :: zs) := h.mark (by decide) (markT _ (by decide))
theorem Zx.m44 {r : List UInt8} {zs : List Tk} (h : Zx r zs) : Zx (44 :: r) (tMark 44 :: zs) := h.mark (by decide) (markT _ (by decide))
theorem Zx.m59 {r : List UInt8} {zs : List Tk} (h : Zx r zs) : Zx (59 :: r) (tMark 59 :: zs) := h.mark (by decide) (markT _ (by decide))
theorem Zx.m61 {r : List UInt8} {zs : List Tk} (h : Zx r zs) : Zx (61 :: r) (tMark 61 :: zs) := h.mark (by decide) (markT _ (by decide))
theorem Zx.m60 {r : List UInt8} {zs : List Tk} (h : Zx r zs) : Zx (60 :: r) (tMark 60 :: zs) := h.mark (by decide) (markT _ (by decide))
theorem Zx.m62 {r : List UInt8} {zs : List Tk} (h : Zx r zs) : Zx (62 :: r) (tMark 62 :: zs) := h.mark (by decide) (markT _ (by decide))
theorem Zx.m33 {r : List UInt8} {zs : List Tk} (h : Zx r zs) : Zx (33 :: r) (tMark 33 :: zs) := h.mark (by decide) (markT _ (by decide))
/-- What is read, of a text whose tokens are known. -/
theorem Zx.read {s : ByteArray} {zs : List Tk} {p : Pol} {z : Pz} (hs : s.size ≤ 4096) (h : Zx s.data.toList zs) (hp : polR 5 ⟨zs, 0, 0, 0⟩ = (p, z)) (he : (endR z).err = 0) (hr : rightE p = 0) : parseR s = (p, 0, 0) := by
  obtain ⟨ts, h1, h2⟩ := h
  have hz : zs.map Tk.z = zs := by rw [← h2, List.map_map]; rfl
  have e := read_same (h2.trans hz.symm)
  rw [hp] at e
  exact parseR_of hs h1 e.1 (e.2.trans he) hr
end Go.Proofs.YtdbnaaddocahpaaDoor
/- Digits, plainly. -/
namespace Go.Proofs.YtdbnaaddocahpaaDoor
set_option linter.unusedVariables false

def AllD (l : List UInt8) : Prop := ∀ c ∈ l, dgt c = true
theorem numD_app (l : List UInt8) (c : UInt8) : numD (l ++ [c]) = 10 * numD l + (c.toNat - 48) := by unfold numD; rw [List.foldl_append]; rfl
theorem numD_mono (l m : List UInt8) : numD l ≤ numD (l ++ m) := by
  induction m generalizing l with
  | nil => simp
  | cons c m ih =>
    have h1 := ih (l ++ [c])
    have h2 := numD_app l c
    rw [List.append_assoc] at h1
    simp only [List.cons_append, List.nil_append] at h1
    omega
end Go.Proofs.YtdbnaaddocahpaaDoor
/- The texts of values, plainly: which text a right value has; two have the same just if they are the same. -/
namespace Go.Proofs.YtdbnaaddocahpaaDoor
set_option linter.unusedVariables false

/-! ### Texts -/
def valD (l : List UInt8) : Nat := l.foldl (fun a c => 10 * a + (c.toNat - 48)) 0
theorem valD_dec (u : Nat) : valD (Lib.decDigits u) = u := by
  induction u using Nat.strongRecOn with
  | _ u ih =>
    rw [Lib.decDigits]
    split
    · rename_i h
      have := ofNat_toNat (show 48 + u < 256 by omega)
      simp only [valD, List.foldl_cons, List.foldl_nil, this]; omega
    · rename_i h
      have := ofNat_toNat (show 48 + u % 10 < 256 by omega)
      have ih := ih (u / 10) (by omega)
      unfold valD at *
      rw [List.foldl_append, ih]
      simp only [List.foldl_cons, List.foldl_nil, this]; omega
theorem dec_head (u : Nat) : ∃ c r, Lib.decDigits u = c :: r ∧ 48 ≤ c.toNat ∧ c.toNat ≤ 57 := by
  induction u using Nat.strongRecOn with
  | _ u ih =>
    rw [Lib.decDigits]
    split
    · rename_i h
      exact ⟨_, _, rfl, by rw [ofNat_toNat (by omega)]; omega, by rw [ofNat_toNat (by omega)]; omega⟩
    · rename_i h
      obtain ⟨c, r, e, h1⟩ := ih (u / 10) (by omega)
      exact ⟨c, r ++ [_], by rw [e]; rfl, h1⟩
theorem itoa_head (n : Int) : ∃ c r, Lib.itoa n = c :: r ∧ (c.toNat = 45 ∨ 48 ≤ c.toNat ∧ c.toNat ≤ 57) := by
  unfold Lib.itoa
  split
  · exact ⟨45, _, rfl, .inl rfl⟩
  · obtain ⟨c, r, e, h⟩ := dec_head n.toNat
    exact ⟨c, r, e, .inr h⟩
theorem itoa_inj {m n : Int} (h : Lib.itoa m = Lib.itoa n) : m = n := by
  unfold Lib.itoa at h
  have key : ∀ a b : Nat, Lib.decDigits a = Lib.decDigits b → a = b := fun a b e => by rw [← valD_dec a, ← valD_dec b, e]
  have hd : ∀ (u : Nat) (r : List UInt8), 45 :: r ≠ Lib.decDigits u := fun u r e => by
    obtain ⟨c, r', e2, h1, _⟩ := dec_head u
    rw [e2] at e
    injection e with e _
    subst e
    have : (45 : UInt8).toNat = 45 := rfl
    omega
  split at h
  · split at h
    · injection h with _ h
      have := key _ _ h
      omega
    · exact absurd h (hd _ _)
  · split at h
    · exact absurd h.symm (hd _ _)
    · have := key _ _ h
      omega

theorem hexd_inj : ∀ x y : Fin 16, hexd x.val = hexd y.val → x = y := by decide
theorem quoteC_inj {c d : UInt8} {x y : List UInt8} (h : quoteC c ++ x = quoteC d ++ y) : c = d ∧ x = y := by
  have plain : ∀ e : UInt8, odd8 e = false → e ≠ 92 := fun e he hh => by subst hh; revert he; decide
  unfold quoteC at h
  cases hc : odd8 c <;> cases hd : odd8 d <;> simp only [hc, hd, if_true, Bool.false_eq_true, if_false, List.cons_append, List.nil_append] at h
  · injection h with h1 h2; exact ⟨h1, h2⟩
  · injection h with h1 _; exact absurd h1 (plain c hc)
  · injection h with h1 _; exact absurd h1.symm (plain d hd)
  · injection h with _ h
    injection h with h1 h
    injection h with h2 h3
    have l1 := c.toNat_lt
    have l2 := d.toNat_lt
    have e1 := hexd_inj ⟨c.toNat / 16, by omega⟩ ⟨d.toNat / 16, by omega⟩ h1
    have e2 := hexd_inj ⟨c.toNat % 16, by omega⟩ ⟨d.toNat % 16, by omega⟩ h2
    injection e1 with e1
    injection e2 with e2
    exact ⟨UInt8.toNat_inj.1 (by omega), h3⟩
theorem quoteC_ne (c : UInt8) (x : List UInt8) : ∃ d r, quoteC c ++ x = d :: r ∧ (d = 34 → False) := by
  unfold quoteC
  cases hc : odd8 c
  · refine ⟨c, x, rfl, fun e => ?_⟩
    subst e; revert hc; decide
  · exact ⟨92, _, rfl, by decide⟩
theorem quoteL_inj : ∀ (l m : List UInt8), quoteL l ++ [34] = quoteL m ++ [34] → l = m
  | [], [], _ => rfl
  | [], d :: m, h => by
    obtain ⟨e, r, h1, h2⟩ := quoteC_ne d (quoteL m ++ [34])
    simp only [quoteL, List.nil_append, List.append_assoc] at h
    rw [h1] at h
    injection h with h _
    exact (h2 h.symm).elim
  | c :: l, [], h => by
    obtain ⟨e, r, h1, h2⟩ := quoteC_ne c (quoteL l ++ [34])
    simp only [quoteL, List.nil_append, List.append_assoc] at h
    rw [h1] at h
    injection h with h _
    exact (h2 h).elim
  | c :: l, d :: m, h => by
    simp only [quoteL, List.append_assoc] at h
    obtain ⟨rfl, h2⟩ := quoteC_inj h
    rw [quoteL_inj l m h2]
theorem quoteB_inj {l m : List UInt8} (h : quoteB l = quoteB m) : l = m := by
  unfold quoteB at h
  simp only [List.cons_append, List.nil_append] at h
  injection h with _ h
  exact quoteL_inj _ _ h

/-- A right value's text, by its kind. -/
theorem show_cases {v : Vl} (h : v.right) : (v.k = 1 ∧ v.l = [] ∧ (v.n = 0 ∧ showB v = [102, 97, 108, 115, 101] ∨ v.n = 1 ∧ showB v = [116, 114, 117, 101])) ∨ (v.k = 2 ∧ v.l = [] ∧ showB v = Lib.itoa v.n) ∨
    (v.k = 3 ∧ v.n = 0 ∧ showB v = quoteB v.l) ∨ (v.k = 4 ∧ v.l = [] ∧ showB v = 64 :: Lib.itoa v.n) ∨ (v.k = 5 ∧ v.n = 0 ∧ showB v = 35 :: v.l) := by
  have hr := h
  unfold Vl.right RightV at h
  unfold showB
  rw [if_pos hr]
  rcases h with ⟨hk, hl, hn⟩ | ⟨hk, hl⟩ | ⟨hk, hn, _⟩ | ⟨hk, hl, _⟩ | ⟨hk, hn, _⟩ <;> rw [hk]
  · refine .inl ⟨rfl, hl, ?_⟩
    rcases hn with hn | hn <;> rw [hn] <;> simp
  · exact .inr (.inl ⟨rfl, hl, by simp⟩)
  · exact .inr (.inr (.inl ⟨rfl, hn, by simp⟩))
  · exact .inr (.inr (.inr (.inl ⟨rfl, hl, by simp⟩)))
  · exact .inr (.inr (.inr (.inr ⟨rfl, hn, by simp⟩)))
theorem show_ne {v : Vl} (h : v.right) : showB v ≠ [] := by
  obtain ⟨c, r, e, _⟩ := itoa_head v.n
  rcases show_cases h with ⟨_, _, ⟨_, h⟩ | ⟨_, h⟩⟩ | ⟨_, _, h⟩ | ⟨_, _, h⟩ | ⟨_, _, h⟩ | ⟨_, _, h⟩ <;> rw [h]
  · simp
  · simp
  · rw [e]; simp
  · simp [quoteB]
  · simp
  · simp
theorem head_ne {c d : UInt8} {r s : List UInt8} (h : c :: r = d :: s) (hne : c.toNat ≠ d.toNat) : False := by
  injection h with h _
  subst h
  exact hne rfl
theorem show_inj {a b : Vl} (ha : a.right) (hb : b.right) (h : showB a = showB b) : a = b := by
  obtain ⟨c, r, ec, hc⟩ := itoa_head a.n
  obtain ⟨d, s, ed, hd⟩ := itoa_head b.n
  have q : ∀ l, quoteB l = 34 :: (quoteL l ++ [34]) := fun _ => rfl
  rcases show_cases ha with ⟨ka, la, ⟨na, h1⟩ | ⟨na, h1⟩⟩ | ⟨ka, la, h1⟩ | ⟨ka, na, h1⟩ | ⟨ka, la, h1⟩ | ⟨ka, na, h1⟩ <;>
  rcases show_cases hb with ⟨kb, lb, ⟨nb, h2⟩ | ⟨nb, h2⟩⟩ | ⟨kb, lb, h2⟩ | ⟨kb, nb, h2⟩ | ⟨kb, lb, h2⟩ | ⟨kb, nb, h2⟩ <;>
  rw [h1, h2] at h
  all_goals first
    | exact Vl.ext' (by omega) (by omega) (by rw [la, lb])
    | exact Vl.ext' (by omega) (itoa_inj h) (by rw [la, lb])
    | exact Vl.ext' (by omega) (by omega) (quoteB_inj h)
    | exact Vl.ext' (by omega) (itoa_inj ((List.cons.inj h).2)) (by rw [la, lb])
    | exact Vl.ext' (by omega) (by omega) ((List.cons.inj h).2)
    | (exfalso; exact head_ne h (by decide))
    | (exfalso; rw [ec] at h; exact head_ne h (by simp; omega))
    | (exfalso; rw [ed] at h; exact head_ne h (by simp; omega))
    | (exfalso; rw [q] at h; exact head_ne h (by decide))
    | (exfalso; rw [ec, q] at h; exact head_ne h (by simp; omega))
    | (exfalso; rw [ed, q] at h; exact head_ne h (by simp; omega))
end Go.Proofs.YtdbnaaddocahpaaDoor
/- A right value's text as a token, plainly. -/
namespace Go.Proofs.YtdbnaaddocahpaaDoor
set_option linter.unusedVariables false

theorem tw_self {p : UInt8 → Bool} {l : List UInt8} (h : ∀ c ∈ l, p c = true) : l.takeWhile p = l := by
  induction l with
  | nil => rfl
  | cons c r ih => rw [List.takeWhile_cons, if_pos (h c (List.mem_cons_self ..)), ih fun d hd => h d (List.mem_cons_of_mem _ hd)]
theorem numD_dec (u : Nat) : numD (Lib.decDigits u) = u := valD_dec u
theorem dec_digs (u : Nat) : AllD (Lib.decDigits u) := by
  induction u using Nat.strongRecOn with
  | _ u ih =>
    intro c hc
    rw [Lib.decDigits] at hc
    split at hc
    · rename_i h
      simp at hc
      subst hc
      have := ofNat_toNat (show 48 + u < 256 by omega)
      unfold dgt
      simp
      omega
    · rename_i h
      rcases List.mem_append.1 hc with hc | hc
      · exact ih (u / 10) (by omega) c hc
      · simp at hc
        subst hc
        have := ofNat_toNat (show 48 + u % 10 < 256 by omega)
        unfold dgt
        simp
        omega
theorem dec_zero (u : Nat) : ∀ r, Lib.decDigits u = 48 :: r → r = [] := by
  induction u using Nat.strongRecOn with
  | _ u ih =>
    intro r hr
    rw [Lib.decDigits] at hr
    split at hr
    · injection hr with _ h; exact h.symm
    · rename_i h
      obtain ⟨c, r', e, _⟩ := dec_head (u / 10)
      rw [e] at hr
      injection hr with h1 h2
      subst h1
      have h0 := ih (u / 10) (by omega) r' e
      subst h0
      have := valD_dec (u / 10)
      rw [e] at this
      simp [valD] at this
      omega
theorem decD_dec {most u : Nat} (h : u ≤ most) : decD most (Lib.decDigits u) = some u := by
  obtain ⟨c, r, e, _⟩ := dec_head u
  unfold decD
  rw [if_neg, numD_dec]
  rintro (h1 | ⟨h1, h2⟩ | h1)
  · rw [e] at h1; cases h1
  · rw [e] at h1 h2
    simp at h1
    subst h1
    exact h2 (by rw [dec_zero u r e])
  · rw [numD_dec] at h1; omega
/-- A number's text is a token. -/
theorem tok_itoa {n : Int} (h1 : -9223372036854775808 ≤ n) (h2 : n ≤ 9223372036854775807) : tokB (Lib.itoa n) = some (2, n, [], (Lib.itoa n).length) := by
  unfold Lib.itoa
  split
  · rename_i hn
    rw [tokB_cons, if_neg (by decide), if_neg (by decide), if_pos rfl, tw_self (dec_digs _), decD_dec (show n.natAbs ≤ 9223372036854775808 by omega), Option.bind_some, if_neg (by omega)]
    simp
    omega
  · rename_i hn
    obtain ⟨c, r, e, h48, h57⟩ := dec_head n.toNat
    have hd := dec_digs n.toNat
    have ht := tw_self hd
    have hv := decD_dec (most := 9223372036854775807) (u := n.toNat) (by omega)
    rw [e] at hd ht hv ⊢
    have hl : lett c = false := by unfold lett; simp; omega
    rw [tokB_cons, if_neg (by rw [hl]; simp), if_pos (hd c (List.mem_cons_self ..)), ht, hv]
    simp
    omega
theorem tok_tick {n : Int} (h1 : 0 ≤ n) (h2 : n ≤ 1099511627776) : tokB (64 :: Lib.itoa n) = some (3, n, [], (Lib.itoa n).length + 1) := by
  unfold Lib.itoa
  rw [if_neg (by omega), tokB_cons, if_neg (by decide), if_neg (by decide), if_neg (by decide), if_pos rfl, tw_self (dec_digs _), decD_dec (show n.toNat ≤ 1099511627776 by omega)]
  simp
  omega
theorem named_inm {l : List UInt8} (h : Named l) : ∀ c ∈ l, inm c = true := by
  intro c hc
  obtain ⟨j, hj, rfl⟩ := List.getElem_of_mem hc
  have := h.2 j hj
  unfold okAt at this
  unfold inm
  cases hl : lett l[j] with
  | true => rfl
  | false => rw [hl] at this; simp at this; simp [this.2]
theorem tok_id {l : List UInt8} (h : Named l) : tokB (35 :: l) = some (4, 0, l, l.length + 1) := by
  rw [tokB_cons, if_neg (by decide), if_neg (by decide), if_neg (by decide), if_neg (by decide), if_pos rfl, tw_self (named_inm h), if_pos h]
theorem hexv_hexd : ∀ x : Fin 16, hexv (hexd x.val) = some x.val := by decide
theorem qt_quote : ∀ (l : List UInt8), qtB (quoteL l ++ [34]) = some (l, (quoteL l).length + 1)
  | [] => by show qtB [34] = _; rw [qtB_end]; rfl
  | c :: r => by
    have ih := qt_quote r
    show qtB (quoteC c ++ quoteL r ++ [34]) = some (c :: r, (quoteC c ++ quoteL r).length + 1)
    unfold quoteC
    cases ho : odd8 c with
    | true =>
      rw [if_pos rfl]
      have hlt := c.toNat_lt
      have e1 := hexv_hexd ⟨c.toNat / 16, by omega⟩
      have e2 := hexv_hexd ⟨c.toNat % 16, by omega⟩
      dsimp only at e1 e2
      have hc : UInt8.ofNat (16 * (c.toNat / 16) + c.toNat % 16) = c := by
        rw [show 16 * (c.toNat / 16) + c.toNat % 16 = c.toNat by omega]
        simp
      have hone : oneB (92 :: hexd (c.toNat / 16) :: hexd (c.toNat % 16) :: (quoteL r ++ [34])) = some (c, 3) := by
        rw [oneB_hex, e1, e2, hexB_some, hc, if_pos ho]
      show qtB (92 :: hexd (c.toNat / 16) :: hexd (c.toNat % 16) :: (quoteL r ++ [34])) = _
      rw [qtB_one (by decide) hone]
      show (qtB (quoteL r ++ [34])).map _ = _
      rw [ih]
      simp
      omega
    | false =>
      rw [if_neg (by simp)]
      have h34 : c ≠ 34 := by rintro rfl; revert ho; decide
      show qtB (c :: (quoteL r ++ [34])) = _
      rw [qtB_one h34 (oneB_plain ho)]
      show (qtB (quoteL r ++ [34])).map _ = _
      rw [ih]
      simp
      omega
theorem tok_text {l : List UInt8} (h : l.length ≤ 64) : tokB (quoteB l) = some (5, 0, l, (quoteB l).length) := by
  show tokB (34 :: (quoteL l ++ [34])) = some (5, 0, l, (34 :: (quoteL l ++ [34])).length)
  rw [tokB_cons, if_neg (by decide), if_neg (by decide), if_neg (by decide), if_neg (by decide), if_neg (by decide), if_pos rfl, qt_quote, Option.bind_some, if_pos h]
  simp
/-- A text that is one token, and nothing else. -/
theorem lex_one {l s : List UInt8} {k n : Int} (h : tokB l = some (k, n, s, l.length)) (hb : ∀ c r, l = c :: r → blk c = false) (p : Nat) : lexB l p = .ok [⟨k, p, n, ⟨s.toArray⟩⟩, ⟨7, ((p + l.length : Nat) : Int), 0, ⟨#[]⟩⟩] := by
  cases l with
  | nil => cases h
  | cons c r =>
    rw [lexB_tok (hb c r rfl) h, List.drop_length, lexB_nil]
    rfl
/-- What a right value's text is as tokens: the kind, the number, the text of the first. -/
theorem lex_show {v : Vl} (h : v.right) (hn : -9223372036854775808 ≤ v.n ∧ v.n ≤ 9223372036854775807) :
    ∃ (k n : Int) (s : List UInt8), lexB (showB v) 0 = .ok [⟨k, 0, n, ⟨s.toArray⟩⟩, ⟨7, (((showB v).length : Nat) : Int), 0, ⟨#[]⟩⟩] ∧
      (v.k = 1 ∧ k = 1 ∧ (v.n = 1 ∧ s = [116, 114, 117, 101] ∨ v.n = 0 ∧ s = [102, 97, 108, 115, 101]) ∨ v.k = 2 ∧ k = 2 ∧ n = v.n ∨ v.k = 3 ∧ k = 5 ∧ s = v.l ∨ v.k = 4 ∧ k = 3 ∧ n = v.n ∨ v.k = 5 ∧ k = 4 ∧ s = v.l) := by
  have hr := h
  unfold Vl.right RightV at hr
  obtain ⟨c0, r0, e0, h0⟩ := itoa_head v.n
  have hbi : ∀ c r, Lib.itoa v.n = c :: r → blk c = false := fun c r e => by
    rw [e0] at e
    injection e with e1 _
    subst e1
    unfold blk
    simp
    omega
  rcases show_cases h with ⟨hk, _, ⟨hn0, hs⟩ | ⟨hn0, hs⟩⟩ | ⟨hk, _, hs⟩ | ⟨hk, _, hs⟩ | ⟨hk, _, hs⟩ | ⟨hk, _, hs⟩
  all_goals rw [hs]
  · refine ⟨1, 0, [102, 97, 108, 115, 101], ?_, .inl ⟨hk, rfl, .inr ⟨hn0, rfl⟩⟩⟩
    have := lex_one (show tokB [102, 97, 108, 115, 101] = some (1, 0, [102, 97, 108, 115, 101], ([102, 97, 108, 115, 101] : List UInt8).length) by decide +kernel) (fun c r e => by injection e with e1 _; subst e1; decide) 0
    rwa [Nat.zero_add] at this
  · refine ⟨1, 0, [116, 114, 117, 101], ?_, .inl ⟨hk, rfl, .inl ⟨hn0, rfl⟩⟩⟩
    have := lex_one (show tokB [116, 114, 117, 101] = some (1, 0, [116, 114, 117, 101], ([116, 114, 117, 101] : List UInt8).length) by decide +kernel) (fun c r e => by injection e with e1 _; subst e1; decide) 0
    rwa [Nat.zero_add] at this
  · refine ⟨2, v.n, [], ?_, .inr (.inl ⟨hk, rfl, rfl⟩)⟩
    have := lex_one (tok_itoa hn.1 hn.2) hbi 0
    rwa [Nat.zero_add] at this
  · refine ⟨5, 0, v.l, ?_, .inr (.inr (.inl ⟨hk, rfl, rfl⟩))⟩
    have hl : v.l.length ≤ 64 := by rcases hr with h | h | h | h | h <;> omega
    have := lex_one (tok_text hl) (fun c r e => by injection e with e1 _; subst e1; decide) 0
    rwa [Nat.zero_add] at this
  · refine ⟨3, v.n, [], ?_, .inr (.inr (.inr (.inl ⟨hk, rfl, rfl⟩)))⟩
    have hb : 0 ≤ v.n ∧ v.n ≤ 1099511627776 := by rcases hr with h | h | h | h | h <;> omega
    have := lex_one (l := 64 :: Lib.itoa v.n) (tok_tick hb.1 hb.2) (fun c r e => by injection e with e1 _; subst e1; decide) 0
    rwa [Nat.zero_add] at this
  · refine ⟨4, 0, v.l, ?_, .inr (.inr (.inr (.inr ⟨hk, rfl, rfl⟩)))⟩
    have hnm : Named v.l := by rcases hr with h | h | h | h | h <;> first | exact h.2.2 | omega
    have := lex_one (l := 35 :: v.l) (tok_id hnm) (fun c r e => by injection e with e1 _; subst e1; decide) 0
    rwa [Nat.zero_add] at this
end Go.Proofs.YtdbnaaddocahpaaDoor
/- Policies as text, plainly: the tokens of such a text. -/
namespace Go.Proofs.YtdbnaaddocahpaaDoor
set_option linter.unusedVariables false

/-- What stands behind ends a name, and a number. -/
def Stp (r : List UInt8) : Prop := ∀ c r', r = c :: r' → inm c = false
theorem Stp.nil : Stp [] := fun c r' h => by cases h
theorem Stp.cons {c : UInt8} {r : List UInt8} (h : inm c = false) : Stp (c :: r) := fun d r' e => by injection e with e _; exact e ▸ h
theorem dgt_inm {c : UInt8} (h : inm c = false) : dgt c = false := by
  unfold inm later at h
  unfold dgt
  simp at h ⊢
  omega
theorem Stp.name {nm r : List UInt8} {zs : List Tk} (hn : Named nm) (hs : Stp r) (h : Zx r zs) : Zx (nm ++ r) (tName ⟨nm.toArray⟩ :: zs) := by
  cases r with
  | cons c r => exact Zx.name hn (hs c r rfl) h
  | nil =>
    rw [List.append_nil]
    have ht := tw_self (named_inm hn)
    cases nm with
    | nil => exact absurd hn.1.1 (by simp)
    | cons a l =>
      have ha : lett a = true := by
        have := hn.2 0 (by simp)
        unfold okAt at this
        simpa using this
      refine Zx.tok (k := 1) (n := 0) (s := a :: l) (m := (a :: l).length) (lett_blk ha) ?_ ?_
      · rw [tokB, if_pos ha, ht, if_pos hn]
      · rw [List.drop_length]
        exact h
/-- A text is these tokens, wherever it stands. -/
def One (t : List UInt8) (z : List Tk) : Prop := ∀ r zs, Stp r → Zx r zs → Zx (t ++ r) (z ++ zs)
theorem one_name {nm : List UInt8} (hn : Named nm) : One nm [tName ⟨nm.toArray⟩] := fun _ _ hs h => hs.name hn h
theorem One.sp {a b : List UInt8} {x y : List Tk} (ha : One a x) (hb : One b y) : One (a ++ 32 :: b) (x ++ y) := fun r zs hs h => by
  rw [List.append_assoc, List.append_assoc]
  exact ha _ _ (Stp.cons (by decide)) (Zx.sp (hb r zs hs h))
/-- A mark behind. -/
theorem One.behind {a : List UInt8} {x : List Tk} {c : UInt8} {t : Tk} (ha : One a x) (hc : inm c = false) (hm : ∀ {r : List UInt8} {zs : List Tk}, Zx r zs → Zx (c :: r) (t :: zs)) : One (a ++ [c]) (x ++ [t]) := fun r zs hs h => by
  rw [List.append_assoc, List.append_assoc]
  exact ha _ _ (Stp.cons hc) (hm h)
/-- A mark ahead. -/
theorem One.ahead {a : List UInt8} {x : List Tk} {c : UInt8} {t : Tk} (ha : One a x) (hm : ∀ {r : List UInt8} {zs : List Tk}, Zx r zs → Zx (c :: r) (t :: zs)) : One (c :: a) (t :: x) := fun r zs hs h => hm (ha r zs hs h)
theorem one_mark {c : UInt8} {t : Tk} (hm : ∀ {r : List UInt8} {zs : List Tk}, Zx r zs → Zx (c :: r) (t :: zs)) : One [c] [t] := fun r zs hs h => hm h

def vZ (v : Vl) : Tk :=
  if v.k = 1 then tName (if v.n = 1 then w_true else w_false) else if v.k = 2 then ⟨2, 0, v.n, ⟨#[]⟩⟩ else if v.k = 3 then ⟨5, 0, 0, v.s⟩ else if v.k = 4 then ⟨3, 0, v.n, ⟨#[]⟩⟩ else ⟨4, 0, 0, v.s⟩
theorem one_tok {l s : List UInt8} {k n : Int} (hb : ∃ c r, l = c :: r ∧ blk c = false) (h : tokB l = some (k, n, s, l.length)) : One l [⟨k, 0, n, ⟨s.toArray⟩⟩] := fun r zs hs hz => by
  obtain ⟨c, l', rfl, hc⟩ := hb
  show Zx (c :: (l' ++ r)) (_ :: zs)
  have hd : ((c :: (l' ++ r)).drop (c :: l').length) = r := by
    rw [← List.cons_append, List.drop_left]
  cases r with
  | nil =>
    refine Zx.tok hc (by rw [List.append_nil]; exact h) ?_
    rw [hd]; exact hz
  | cons x y =>
    have hx := hs x y rfl
    refine Zx.tok hc (by rw [← List.cons_append]; exact tokB_app hx (dgt_inm hx) _ _ h) ?_
    rw [hd]; exact hz
theorem mk_bl (v : Vl) : (⟨v.l.toArray⟩ : ByteArray) = v.s := by
  obtain ⟨k, n, ⟨⟨l⟩⟩⟩ := v
  rfl
theorem one_val {v : Vl} (h : v.right) (hn : InI v.n) : One (showB v) [vZ v] := by
  obtain ⟨c0, r0, e0, h0⟩ := itoa_head v.n
  have hbi : ∃ c r, Lib.itoa v.n = c :: r ∧ blk c = false := ⟨c0, r0, e0, by unfold blk; simp; omega⟩
  have hr := h
  unfold Vl.right RightV at hr
  rcases show_cases h with ⟨hk, hl, ⟨hn0, hs⟩ | ⟨hn0, hs⟩⟩ | ⟨hk, hl, hs⟩ | ⟨hk, hn0, hs⟩ | ⟨hk, hl, hs⟩ | ⟨hk, hn0, hs⟩ <;> rw [hs]
  · rw [show vZ v = tName w_false by unfold vZ; rw [if_pos hk, if_neg (by omega)]]
    exact one_name (nm := [102, 97, 108, 115, 101]) (by decide)
  · rw [show vZ v = tName w_true by unfold vZ; rw [if_pos hk, if_pos hn0]]
    exact one_name (nm := [116, 114, 117, 101]) (by decide)
  · rw [show vZ v = ⟨2, 0, v.n, ⟨#[]⟩⟩ by unfold vZ; rw [if_neg (by omega), if_pos hk]]
    exact one_tok hbi (tok_itoa hn.1 hn.2)
  · rw [show vZ v = ⟨5, 0, 0, ⟨v.l.toArray⟩⟩ by unfold vZ; rw [if_neg (by omega), if_neg (by omega), if_pos hk, mk_bl]]
    exact one_tok ⟨34, _, rfl, by decide⟩ (tok_text (by omega))
  · rw [show vZ v = ⟨3, 0, v.n, ⟨#[]⟩⟩ by unfold vZ; rw [if_neg (by omega), if_neg (by omega), if_neg (by omega), if_pos hk]]
    refine one_tok ⟨64, _, rfl, by decide⟩ ?_
    rw [tok_tick (by omega) (by omega)]; rfl
  · rw [show vZ v = ⟨4, 0, 0, ⟨v.l.toArray⟩⟩ by unfold vZ; rw [if_neg (by omega), if_neg (by omega), if_neg (by omega), if_neg (by omega), mk_bl]]
    refine one_tok ⟨35, _, rfl, by decide⟩ ?_
    have hnm : Named v.l := by
      rcases hr with ⟨a, _⟩ | ⟨a, _⟩ | ⟨a, _⟩ | ⟨a, _⟩ | ⟨_, _, b⟩
      · omega
      · omega
      · omega
      · omega
      · exact b
    rw [tok_id hnm]; rfl

def wTk (l : List UInt8) : Tk := tName ⟨l.toArray⟩
theorem catW_named (n : Int) : Named (catW n) := by
  unfold catW
  repeat' split
  all_goals decide
theorem algW_named (n : Int) : Named (algW n) := by
  unfold algW
  repeat' split
  all_goals decide
theorem fnW_named (n : Int) : Named (fnW n) := by
  unfold fnW
  repeat' split
  all_goals decide
theorem doW_named (n : Int) : Named (doW n) := by
  unfold doW
  repeat' split
  all_goals decide
theorem effW_named (b : Bool) : Named (effW b) := by cases b <;> decide
theorem headW_named (p : Pol) : Named (headW p) := by
  unfold headW
  split <;> decide
def bangZ (b : Bool) : List Tk := if b = true then [tMark 33] else []
def restZ (a : Atr) : List Tk := tMark 46 :: tName a.name :: bangZ a.must
def attrZ (a : Atr) : List Tk := wTk (catW a.cat) :: restZ a
theorem attrB_all {a : Atr} (h : attrB a = true) : (a.cat = 1 ∨ a.cat = 2 ∨ a.cat = 3 ∨ a.cat = 4) ∧ Named (bl a.name) := by
  unfold attrB at h
  simp only [Bool.and_eq_true, decide_eq_true_eq] at h
  exact ⟨by omega, h.2⟩
theorem bl_toArray (s : ByteArray) : (⟨(bl s).toArray⟩ : ByteArray) = s := by
  obtain ⟨⟨l⟩⟩ := s
  rfl
theorem one_id {s : ByteArray} (h : Named (bl s)) : One (bl s) [tName s] := by
  have := one_name h
  rwa [bl_toArray] at this
theorem one_attr {a : Atr} (h : attrB a = true) : One (attrT a) (attrZ a) := fun r zs hs hz => by
  obtain ⟨_, hn⟩ := attrB_all h
  have e : attrT a ++ r = catW a.cat ++ 46 :: (bl a.name ++ ((if a.must = true then [33] else []) ++ r)) := by simp [attrT]
  rw [e]
  refine (Stp.cons (by decide)).name (catW_named _) (Zx.m46 ?_)
  have := one_id hn
  refine this _ (bangZ a.must ++ zs) ?_ ?_
  · cases a.must
    · exact hs
    · exact Stp.cons (by decide)
  · cases a.must
    · exact hz
    · exact Zx.m33 hz
theorem one_attrS {a : Atr} (h : attrB a = true) : One (attrS a) (attrZ a) := by
  unfold attrS
  rw [if_pos h]
  exact one_attr h
def cmpZ (op : Int) : Tk := tMark (if op = 1 then 61 else if op = 2 then 60 else 62)
def matZ (m : Mat) : List Tk := attrZ m.a ++ [cmpZ m.op, vZ m.v]
theorem one_cmp (n : Int) : One (cmpW n) [cmpZ n] := by
  unfold cmpW cmpZ
  split
  · exact one_mark Zx.m61
  · split
    · exact one_mark Zx.m60
    · exact one_mark Zx.m62
theorem one_mat {m : Mat} (h : matE m = 0) (hok : m.ok) : One (matT m) (matZ m) := by
  unfold matE at h
  split at h
  · rename_i hh
    exact (one_attrS hh.1).sp ((one_cmp m.op).sp (one_val hh.2.2.2 hok.2.2.2.1))
  · cases h

/-- A row of things with a mark or a word between. -/
def tailZ {α : Type} (Z : α → List Tk) (b : Tk) : List α → List Tk
  | [] => []
  | x :: l => b :: (Z x ++ tailZ Z b l)
def rowZ {α : Type} (Z : α → List Tk) (b : Tk) : List α → List Tk
  | [] => []
  | x :: l => Z x ++ tailZ Z b l
theorem one_tail {α : Type} {T : α → List UInt8} {Z : α → List Tk} {sep : List UInt8} {b : Tk} (hsep : ∀ {r : List UInt8} {zs : List Tk}, Zx r zs → Zx (sep ++ r) (b :: zs)) (hst : ∀ r, Stp (sep ++ r)) :
    ∀ (l : List α), (∀ x ∈ l, One (T x) (Z x)) → ∀ r zs, Stp r → Zx r zs → Zx (Lib.joinTail sep (l.map T) ++ r) (tailZ Z b l ++ zs) ∧ Stp (Lib.joinTail sep (l.map T) ++ r)
  | [], _, r, zs, hs, hz => ⟨hz, hs⟩
  | x :: l, h, r, zs, hs, hz => by
    obtain ⟨i1, i2⟩ := one_tail hsep hst l (fun y hy => h y (by simp [hy])) r zs hs hz
    have e : Lib.joinTail sep ((x :: l).map T) ++ r = sep ++ (T x ++ (Lib.joinTail sep (l.map T) ++ r)) := by simp [Lib.joinTail]
    rw [e]
    have e2 : tailZ Z b (x :: l) ++ zs = b :: (Z x ++ (tailZ Z b l ++ zs)) := by simp [tailZ]
    rw [e2]
    exact ⟨hsep (h x (by simp) _ _ i2 i1), hst _⟩
theorem one_row {α : Type} {T : α → List UInt8} {Z : α → List Tk} {sep : List UInt8} {b : Tk} (hsep : ∀ {r : List UInt8} {zs : List Tk}, Zx r zs → Zx (sep ++ r) (b :: zs)) (hst : ∀ r, Stp (sep ++ r)) {l : List α} (h : ∀ x ∈ l, One (T x) (Z x)) :
    One (Lib.join (l.map T) sep) (rowZ Z b l) := fun r zs hs hz => by
  cases l with
  | nil => exact hz
  | cons x l =>
    obtain ⟨i1, i2⟩ := one_tail hsep hst l (fun y hy => h y (by simp [hy])) r zs hs hz
    rw [List.map_cons, Lib.join_cons, List.append_assoc]
    show Zx _ ((Z x ++ tailZ Z b l) ++ zs)
    rw [List.append_assoc]
    exact h x (by simp) _ _ i2 i1
def allZ (l : List Mat) : List Tk := rowZ matZ (tMark 44) l
def anyZ (l : List (List Mat)) : List Tk := tMark 40 :: (rowZ allZ (tName w_or) l ++ [tMark 41])
def tgZ (t : Tgt) : List Tk := if t = [] then [] else tName w_when :: rowZ anyZ (tName w_and) t
theorem first_all {α : Type} {f : α → Int} : ∀ {l : List α}, firstE f l = 0 → ∀ x ∈ l, f x = 0
  | [], _, x, hx => by cases hx
  | y :: l, h, x, hx => by
    simp only [firstE] at h
    split at h
    · rename_i h0; exact absurd h h0
    · rename_i h0
      rcases List.mem_cons.1 hx with rfl | hx
      · simpa using h0
      · exact first_all h x hx
theorem allE_all {l : List Mat} (h : allE l = 0) : (1 ≤ l.length ∧ l.length ≤ 8) ∧ ∀ x ∈ l, matE x = 0 := by
  unfold allE at h
  split at h
  · rename_i h0; exact absurd h h0
  · rename_i h0
    refine ⟨?_, first_all h⟩
    unfold partsE at h0
    split at h0
    · simp at h0
    · split at h0
      · simp at h0
      · omega
theorem anyE_all {l : List (List Mat)} (h : anyE l = 0) : (1 ≤ l.length ∧ l.length ≤ 8) ∧ ∀ x ∈ l, allE x = 0 := by
  unfold anyE at h
  split at h
  · rename_i h0; exact absurd h h0
  · rename_i h0
    refine ⟨?_, first_all h⟩
    unfold partsE at h0
    split at h0
    · simp at h0
    · split at h0
      · simp at h0
      · omega
theorem tgE_all {t : Tgt} (h : tgE t = 0) : t.length ≤ 8 ∧ ∀ x ∈ t, anyE x = 0 := by
  unfold tgE at h
  split at h
  · cases h
  · exact ⟨by omega, first_all h⟩
def Tgt.oks (t : Tgt) : Prop := ∀ a ∈ t, ∀ l ∈ a, ∀ m ∈ l, m.ok
theorem one_all {l : List Mat} (h : allE l = 0) (hok : ∀ m ∈ l, m.ok) : One (allT l) (allZ l) :=
  one_row (sep := [44, 32]) (fun h => Zx.m44 (Zx.sp h)) (fun r => Stp.cons (by decide)) fun x hx => one_mat ((allE_all h).2 x hx) (hok x hx)
theorem sep_name {nm : List UInt8} (hn : Named nm) {r : List UInt8} {zs : List Tk} (h : Zx r zs) : Zx ((32 :: (nm ++ [32])) ++ r) (tName ⟨nm.toArray⟩ :: zs) := by
  show Zx (32 :: ((nm ++ [32]) ++ r)) _
  rw [List.append_assoc]
  exact Zx.sp ((Stp.cons (by decide)).name hn (Zx.sp h))
theorem one_anyZ {l : List (List Mat)} (h : anyE l = 0) (hok : ∀ a ∈ l, ∀ m ∈ a, m.ok) : One (anyT l) (anyZ l) :=
  ((one_row (sep := [32, 111, 114, 32]) (b := tName w_or) (fun h => sep_name (nm := [111, 114]) (by decide) h) (fun r => Stp.cons (by decide)) fun x hx => one_all ((anyE_all h).2 x hx) (hok x hx)).behind (by decide) Zx.m41).ahead Zx.m40
theorem one_tg {t : Tgt} (h : tgE t = 0) (hok : Tgt.oks t) : One (tgT t) (rowZ anyZ (tName w_and) t) :=
  one_row (sep := [32, 97, 110, 100, 32]) (b := tName w_and) (fun h => sep_name (nm := [97, 110, 100]) (by decide) h) (fun r => Stp.cons (by decide)) fun x hx => one_anyZ ((tgE_all h).2 x hx) (hok x hx)

/-- Words with one blank between. -/
inductive Wz : List (List UInt8) → List Tk → Prop
  | nil : Wz [] []
  | cons {t : List UInt8} {z : List Tk} {ts : List (List UInt8)} {zs : List Tk} : One t z → Wz ts zs → Wz (t :: ts) (z ++ zs)
theorem Wz.app {a b : List (List UInt8)} {x y : List Tk} (ha : Wz a x) (hb : Wz b y) : Wz (a ++ b) (x ++ y) := by
  induction ha with
  | nil => exact hb
  | cons h _ ih => rw [List.append_assoc]; exact .cons h ih
theorem Wz.one {t : List UInt8} {z : List Tk} (h : One t z) : Wz [t] z := by
  have := Wz.cons h .nil
  rwa [List.append_nil] at this
theorem Wz.map {α : Type} {T : α → List UInt8} {Z : α → List Tk} : ∀ {l : List α}, (∀ x ∈ l, One (T x) (Z x)) → Wz (l.map T) (l.flatMap Z)
  | [], _ => .nil
  | x :: l, h => by
    rw [List.map_cons, List.flatMap_cons]
    exact .cons (h x (by simp)) (Wz.map fun y hy => h y (by simp [hy]))
theorem Wz.flat {α : Type} {T : α → List (List UInt8)} {Z : α → List Tk} : ∀ {l : List α}, (∀ x ∈ l, Wz (T x) (Z x)) → Wz (l.map T).flatten (l.flatMap Z)
  | [], _ => .nil
  | x :: l, h => by
    rw [List.map_cons, List.flatMap_cons, List.flatten_cons]
    exact (h x (by simp)).app (Wz.flat fun y hy => h y (by simp [hy]))
theorem Wz.tail {ws : List (List UInt8)} {z : List Tk} (h : Wz ws z) : ∀ r zs, Stp r → Zx r zs → Zx (Lib.joinTail [32] ws ++ r) (z ++ zs) ∧ Stp (Lib.joinTail [32] ws ++ r) := by
  induction h with
  | nil => exact fun r zs hs hz => ⟨hz, hs⟩
  | @cons t z ts zs' h _ ih =>
    intro r zs hs hz
    obtain ⟨i1, i2⟩ := ih r zs hs hz
    have e : Lib.joinTail [32] (t :: ts) ++ r = 32 :: (t ++ (Lib.joinTail [32] ts ++ r)) := by simp [Lib.joinTail]
    rw [e, List.append_assoc]
    exact ⟨Zx.sp (h _ _ i2 i1), Stp.cons (by decide)⟩
theorem Wz.join {ws : List (List UInt8)} {z : List Tk} (h : Wz ws z) : One (Lib.join ws [32]) z := by
  cases h with
  | nil => exact fun r zs hs hz => hz
  | cons h1 h2 =>
    intro r zs hs hz
    obtain ⟨i1, i2⟩ := h2.tail r zs hs hz
    rw [Lib.join_cons, List.append_assoc, List.append_assoc]
    exact h1 _ _ i2 i1
theorem wz_tg {t : Tgt} (h : tgE t = 0) (hok : Tgt.oks t) : Wz (tgW t) (tgZ t) := by
  unfold tgW tgZ
  split
  · exact .nil
  · exact .cons (z := [tName w_when]) (one_name (nm := [119, 104, 101, 110]) (by decide)) (.one (one_tg h hok))
def dutZ (o : Dut) : List Tk := [tName w_on, wTk (effW (decide (o.on = 2))), wTk (doW o.kind), tName o.arg]
theorem dutE_all {o : Dut} (h : dutE o = 0) : (o.on = 1 ∨ o.on = 2) ∧ (o.kind = 1 ∨ o.kind = 2 ∨ o.kind = 3 ∨ o.kind = 4) ∧ Named (bl o.arg) := by
  unfold dutE at h
  split at h
  · rename_i hh; exact ⟨hh.1, by omega, hh.2.2.2⟩
  · cases h
theorem one_dut {o : Dut} (h : dutE o = 0) : One (dutT o) (dutZ o) := by
  have hn := (dutE_all h).2.2
  have : One ([111, 110] ++ 32 :: (effW (decide (o.on = 2)) ++ 32 :: (doW o.kind ++ 32 :: bl o.arg))) _ := (one_name (nm := [111, 110]) (by decide)).sp ((one_name (effW_named _)).sp ((one_name (doW_named o.kind)).sp (one_id hn)))
  exact this
theorem obE_all {l : List Dut} (h : obE l = 0) : l.length ≤ 8 ∧ ∀ x ∈ l, dutE x = 0 := by
  unfold obE at h
  split at h
  · cases h
  · exact ⟨by omega, first_all h⟩
theorem wz_ob {l : List Dut} (h : obE l = 0) : Wz (l.map dutT) (l.flatMap dutZ) := .map fun x hx => one_dut ((obE_all h).2 x hx)
end Go.Proofs.YtdbnaaddocahpaaDoor
/- Policies as text, plainly: what is read of such tokens. -/
namespace Go.Proofs.YtdbnaaddocahpaaDoor
set_option linter.unusedVariables false

/-- A state without errors and places. -/
abbrev St (zs : List Tk) (m : Nat) : Pz := ⟨zs, m, 0, 0⟩
/-- None of these words stands ahead. -/
def Nx (ws : List ByteArray) (zs : List Tk) : Prop := seesR ws (St zs 0) = 0
theorem Nx.at_ {ws : List ByteArray} {zs : List Tk} (h : Nx ws zs) (m : Nat) : seesR ws (St zs m) = 0 := h
theorem take_no {ws : List ByteArray} {zs : List Tk} (h : Nx ws zs) (m : Nat) : takeR ws (St zs m) = (0, St zs m) := by
  unfold takeR
  rw [if_pos (h.at_ m)]
theorem take_yes {ws : List ByteArray} {t : Tk} {i : Nat} (h : seesR ws (St [t] 0) = i) (hi : i ≠ 0) (zs : List Tk) (m : Nat) : takeR ws (St (t :: zs) m) = (i, St zs m) := by
  have e : seesR ws (St (t :: zs) m) = i := h
  unfold takeR
  rw [if_neg (by rw [e]; exact hi), e]
  rfl
theorem must_yes {ws : List ByteArray} {t : Tk} {i : Nat} (h : seesR ws (St [t] 0) = i) (hi : i ≠ 0) (zs : List Tk) (m : Nat) : mustR ws (St (t :: zs) m) = (i, St zs m) := by
  have e : seesR ws (St (t :: zs) m) = i := h
  unfold mustR
  rw [if_neg (by rw [e]; exact hi), e]
  rfl
theorem nx_of {ws : List ByteArray} {t : Tk} (h : seesR ws (St [t] 0) = 0) (zs : List Tk) : Nx ws (t :: zs) := h
theorem name_read (s : ByteArray) (zs : List Tk) (m : Nat) : nameR (St (tName s :: zs) m) = (s, St zs m) := rfl

theorem cat_read {n : Int} (h : n = 1 ∨ n = 2 ∨ n = 3 ∨ n = 4) (zs : List Tk) (m : Nat) : catR (St (wTk (catW n) :: zs) m) = (n.toNat, St zs m) := by
  unfold catR
  rcases h with rfl | rfl | rfl | rfl <;> exact take_yes (by decide +kernel) (by decide) zs m
theorem attr_read {a : Atr} (h : a.cat ≠ 0) {zs : List Tk} (hb : Nx [m_bang] zs) (m : Nat) : attrR a.cat (St (restZ a ++ zs) m) = (a, St zs m) := by
  obtain ⟨c, nm, must⟩ := a
  have e : restZ ⟨c, nm, must⟩ ++ zs = tMark 46 :: tName nm :: (bangZ must ++ zs) := rfl
  rw [e]
  unfold attrR
  simp only
  rw [if_neg h, must_yes (i := 1) (by decide +kernel) (by decide)]
  simp only
  rw [name_read]
  simp only
  cases must with
  | true =>
    have : bangZ true ++ zs = tMark 33 :: zs := rfl
    rw [this, take_yes (i := 1) (by decide +kernel) (by decide)]
    rfl
  | false =>
    have : bangZ false ++ zs = zs := rfl
    rw [this, take_no hb]
    rfl
theorem val_read {v : Vl} (h : v.right) (zs : List Tk) (m : Nat) : valueR (St (vZ v :: zs) m) = (v, St zs m) := by
  have fin : ∀ (k : Int) (t : Tk), kindR t.k = k → k ≠ 1 → valueR (St (t :: zs) m) = (⟨k, t.n, t.s⟩, St zs m) := by
    intro k t hk h1
    unfold valueR
    have e : (St (t :: zs) m).hd = t := rfl
    rw [e, hk, if_neg h1]
    rfl
  rcases show_cases h with ⟨hk, hl, ⟨hn0, hs⟩ | ⟨hn0, hs⟩⟩ | ⟨hk, hl, hs⟩ | ⟨hk, hn0, hs⟩ | ⟨hk, hl, hs⟩ | ⟨hk, hn0, hs⟩
  · rw [show vZ v = tName w_false by unfold vZ; rw [if_pos hk, if_neg (by omega)]]
    unfold valueR
    have e : (St (tName w_false :: zs) m).hd = tName w_false := rfl
    rw [e, if_pos (by decide), must_yes (i := 1) (by decide +kernel) (by decide)]
    exact Prod.ext (Vl.ext' hk.symm (by rw [hn0]; rfl) (by rw [hl]; rfl)) rfl
  · rw [show vZ v = tName w_true by unfold vZ; rw [if_pos hk, if_pos hn0]]
    unfold valueR
    have e : (St (tName w_true :: zs) m).hd = tName w_true := rfl
    rw [e, if_pos (by decide), must_yes (i := 2) (by decide +kernel) (by decide)]
    exact Prod.ext (Vl.ext' hk.symm (by rw [hn0]; rfl) (by rw [hl]; rfl)) rfl
  · rw [show vZ v = ⟨2, 0, v.n, ⟨#[]⟩⟩ by unfold vZ; rw [if_neg (by omega), if_pos hk], fin 2 _ (show kindR 2 = 2 by decide) (by decide)]
    exact Prod.ext (Vl.ext' hk.symm rfl (by rw [hl]; rfl)) rfl
  · rw [show vZ v = ⟨5, 0, 0, v.s⟩ by unfold vZ; rw [if_neg (by omega), if_neg (by omega), if_pos hk], fin 3 _ (show kindR 5 = 3 by decide) (by decide)]
    exact Prod.ext (Vl.ext' hk.symm hn0.symm rfl) rfl
  · rw [show vZ v = ⟨3, 0, v.n, ⟨#[]⟩⟩ by unfold vZ; rw [if_neg (by omega), if_neg (by omega), if_neg (by omega), if_pos hk], fin 4 _ (show kindR 3 = 4 by decide) (by decide)]
    exact Prod.ext (Vl.ext' hk.symm rfl (by rw [hl]; rfl)) rfl
  · rw [show vZ v = ⟨4, 0, 0, v.s⟩ by unfold vZ; rw [if_neg (by omega), if_neg (by omega), if_neg (by omega), if_neg (by omega)], fin 5 _ (show kindR 4 = 5 by decide) (by decide)]
    exact Prod.ext (Vl.ext' hk.symm hn0.symm rfl) rfl
theorem matE_all {x : Mat} (h : matE x = 0) : attrB x.a = true ∧ (x.op = 1 ∨ x.op = 2 ∨ x.op = 3) ∧ x.v.right := by
  unfold matE at h
  split at h
  · rename_i hh; exact ⟨hh.1, by omega, hh.2.2.2⟩
  · cases h
theorem toNat_cat {n : Int} (h : n = 1 ∨ n = 2 ∨ n = 3 ∨ n = 4) : ((n.toNat : Nat) : Int) = n := by omega
theorem match_read {x : Mat} (h : matE x = 0) (zs : List Tk) (m : Nat) : matchR (St (matZ x ++ zs) m) = (x, St zs m) := by
  obtain ⟨ha, ho, hv⟩ := matE_all h
  obtain ⟨hc, _⟩ := attrB_all ha
  have e : matZ x ++ zs = wTk (catW x.a.cat) :: (restZ x.a ++ cmpZ x.op :: vZ x.v :: zs) := by simp [matZ, attrZ]
  rw [e]
  unfold matchR
  simp only
  rw [cat_read hc]
  simp only
  rw [toNat_cat hc, attr_read (by omega) (by rcases ho with h | h | h <;> (rw [h]; exact nx_of (by decide +kernel) _))]
  simp only
  rw [must_yes (t := cmpZ x.op) (i := x.op.toNat) (by rcases ho with h | h | h <;> (rw [h]; decide +kernel)) (by omega)]
  simp only
  rw [val_read hv]
  have e2 : ((x.op.toNat : Nat) : Int) = x.op := by omega
  rw [e2]

/-- A row is read as it stands. -/
theorem tail_len {α : Type} (Z : α → List Tk) (b : Tk) : ∀ l : List α, l.length ≤ (tailZ Z b l).length
  | [] => Nat.zero_le _
  | x :: l => by
    have := tail_len Z b l
    simp only [tailZ, List.length_cons, List.length_append]
    omega
theorem most_no {n l : Int} (h : ¬ l < n) (s : Pz) : mostR n l s = s := by
  unfold mostR
  rw [if_neg h]
theorem row_read {α : Type} {one : Pz → α × Pz} {btw : ByteArray} {Z : α → List Tk} {b : Tk} (hb : seesR [btw] (St [b] 0) = 1) (Q : List Tk → Prop) (hQ : ∀ zs, Q (b :: zs)) :
    ∀ (l : List α) (x : α) (n : Nat) (acc : List α) (zs : List Tk) (m : Nat), (∀ y ∈ x :: l, ∀ zs m, Q zs → one (St (Z y ++ zs) m) = (y, St zs m)) → acc.length + (x :: l).length ≤ 8 → (x :: l).length ≤ n → Q zs → Nx [btw] zs →
      rowR one btw n acc (St (Z x ++ (tailZ Z b l ++ zs)) m) = (acc ++ x :: l, St zs m)
  | [], x, 0, _, _, _, _, _, hn, _, _ => by simp at hn
  | [], x, n + 1, acc, zs, m, h, hlen, _, hz, hx => by
    unfold rowR
    simp only
    rw [show tailZ Z b [] ++ zs = zs from rfl, h x (by simp) zs m hz]
    simp only
    rw [most_no (by simp at hlen ⊢; omega), take_no hx]
    rfl
  | y :: l, x, 0, _, _, _, _, _, hn, _, _ => by simp at hn
  | y :: l, x, n + 1, acc, zs, m, h, hlen, hn, hz, hx => by
    have e : tailZ Z b (y :: l) ++ zs = b :: (Z y ++ (tailZ Z b l ++ zs)) := by simp [tailZ]
    unfold rowR
    simp only
    rw [e, h x (by simp) _ m (hQ _)]
    simp only
    rw [most_no (by simp at hlen ⊢; omega), take_yes hb (by decide)]
    simp only
    rw [if_neg (by decide), row_read hb Q hQ l y n (acc ++ [x]) zs m (fun z hz => h z (by simp [hz])) (by simp at hlen ⊢; omega) (by simp at hn ⊢; omega) hz hx, List.append_assoc]
    rfl
theorem row_all {α : Type} {one : Pz → α × Pz} {btw : ByteArray} {Z : α → List Tk} {b : Tk} (hb : seesR [btw] (St [b] 0) = 1) (Q : List Tk → Prop) (hQ : ∀ zs, Q (b :: zs))
    {l : List α} (h1 : 1 ≤ l.length) (h8 : l.length ≤ 8) (h : ∀ y ∈ l, ∀ zs m, Q zs → one (St (Z y ++ zs) m) = (y, St zs m)) (hz1 : ∀ y ∈ l, 1 ≤ (Z y).length) {zs : List Tk} (hz : Q zs) (hx : Nx [btw] zs) (m : Nat) :
    rowR one btw (rowZ Z b l ++ zs).length [] (St (rowZ Z b l ++ zs) m) = (l, St zs m) := by
  cases l with
  | nil => simp at h1
  | cons x l =>
    have e : rowZ Z b (x :: l) ++ zs = Z x ++ (tailZ Z b l ++ zs) := by simp [rowZ]
    have hl : (x :: l).length ≤ (rowZ Z b (x :: l) ++ zs).length := by
      have := tail_len Z b l
      have := hz1 x (by simp)
      rw [e]
      simp only [List.length_append, List.length_cons]
      omega
    generalize (rowZ Z b (x :: l) ++ zs).length = n at *
    rw [e]
    exact row_read hb Q hQ l x n [] zs m h (by simpa using h8) hl hz hx
theorem matZ_len (x : Mat) : 1 ≤ (matZ x).length := by simp [matZ, attrZ]
theorem all_read {l : List Mat} (h : allE l = 0) {zs : List Tk} (hz : Nx [m_comma] zs) (m : Nat) : allOfR (St (allZ l ++ zs) m) = (l, St zs m) :=
  row_all (by decide +kernel) (fun _ => True) (fun _ => trivial) (allE_all h).1.1 (allE_all h).1.2 (fun y hy zs m _ => match_read ((allE_all h).2 y hy) zs m) (fun y _ => matZ_len y) trivial hz m
theorem allZ_len {l : List Mat} (h : 1 ≤ l.length) : 1 ≤ (allZ l).length := by
  cases l with
  | nil => simp at h
  | cons x l =>
    have := matZ_len x
    simp only [allZ, rowZ, List.length_append]
    omega
theorem any_read {l : List (List Mat)} (h : anyE l = 0) (zs : List Tk) (m : Nat) : anyOfR (St (anyZ l ++ zs) m) = (l, St zs m) := by
  obtain ⟨⟨h1, h8⟩, hl⟩ := anyE_all h
  have e : anyZ l ++ zs = tMark 40 :: (rowZ allZ (tName w_or) l ++ tMark 41 :: zs) := by simp [anyZ]
  rw [e]
  unfold anyOfR
  simp only
  rw [must_yes (i := 1) (by decide +kernel) (by decide)]
  simp only
  rw [row_all (by decide +kernel) (Nx [m_comma]) (fun zs => nx_of (by decide +kernel) zs) h1 h8 (fun y hy zs m hz => all_read (hl y hy) hz m) (fun y hy => allZ_len (allE_all (hl y hy)).1.1) (nx_of (by decide +kernel) _) (nx_of (by decide +kernel) _) m]
  simp only
  rw [must_yes (i := 1) (by decide +kernel) (by decide)]
theorem anyZ_len (l : List (List Mat)) : 1 ≤ (anyZ l).length := by simp [anyZ]
theorem target_read {t : Tgt} (h : tgE t = 0) {zs : List Tk} (h1 : Nx [w_when] zs) (h2 : Nx [w_and] zs) (m : Nat) : targetR (St (tgZ t ++ zs) m) = (t, St zs m) := by
  obtain ⟨h8, hl⟩ := tgE_all h
  unfold tgZ targetR
  split
  · rename_i h0
    rw [h0, List.nil_append, take_no h1]
    rfl
  · rename_i h0
    rw [List.cons_append, take_yes (i := 1) (by decide +kernel) (by decide)]
    simp only
    rw [if_neg (by decide)]
    exact row_all (by decide +kernel) (fun _ => True) (fun _ => trivial) (List.length_pos_iff.2 h0) h8 (fun y hy zs m _ => any_read (hl y hy) zs m) (fun y _ => anyZ_len y) trivial h2 m
theorem duts_read : ∀ (l : List Dut) (n : Nat) (acc : List Dut) (zs : List Tk) (m : Nat), (∀ o ∈ l, dutE o = 0) → acc.length + l.length ≤ 8 → l.length < n → Nx [w_on] zs → dutiesR n acc (St (l.flatMap dutZ ++ zs) m) = (acc ++ l, St zs m)
  | [], 0, _, _, _, _, _, hn, _ => by simp at hn
  | [], n + 1, acc, zs, m, _, _, _, hx => by
    unfold dutiesR
    rw [show List.flatMap dutZ [] ++ zs = zs from rfl, take_no hx]
    simp
  | o :: l, 0, _, _, _, _, _, hn, _ => by simp at hn
  | o :: l, n + 1, acc, zs, m, h, h8, hn, hx => by
    obtain ⟨h1, h2, h3⟩ := dutE_all (h o (by simp))
    have e : (o :: l).flatMap dutZ ++ zs = tName w_on :: wTk (effW (decide (o.on = 2))) :: wTk (doW o.kind) :: tName o.arg :: (l.flatMap dutZ ++ zs) := by simp [dutZ]
    unfold dutiesR
    rw [e, take_yes (i := 1) (by decide +kernel) (by decide)]
    simp only
    rw [if_neg (by decide), must_yes (t := wTk (effW (decide (o.on = 2)))) (i := o.on.toNat) (by rcases h1 with h | h <;> (rw [h]; decide +kernel)) (by omega)]
    simp only
    rw [must_yes (t := wTk (doW o.kind)) (i := o.kind.toNat) (by rcases h2 with h | h | h | h <;> (rw [h]; decide +kernel)) (by omega)]
    simp only
    rw [name_read]
    simp only
    have e1 : ((o.on.toNat : Nat) : Int) = o.on := by omega
    have e2 : ((o.kind.toNat : Nat) : Int) = o.kind := by omega
    rw [e1, e2, most_no (by simp at h8 ⊢; omega), duts_read l n (acc ++ [o]) zs m (fun x hx => h x (by simp [hx])) (by simp at h8 ⊢; omega) (by simp at hn ⊢; omega) hx, List.append_assoc]
    rfl
theorem ob_read {l : List Dut} (h : obE l = 0) {zs : List Tk} (hz : 1 ≤ zs.length) (hx : Nx [w_on] zs) (m : Nat) : dutsR (St (l.flatMap dutZ ++ zs) m) = (l, St zs m) := by
  have hl : ∀ l : List Dut, l.length ≤ (l.flatMap dutZ).length := by
    intro l
    induction l with
    | nil => simp
    | cons o l ih => simp only [List.flatMap_cons, List.length_append, List.length_cons]; have : (dutZ o).length = 4 := rfl; omega
  unfold dutsR
  exact duts_read l _ [] zs m (obE_all h).2 (by simpa using (obE_all h).1) (by have := hl l; simp only [List.length_append]; omega) hx
end Go.Proofs.YtdbnaaddocahpaaDoor
/- Expressions as text, plainly: as trees; their tokens; what is read of them. -/
namespace Go.Proofs.YtdbnaaddocahpaaDoor
set_option linter.unusedVariables false

inductive Xt where
  | leaf (n : Nod)
  | one (n : Nod) (x : Xt)
  | two (n : Nod) (x y : Xt)
def Xt.flat : Xt → List Nod
  | .leaf n => [n]
  | .one n x => x.flat ++ [n]
  | .two n x y => x.flat ++ (y.flat ++ [n])
def Xt.bag : Xt → Bool
  | .leaf n => decide (n.op = 2)
  | _ => false
def twoOp (op : Int) : Prop := op = 6 ∨ op = 7 ∨ op = 8 ∨ op = 9 ∨ op = 10 ∨ op = 12 ∨ op = 13
def Xt.fits : Xt → Prop
  | .leaf n => (n.op = 1 ∨ n.op = 2) ∧ holdsB n = true
  | .one n x => holdsB n = true ∧ ((n.op = 3 ∨ n.op = 4) ∧ x.bag = true ∨ n.op = 11 ∧ x.bag = false) ∧ x.fits
  | .two n x y => holdsB n = true ∧ (n.op = 5 ∧ x.bag = true ∨ twoOp n.op ∧ x.bag = false) ∧ y.bag = false ∧ x.fits ∧ y.fits
def Xt.txt : Xt → List UInt8
  | .leaf n => nodeT n []
  | .one n x => nodeT n [x.txt]
  | .two n x y => nodeT n [x.txt, y.txt]

theorem stepT_app (S P : List (List UInt8)) (n : Nod) (h : P.length = takesN n.op) : stepT (S ++ P) n = S ++ [nodeT n P] := by
  unfold stepT
  have e : (S ++ P).length - takesN n.op = S.length := by rw [List.length_append]; omega
  rw [e, List.take_left, List.drop_left]
/-- The stack, the last one first. -/
def flats (ts : List Xt) : List Nod := (ts.reverse.map Xt.flat).flatten
def txts (ts : List Xt) : List (List UInt8) := ts.reverse.map Xt.txt
theorem flats_cons (x : Xt) (ts : List Xt) : flats (x :: ts) = flats ts ++ x.flat := by simp [flats]
theorem txts_cons (x : Xt) (ts : List Xt) : txts (x :: ts) = txts ts ++ [x.txt] := by simp [txts]
theorem popX_cases {op : Int} {st st' : List Bool} (h : popX op st = some st') :
    (op = 1 ∨ op = 2) ∧ st' = decide (op = 2) :: st ∨ (∃ r, ((op = 3 ∨ op = 4) ∧ st = true :: r ∨ op = 11 ∧ st = false :: r) ∧ st' = false :: r) ∨ (∃ r, (op = 5 ∧ st = false :: true :: r ∨ twoOp op ∧ st = false :: false :: r) ∧ st' = false :: r) := by
  rcases ops_cases op with rfl | rfl | rfl | rfl | rfl | rfl | rfl | rfl | rfl | rfl | rfl | rfl | rfl | hh
  case inr.inr.inr.inr.inr.inr.inr.inr.inr.inr.inr.inr.inr =>
    obtain ⟨h1, h2, h3, h4, h5, h6, h7, h8, h9, h10, h11, h12, h13⟩ := hh
    simp [popX, h1, h2, h3, h4, h5, h6, h7, h8, h9, h10, h11, h12, h13] at h
  all_goals
    rcases st with _ | ⟨_ | _, _ | ⟨_ | _, st⟩⟩ <;> simp [popX] at h <;> subst h <;> simp [twoOp]
theorem run_trees : ∀ (l : List Nod) (st : List Xt) (st' : List Bool), (∀ x ∈ st, x.fits) → runX l (st.map Xt.bag) = some st' →
    ∃ ts : List Xt, (∀ x ∈ ts, x.fits) ∧ ts.map Xt.bag = st' ∧ flats st ++ l = flats ts ∧ l.foldl stepT (txts st) = txts ts
  | [], st, st', hf, h => by
    simp only [runX, Option.some.injEq] at h
    exact ⟨st, hf, h, by simp, rfl⟩
  | n :: l, st, st', hf, h => by
    have key : ∃ st1 : List Xt, (∀ x ∈ st1, x.fits) ∧ stepX n (st.map Xt.bag) = some (st1.map Xt.bag) ∧ flats st ++ [n] = flats st1 ∧ stepT (txts st) n = txts st1 := by
      simp only [runX] at h
      cases hs : stepX n (st.map Xt.bag) with
      | none => rw [hs] at h; cases h
      | some s1 =>
        have hs' := hs
        unfold stepX at hs'
        split at hs'
        · rename_i hh
          rcases popX_cases hs' with ⟨ho, he⟩ | ⟨r, ho, he⟩ | ⟨r, ho, he⟩
          · refine ⟨.leaf n :: st, ?_, ?_, ?_, ?_⟩
            · intro x hx
              rcases List.mem_cons.1 hx with rfl | hx
              · exact ⟨ho, hh⟩
              · exact hf x hx
            · rw [he]; rfl
            · rw [flats_cons]; rfl
            · have := stepT_app (txts st) [] n (by unfold takesN; rw [if_pos ho]; rfl)
              rw [List.append_nil] at this
              rw [txts_cons]
              exact this
          · obtain ⟨x, xs, rfl, hb, hr⟩ : ∃ x xs, st = x :: xs ∧ ((n.op = 3 ∨ n.op = 4) ∧ x.bag = true ∨ n.op = 11 ∧ x.bag = false) ∧ xs.map Xt.bag = r := by
              cases st with
              | nil => rcases ho with ⟨_, ho⟩ | ⟨_, ho⟩ <;> cases ho
              | cons x xs =>
                simp only [List.map_cons, List.cons.injEq] at ho
                rcases ho with ⟨a, b, c⟩ | ⟨a, b, c⟩
                · exact ⟨x, xs, rfl, .inl ⟨a, b⟩, c⟩
                · exact ⟨x, xs, rfl, .inr ⟨a, b⟩, c⟩
            refine ⟨.one n x :: xs, ?_, ?_, ?_, ?_⟩
            · intro y hy
              rcases List.mem_cons.1 hy with rfl | hy
              · exact ⟨hh, hb, hf x (by simp)⟩
              · exact hf y (by simp [hy])
            · rw [he, ← hr]; rfl
            · rw [flats_cons, flats_cons, List.append_assoc]; rfl
            · rw [txts_cons, txts_cons, stepT_app _ [x.txt] n (by unfold takesN; rw [if_neg (by rcases hb with ⟨h, _⟩ | ⟨h, _⟩ <;> omega), if_pos (by rcases hb with ⟨h, _⟩ | ⟨h, _⟩ <;> omega)]; rfl)]
              rfl
          · obtain ⟨x, y, xs, rfl, hb, hy, hr⟩ : ∃ x y xs, st = y :: x :: xs ∧ (n.op = 5 ∧ x.bag = true ∨ twoOp n.op ∧ x.bag = false) ∧ y.bag = false ∧ xs.map Xt.bag = r := by
              rcases st with _ | ⟨y, _ | ⟨x, xs⟩⟩
              · rcases ho with ⟨_, ho⟩ | ⟨_, ho⟩ <;> cases ho
              · rcases ho with ⟨_, ho⟩ | ⟨_, ho⟩ <;> simp at ho
              · simp only [List.map_cons, List.cons.injEq] at ho
                rcases ho with ⟨a, b, c, d⟩ | ⟨a, b, c, d⟩
                · exact ⟨x, y, xs, rfl, .inl ⟨a, c⟩, b, d⟩
                · exact ⟨x, y, xs, rfl, .inr ⟨a, c⟩, b, d⟩
            refine ⟨.two n x y :: xs, ?_, ?_, ?_, ?_⟩
            · intro z hz
              rcases List.mem_cons.1 hz with rfl | hz
              · exact ⟨hh, hb, hy, hf x (by simp), hf y (by simp)⟩
              · exact hf z (by simp [hz])
            · rw [he, ← hr]; rfl
            · rw [flats_cons, flats_cons, flats_cons]
              simp only [List.append_assoc]
              rfl
            · rw [txts_cons, txts_cons, txts_cons, List.append_assoc, stepT_app _ ([x.txt] ++ [y.txt]) n (by unfold takesN; unfold twoOp at hb; rw [if_neg (by rcases hb with ⟨h, _⟩ | ⟨h, _⟩ <;> omega), if_neg (by rcases hb with ⟨h, _⟩ | ⟨h, _⟩ <;> omega)]; rfl)]
              rfl
        · cases hs'
    obtain ⟨st1, f1, b1, l1, t1⟩ := key
    have h2 : runX l (st1.map Xt.bag) = some st' := by
      simp only [runX, b1] at h
      exact h
    obtain ⟨ts, f2, b2, l2, t2⟩ := run_trees l st1 st' f1 h2
    refine ⟨ts, f2, b2, ?_, ?_⟩
    · rw [← l2, ← l1, List.append_assoc]; rfl
    · rw [List.foldl_cons, t1, t2]
/-- A right expression is a tree. -/
theorem expr_tree {l : List Nod} (h : exprE l = 0) (hn : l ≠ []) : ∃ t : Xt, t.fits ∧ t.bag = false ∧ l = t.flat ∧ exprT l = t.txt ∧ l.length ≤ 32 := by
  have h32 : l.length ≤ 32 ∧ runX l [] = some [false] := by
    unfold exprE at h
    split at h
    · cases h
    · rename_i h32
      refine ⟨by omega, ?_⟩
      cases hr : runX l [] with
      | none => rw [hr] at h; cases h
      | some st =>
        rw [hr] at h
        simp only at h
        split at h
        · rename_i hh
          rcases hh with hh | hh
          · exact absurd hh hn
          · rw [hh]
        · cases h
  obtain ⟨ts, hf, hb, hl, ht⟩ := run_trees l [] [false] (fun x hx => by cases hx) h32.2
  rcases ts with _ | ⟨t, _ | ⟨u, ts⟩⟩
  · cases hb
  · simp only [List.map_cons, List.map_nil, List.cons.injEq, and_true] at hb
    refine ⟨t, hf t (by simp), hb, ?_, ?_, h32.1⟩
    · have : l = flats [t] := hl
      rw [this]
      simp [flats]
    · unfold exprT stackT
      have : l.foldl stepT [] = txts [t] := ht
      rw [this]
      rfl
  · simp at hb

def Xt.toks : Xt → List Tk
  | .leaf n => if n.op = 1 then [vZ n.v] else attrZ n.a
  | .one n x => tMark 40 :: wTk (fnW n.op) :: (x.toks ++ [tMark 41])
  | .two n x y => tMark 40 :: wTk (fnW n.op) :: ((x.toks ++ y.toks) ++ [tMark 41])
theorem holds_lit {n : Nod} (h : holdsB n = true) (h1 : n.op = 1) : n.v.right ∧ n = ⟨1, n.v, zeroA⟩ := by
  unfold holdsB at h
  rw [if_pos h1, Bool.and_eq_true, decide_eq_true_eq, decide_eq_true_eq] at h
  exact ⟨h.1, Nod.ext' h1 rfl h.2⟩
theorem holds_att {n : Nod} (h : holdsB n = true) (h2 : n.op = 2) : attrB n.a = true ∧ n = ⟨2, zeroV, n.a⟩ := by
  unfold holdsB at h
  rw [if_neg (by omega), if_pos h2, Bool.and_eq_true, decide_eq_true_eq] at h
  exact ⟨h.2, Nod.ext' h2 h.1 rfl⟩
theorem holds_fun {n : Nod} (h : holdsB n = true) (h1 : n.op ≠ 1) (h2 : n.op ≠ 2) : n = ⟨n.op, zeroV, zeroA⟩ := by
  unfold holdsB at h
  rw [if_neg h1, if_neg h2, Bool.and_eq_true, decide_eq_true_eq, decide_eq_true_eq] at h
  exact Nod.ext' rfl h.1 h.2
theorem join_two (a b : List UInt8) : Lib.join [a, b] [32] = a ++ 32 :: b := by
  rw [Lib.join_cons]; simp [Lib.joinTail]
theorem nodeT_fun {n : Nod} (h1 : n.op ≠ 1) (h2 : n.op ≠ 2) (ps : List (List UInt8)) : nodeT n ps = 40 :: (fnW n.op ++ 32 :: (Lib.join ps [32] ++ [41])) := by
  unfold nodeT
  rw [if_neg h1, if_neg h2]
theorem one_op {n : Nod} {b : Bool} (h : (n.op = 3 ∨ n.op = 4) ∧ b = true ∨ n.op = 11 ∧ b = false) : n.op ≠ 1 ∧ n.op ≠ 2 := by omega
theorem two_op {n : Nod} {b : Bool} (h : n.op = 5 ∧ b = true ∨ twoOp n.op ∧ b = false) : n.op ≠ 1 ∧ n.op ≠ 2 := by unfold twoOp at h; omega
theorem one_tree : ∀ {t : Xt}, t.fits → (∀ n ∈ t.flat, n.ok) → One t.txt t.toks
  | .leaf n, hf, hok => by
    obtain ⟨ho, hh⟩ := hf
    simp only [Xt.txt, Xt.toks, nodeT]
    rcases ho with ho | ho
    · rw [if_pos ho, if_pos ho]
      exact one_val (holds_lit hh ho).1 (hok n (by simp [Xt.flat])).2.1.2.1
    · rw [if_neg (by omega), if_pos ho, if_neg (by omega)]
      exact one_attrS (holds_att hh ho).1
  | .one n x, hf, hok => by
    obtain ⟨hh, ho, hx⟩ := hf
    have hn := one_op ho
    have i := one_tree hx (fun k hk => hok k (by simp [Xt.flat, hk]))
    simp only [Xt.txt, Xt.toks]
    rw [nodeT_fun hn.1 hn.2, Lib.join_one]
    exact ((one_name (fnW_named n.op)).sp (i.behind (by decide) Zx.m41)).ahead Zx.m40
  | .two n x y, hf, hok => by
    obtain ⟨hh, ho, hy, fx, fy⟩ := hf
    have hn := two_op ho
    have i := one_tree fx (fun k hk => hok k (by simp [Xt.flat, hk]))
    have j := one_tree fy (fun k hk => hok k (by simp [Xt.flat, hk]))
    simp only [Xt.txt, Xt.toks]
    rw [nodeT_fun hn.1 hn.2, join_two]
    exact ((one_name (fnW_named n.op)).sp ((i.sp j).behind (by decide) Zx.m41)).ahead Zx.m40

/-- No value's token is one of these words. -/
theorem val_no {v : Vl} (h : v.right) {ws : List ByteArray} (hw : seesR ws (St [tName w_true] 0) = 0 ∧ seesR ws (St [tName w_false] 0) = 0) (zs : List Tk) : Nx ws (vZ v :: zs) := by
  have hk := show_cases h
  have other : ∀ (k n : Int) (s : ByteArray), k ≠ 1 → k ≠ 6 → Nx ws (⟨k, 0, n, s⟩ :: zs) := by
    intro k n s h1 h6
    unfold Nx seesR
    have e : (St (⟨k, 0, n, s⟩ :: zs) 0).hd.k = k := rfl
    rw [e, if_neg (by omega)]
  unfold vZ
  split
  · split
    · exact hw.1
    · exact hw.2
  · split
    · exact other 2 _ _ (by decide) (by decide)
    · split
      · exact other 5 _ _ (by decide) (by decide)
      · split
        · exact other 3 _ _ (by decide) (by decide)
        · exact other 4 _ _ (by decide) (by decide)
theorem cat_no {n : Int} (h : n = 1 ∨ n = 2 ∨ n = 3 ∨ n = 4) {ws : List ByteArray} (hw : ∀ c ∈ [w_subject, w_action, w_case, w_env], seesR ws (St [tName c] 0) = 0) (zs : List Tk) : Nx ws (wTk (catW n) :: zs) := by
  rcases h with rfl | rfl | rfl | rfl
  · exact hw w_subject (by simp)
  · exact hw w_action (by simp)
  · exact hw w_case (by simp)
  · exact hw w_env (by simp)
/-- What an expression begins with is none of these words. -/
theorem tree_no {t : Xt} (hf : t.fits) {ws : List ByteArray} (h1 : seesR ws (St [tName w_true] 0) = 0 ∧ seesR ws (St [tName w_false] 0) = 0) (h2 : ∀ c ∈ [w_subject, w_action, w_case, w_env], seesR ws (St [tName c] 0) = 0) (h3 : seesR ws (St [tMark 40] 0) = 0) (zs : List Tk) : Nx ws (t.toks ++ zs) := by
  cases t with
  | leaf n =>
    obtain ⟨ho, hh⟩ := hf
    simp only [Xt.toks]
    rcases ho with ho | ho
    · rw [if_pos ho]; exact val_no (holds_lit hh ho).1 h1 zs
    · rw [if_neg (by omega)]; exact cat_no (attrB_all (holds_att hh ho).1).1 h2 _
  | one n x => exact h3
  | two n x y => exact h3
theorem fn_read {op : Int} (h : 3 ≤ op ∧ op ≤ 13) (zs : List Tk) (m : Nat) : mustR [w_one, w_size, w_has, w_eq, w_less, w_add, w_sub, w_mul, w_not, w_and, w_or] (St (wTk (fnW op) :: zs) m) = ((op - 2).toNat, St zs m) := by
  have : op = 3 ∨ op = 4 ∨ op = 5 ∨ op = 6 ∨ op = 7 ∨ op = 8 ∨ op = 9 ∨ op = 10 ∨ op = 11 ∨ op = 12 ∨ op = 13 := by omega
  rcases this with rfl | rfl | rfl | rfl | rfl | rfl | rfl | rfl | rfl | rfl | rfl <;> exact must_yes (by decide +kernel) (by decide) zs m
theorem nod_read {bag : Bool} {n : Nod} {acc : List Nod} (hb : bag = decide (n.op = 2)) (hl : acc.length < 32) (p : Int) (s : Pz) : nodR bag p acc n s = (acc ++ [n], s) := by
  unfold nodR
  rw [most_no (by simp only [List.length_append, List.length_cons, List.length_nil]; omega)]
  rw [hb]
  simp
theorem expr_read : ∀ {t : Xt}, t.fits → ∀ (n : Nat) (acc : List Nod) (zs : List Tk) (m : Nat), acc.length + t.flat.length ≤ 32 → t.flat.length ≤ n → Nx [m_bang] zs → exprR n acc t.bag (St (t.toks ++ zs) m) = (acc ++ t.flat, St zs m)
  | .leaf k, hf, 0, _, _, _, _, hn, _ => by simp [Xt.flat] at hn
  | .leaf k, hf, n + 1, acc, zs, m, hl, hn, hb => by
    obtain ⟨ho, hh⟩ := hf
    simp only [Xt.flat, List.length_cons, List.length_nil] at hl
    simp only [Xt.toks, Xt.flat, Xt.bag]
    unfold exprR
    rcases ho with ho | ho
    · obtain ⟨hr, he⟩ := holds_lit hh ho
      rw [if_pos ho, List.singleton_append, take_no (val_no hr (by decide +kernel) zs)]
      simp only
      rw [if_neg (by omega)]
      unfold leafR
      have hc : catR (St (vZ k.v :: zs) m) = (0, St (vZ k.v :: zs) m) := take_no (val_no hr (by decide +kernel) zs) m
      rw [hc]
      simp only
      rw [if_neg (by omega), val_read hr, ← he]
      exact nod_read rfl (by omega) _ _
    · obtain ⟨ha, he⟩ := holds_att hh ho
      obtain ⟨hc, _⟩ := attrB_all ha
      rw [if_neg (show ¬ k.op = 1 by omega)]
      have e : attrZ k.a ++ zs = wTk (catW k.a.cat) :: (restZ k.a ++ zs) := rfl
      rw [e, take_no (cat_no hc (by decide +kernel) _)]
      simp only
      rw [if_neg (by omega)]
      unfold leafR
      rw [cat_read hc]
      simp only
      rw [if_pos (by omega), toNat_cat hc, attr_read (by omega) hb, ← he]
      exact nod_read rfl (by omega) _ _
  | .one k x, hf, 0, _, _, _, _, hn, _ => by simp [Xt.flat] at hn
  | .one k x, hf, n + 1, acc, zs, m, hl, hn, hb => by
    obtain ⟨hh, ho, hx⟩ := hf
    have hne := one_op ho
    have he := holds_fun hh hne.1 hne.2
    simp only [Xt.flat, List.length_append, List.length_cons, List.length_nil] at hl hn
    have e : (Xt.one k x).toks ++ zs = tMark 40 :: wTk (fnW k.op) :: (x.toks ++ tMark 41 :: zs) := by simp [Xt.toks]
    have hop : 2 + (((k.op - 2).toNat : Nat) : Int) = k.op := by omega
    have hib : isBag k.op = x.bag := by
      unfold isBag
      rcases ho with ⟨a, b⟩ | ⟨a, b⟩
      · rw [b]; rcases a with a | a <;> rw [a] <;> decide
      · rw [b, a]; decide
    have hit : isTwo k.op = false := by
      unfold isTwo
      rcases ho with ⟨a | a, b⟩ | ⟨a, b⟩ <;> rw [a] <;> decide
    have ih := expr_read hx n acc (tMark 41 :: zs) m (by omega) (by omega) (nx_of (by decide +kernel) _)
    unfold exprR
    rw [e, take_yes (i := 1) (by decide +kernel) (by decide)]
    simp only
    rw [if_pos (by omega)]
    unfold callR
    simp only
    rw [fn_read (by omega)]
    simp only
    rw [hop, hib, hit, ih]
    simp only [Bool.false_eq_true, if_false]
    rw [must_yes (i := 1) (by decide +kernel) (by decide)]
    simp only
    rw [← he, show (Xt.one k x).bag = false from rfl, nod_read (show false = decide (k.op = 2) by rw [decide_eq_false hne.2]) (by simp only [List.length_append]; omega)]
    simp [Xt.flat]
  | .two k x y, hf, 0, _, _, _, _, hn, _ => by simp [Xt.flat] at hn
  | .two k x y, hf, n + 1, acc, zs, m, hl, hn, hb => by
    obtain ⟨hh, ho, hy, fx, fy⟩ := hf
    have hne := two_op ho
    have he := holds_fun hh hne.1 hne.2
    simp only [Xt.flat, List.length_append, List.length_cons, List.length_nil] at hl hn
    have e : (Xt.two k x y).toks ++ zs = tMark 40 :: wTk (fnW k.op) :: (x.toks ++ (y.toks ++ tMark 41 :: zs)) := by simp [Xt.toks]
    have hop : 2 + (((k.op - 2).toNat : Nat) : Int) = k.op := by unfold twoOp at ho; omega
    have hib : isBag k.op = x.bag := by
      unfold isBag
      unfold twoOp at ho
      rcases ho with ⟨a, b⟩ | ⟨a, b⟩
      · rw [b, a]; decide
      · rw [b]; rcases a with a | a | a | a | a | a | a <;> rw [a] <;> decide
    have hit : isTwo k.op = true := by
      unfold isTwo
      unfold twoOp at ho
      rcases ho with ⟨a, b⟩ | ⟨a | a | a | a | a | a | a, b⟩ <;> rw [a] <;> decide
    have ih := expr_read fx n acc (y.toks ++ tMark 41 :: zs) m (by omega) (by omega) (tree_no fy (by decide +kernel) (by decide +kernel) (by decide +kernel) _)
    have jh := expr_read fy n (acc ++ x.flat) (tMark 41 :: zs) m (by simp only [List.length_append]; omega) (by omega) (nx_of (by decide +kernel) _)
    rw [hy] at jh
    unfold exprR
    rw [e, take_yes (i := 1) (by decide +kernel) (by decide)]
    simp only
    rw [if_pos (by omega)]
    unfold callR
    simp only
    rw [fn_read (by unfold twoOp at ho; omega)]
    simp only
    rw [hop, hib, hit, ih]
    simp only [if_true]
    rw [jh]
    simp only
    rw [must_yes (i := 1) (by decide +kernel) (by decide)]
    simp only
    rw [← he, show (Xt.two k x y).bag = false from rfl, nod_read (show false = decide (k.op = 2) by rw [decide_eq_false hne.2]) (by simp only [List.length_append]; omega)]
    simp [Xt.flat]
end Go.Proofs.YtdbnaaddocahpaaDoor
/- A value as Go has it, and in a block of its own. -/
namespace Go.Proofs.YtdbnaaddocahpaaDoor
set_option linter.unusedVariables false
open Go.RowKit

/-- A value as Go has it. -/
def Vl.val (v : Vl) : Value := .agg #[.int .i64 v.k, .int .i64 v.n, .string v.s]
/-- Its cells. -/
def Vl.cells (v : Vl) : List Value := [.int .i64 v.k, .int .i64 v.n, .string v.s]

/-- A value in a block of its own. -/
def Bx (w : World) (g : Nat) (k n : Int) (s : ByteArray) : Prop := Ob w g 25 #[.int .i64 k, .int .i64 n, .string s]
section
variable {w w' : World} {g : Nat} {k n : Int} {s : ByteArray}
theorem Bx.made (w : World) (k n : Int) (s : ByteArray) : Bx (w.alloc (.cells #[.int .i64 k, .int .i64 n, .string s] 25)) w.heap.size k n s := Ob.made _ _ _
theorem Bx.lt (h : Bx w g k n s) : g < w.heap.size := Ob.lt h
theorem Bx.alloc (h : Bx w g k n s) (o : Obj) : Bx (w.alloc o) g k n s := Ob.keep h (Below.heap_alloc w o g h.lt)
theorem Bx.then_ (h : Bx w g k n s) (hb : Below w.heap.size w w') : Bx w' g k n s := Ob.below h hb h.lt
theorem Bx.below {B : Nat} (h : Bx w g k n s) (hb : Below B w w') (hg : g < B) : Bx w' g k n s := Ob.below h hb hg
theorem Bx.only {r : Nat} (h : Bx w g k n s) (ho : Only r w w') (hg : g ≠ r) : Bx w' g k n s := Ob.keep h (ho.heap h.lt hg)
theorem Bx.drewN (h : Bx w g k n s) (j : Nat) : Bx (w.drewN j) g k n s := h
theorem Bx.c3 (h : Bx w g k n s) : w.cell? ⟨g, 0, none⟩ = some (.int .i64 k) ∧ w.cell? ⟨g, 1, none⟩ = some (.int .i64 n) ∧ w.cell? ⟨g, 2, none⟩ = some (.string s) := ⟨Ob.cell h 0, Ob.cell h 1, Ob.cell h 2⟩
theorem Bx.fz (h : Bx w g k n s) (i : Nat) : w.frozen? ⟨g, i, none⟩ = false := Ob.frozen h i
theorem Bx.setS (h : Bx w g k n s) (s' : ByteArray) : Bx (w.setCell ⟨g, 2, none⟩ (.string s')) g k n s' := by unfold Bx; simpa using Ob.put h 2 (.string s')
theorem Bx.setN (h : Bx w g k n s) (n' : Int) : Bx (w.setCell ⟨g, 1, none⟩ (.int .i64 n')) g k n' s := by unfold Bx; simpa using Ob.put h 1 (.int .i64 n')
end
end Go.Proofs.YtdbnaaddocahpaaDoor
/- Policies in memory: rows of structs, of lists, of policies. -/
namespace Go.Proofs.YtdbnaaddocahpaaDoor
set_option linter.unusedVariables false
open Go.RowKit

/-- The slice 'A n c' reads as a row of so many cells each, which say l; they lie in blocks that R lets in. -/
def Rw {α : Type} (k : Nat) (P : List Value → α → Prop) (w : World) (R : Nat → Prop) (A : Option Addr) (n c : Nat) (l : List α) : Prop :=
  l.length = n ∧ n ≤ c ∧ (c ≤ maxLen ∧ n ≤ 140737488351232) ∧ (n = 0 ∨ ∃ b o, A = some ⟨b, o, none⟩ ∧ R b ∧ b < w.heap.size ∧ ∀ j x, l[j]? = some x → ∃ vs : List Value, vs.length = k ∧ (∀ i v, vs[i]? = some v → w.cell? ⟨b, o + j * k + i, none⟩ = some v) ∧ P vs x)

/-- What lies in R is kept. -/
def Kept (R : Nat → Prop) (w w' : World) : Prop := w.heap.size ≤ w'.heap.size ∧ ∀ b, R b → b < w.heap.size → w'.heap[b]? = w.heap[b]?
theorem Kept.refl (R : Nat → Prop) (w : World) : Kept R w w := ⟨Nat.le_refl _, fun _ _ _ => rfl⟩
theorem Kept.below {w w' : World} {B : Nat} (h : Below B w w') {R : Nat → Prop} (hR : ∀ b, R b → b < w.heap.size → b < B) : Kept R w w' := ⟨h.size, fun b hb hlt => h.block b (hR b hb hlt)⟩
theorem Kept.all {w w' : World} (h : Below w.heap.size w w') (R : Nat → Prop) : Kept R w w' := Kept.below h fun _ _ h => h
theorem Kept.trans {R : Nat → Prop} {a b c : World} (h1 : Kept R a b) (h2 : Kept R b c) : Kept R a c :=
  ⟨Nat.le_trans h1.1 h2.1, fun k hk hl => (h2.2 k hk (Nat.lt_of_lt_of_le hl h1.1)).trans (h1.2 k hk hl)⟩

section
variable {α : Type} {k : Nat} {P P' : List Value → α → Prop} {w w' : World} {R R' : Nat → Prop} {A : Option Addr} {n c : Nat} {l : List α}
theorem Rw.len (h : Rw k P w R A n c l) : l.length = n := h.1
theorem Rw.le (h : Rw k P w R A n c l) : n ≤ c := h.2.1
theorem Rw.cap (h : Rw k P w R A n c l) : c ≤ maxLen := h.2.2.1.1
theorem Rw.big (h : Rw k P w R A n c l) : n ≤ 140737488351232 := h.2.2.1.2
theorem Rw.nil_ (k : Nat) (P : List Value → α → Prop) (w : World) (R : Nat → Prop) : Rw k P w R none 0 0 [] := ⟨rfl, Nat.le_refl _, ⟨by simp [maxLen], by omega⟩, .inl rfl⟩
theorem Rw.keep (h : Rw k P w R A n c l) (hk : Kept R w w') (hR : ∀ b, R b → b < w.heap.size → R' b) (hP : ∀ vs x, x ∈ l → P vs x → P' vs x) : Rw k P' w' R' A n c l := by
  obtain ⟨h1, h2, h3, h4⟩ := h
  refine ⟨h1, h2, h3, ?_⟩
  rcases h4 with h4 | ⟨b, o, e, hb, hlt, hc⟩
  · exact .inl h4
  · refine .inr ⟨b, o, e, hR b hb hlt, Nat.lt_of_lt_of_le hlt hk.1, fun j x hx => ?_⟩
    obtain ⟨vs, hl, hv, hp⟩ := hc j x hx
    exact ⟨vs, hl, fun i v hi => (World.cell?_of_block (hk.2 b hb hlt)).trans (hv i v hi), hP vs x (List.mem_of_getElem? hx) hp⟩
theorem Rw.at_ (h : Rw k P w R A n c l) {j : Nat} (hj : j < n) : ∃ b o x vs, A = some ⟨b, o, none⟩ ∧ R b ∧ b < w.heap.size ∧ l[j]? = some x ∧ vs.length = k ∧ (∀ i v, vs[i]? = some v → w.cell? ⟨b, o + j * k + i, none⟩ = some v) ∧ P vs x := by
  obtain ⟨h1, h2, h3, h4⟩ := h
  rcases h4 with h4 | ⟨b, o, e, hb, hlt, hc⟩
  · omega
  · have hl : j < l.length := by omega
    obtain ⟨vs, a1, a2, a3⟩ := hc j l[j] (List.getElem?_eq_getElem hl)
    exact ⟨b, o, l[j], vs, e, hb, hlt, List.getElem?_eq_getElem hl, a1, a2, a3⟩
theorem Rw.take (h : Rw k P w R A n c l) {m : Nat} (hm : m ≤ n) : Rw k P w R A m c (l.take m) := by
  obtain ⟨h1, h2, h3, h4⟩ := h
  refine ⟨by rw [List.length_take]; omega, by omega, ⟨h3.1, by have := h3.2; omega⟩, ?_⟩
  rcases h4 with h4 | ⟨b, o, e, hb, hlt, hc⟩
  · left; omega
  · refine .inr ⟨b, o, e, hb, hlt, fun j x hx => hc j x ?_⟩
    rw [List.getElem?_take] at hx
    split at hx
    · exact hx
    · cases hx
end

def Atr.cells (a : Atr) : List Value := [.int .i64 a.cat, .string a.name, .bool a.must]
def Atr.val (a : Atr) : Value := .agg #[.int .i64 a.cat, .string a.name, .bool a.must]
def Mat.cells (m : Mat) : List Value := [.int .i64 m.a.cat, .string m.a.name, .bool m.a.must, .int .i64 m.op, .int .i64 m.v.k, .int .i64 m.v.n, .string m.v.s]
def Mat.val (m : Mat) : Value := .agg #[.int .i64 m.a.cat, .string m.a.name, .bool m.a.must, .int .i64 m.op, .int .i64 m.v.k, .int .i64 m.v.n, .string m.v.s]
def Nod.cells (m : Nod) : List Value := [.int .i64 m.op, .int .i64 m.v.k, .int .i64 m.v.n, .string m.v.s, .int .i64 m.a.cat, .string m.a.name, .bool m.a.must]
def Nod.val (m : Nod) : Value := .agg #[.int .i64 m.op, .int .i64 m.v.k, .int .i64 m.v.n, .string m.v.s, .int .i64 m.a.cat, .string m.a.name, .bool m.a.must]
def Dut.cells (m : Dut) : List Value := [.int .i64 m.on, .int .i64 m.kind, .string m.arg]
def Dut.val (m : Dut) : Value := .agg #[.int .i64 m.on, .int .i64 m.kind, .string m.arg]

/-- A row of matches, of AllOfs, of AnyOfs; of nodes; of duties. -/
def Ms (w : World) (R : Nat → Prop) := Rw 7 (fun vs (m : Mat) => vs = m.cells ∧ m.ok) w R
def Als (w : World) (R : Nat → Prop) := Rw 1 (fun vs (l : List Mat) => ∃ A n c, vs = [.slice A n c] ∧ Ms w R A n c l) w R
def Tg (w : World) (R : Nat → Prop) := Rw 1 (fun vs (l : List (List Mat)) => ∃ A n c, vs = [.slice A n c] ∧ Als w R A n c l) w R
def Nds (w : World) (R : Nat → Prop) := Rw 7 (fun vs (m : Nod) => vs = m.cells ∧ m.ok) w R
def Dus (w : World) (R : Nat → Prop) := Rw 3 (fun vs (m : Dut) => vs = m.cells ∧ m.ok) w R
/-- A rule's cells. -/
def RulAt (w : World) (R : Nat → Prop) (vs : List Value) (r : Rul) : Prop :=
  ∃ A1 n1 c1 A2 n2 c2 A3 n3 c3, vs = [.string r.id, .bool r.deny, .slice A1 n1 c1, .slice A2 n2 c2, .slice A3 n3 c3] ∧ r.id.size ≤ maxLen ∧ Tg w R A1 n1 c1 r.tg ∧ Nds w R A2 n2 c2 r.cond ∧ Dus w R A3 n3 c3 r.ob
def Rus (w : World) (R : Nat → Prop) := Rw 5 (RulAt w R) w R
/-- A policy's cells, of no more than so many depths. -/
def PolAt (w : World) (R : Nat → Prop) : Nat → List Value → Pol → Prop
  | 0, _, _ => False
  | d + 1, vs, p => ∃ A1 n1 c1 A2 n2 c2 A3 n3 c3 A4 n4 c4, vs = [.string p.id, .bool p.set, .int .i64 p.alg, .slice A1 n1 c1, .slice A2 n2 c2, .slice A3 n3 c3, .slice A4 n4 c4] ∧ p.id.size ≤ maxLen ∧ InI p.alg ∧
      Tg w R A1 n1 c1 p.tg ∧ Rus w R A2 n2 c2 p.rules ∧ Rw 7 (PolAt w R d) w R A3 n3 c3 p.kids ∧ Dus w R A4 n4 c4 p.ob
def Pls (w : World) (R : Nat → Prop) (d : Nat) := Rw 7 (PolAt w R d) w R

section
variable {w w' : World} {R R' : Nat → Prop} {A : Option Addr} {n c : Nat}
theorem Ms.keep {l : List Mat} (h : Ms w R A n c l) (hk : Kept R w w') (hR : ∀ b, R b → b < w.heap.size → R' b) : Ms w' R' A n c l := Rw.keep h hk hR fun _ _ _ h => h
theorem Nds.keep {l : List Nod} (h : Nds w R A n c l) (hk : Kept R w w') (hR : ∀ b, R b → b < w.heap.size → R' b) : Nds w' R' A n c l := Rw.keep h hk hR fun _ _ _ h => h
theorem Dus.keep {l : List Dut} (h : Dus w R A n c l) (hk : Kept R w w') (hR : ∀ b, R b → b < w.heap.size → R' b) : Dus w' R' A n c l := Rw.keep h hk hR fun _ _ _ h => h
theorem Als.keep {l : List (List Mat)} (h : Als w R A n c l) (hk : Kept R w w') (hR : ∀ b, R b → b < w.heap.size → R' b) : Als w' R' A n c l :=
  Rw.keep h hk hR fun _ _ _ ⟨a, b, c, e, h⟩ => ⟨a, b, c, e, h.keep hk hR⟩
theorem Tg.keep {l : Tgt} (h : Tg w R A n c l) (hk : Kept R w w') (hR : ∀ b, R b → b < w.heap.size → R' b) : Tg w' R' A n c l :=
  Rw.keep h hk hR fun _ _ _ ⟨a, b, c, e, h⟩ => ⟨a, b, c, e, h.keep hk hR⟩
theorem RulAt.keep {vs : List Value} {r : Rul} (h : RulAt w R vs r) (hk : Kept R w w') (hR : ∀ b, R b → b < w.heap.size → R' b) : RulAt w' R' vs r := by
  obtain ⟨A1, n1, c1, A2, n2, c2, A3, n3, c3, e, h0, h1, h2, h3⟩ := h
  exact ⟨A1, n1, c1, A2, n2, c2, A3, n3, c3, e, h0, h1.keep hk hR, h2.keep hk hR, h3.keep hk hR⟩
theorem Rus.keep {l : List Rul} (h : Rus w R A n c l) (hk : Kept R w w') (hR : ∀ b, R b → b < w.heap.size → R' b) : Rus w' R' A n c l := Rw.keep h hk hR fun _ _ _ h => h.keep hk hR
theorem PolAt.keep (hk : Kept R w w') (hR : ∀ b, R b → b < w.heap.size → R' b) : ∀ {d : Nat} {vs : List Value} {p : Pol}, PolAt w R d vs p → PolAt w' R' d vs p
  | 0, _, _, h => h
  | d + 1, _, _, ⟨A1, n1, c1, A2, n2, c2, A3, n3, c3, A4, n4, c4, e, h0, h00, h1, h2, h3, h4⟩ =>
    ⟨A1, n1, c1, A2, n2, c2, A3, n3, c3, A4, n4, c4, e, h0, h00, h1.keep hk hR, h2.keep hk hR, Rw.keep h3 hk hR fun _ _ _ h => PolAt.keep hk hR h, h4.keep hk hR⟩
theorem Pls.keep {d : Nat} {l : List Pol} (h : Pls w R d A n c l) (hk : Kept R w w') (hR : ∀ b, R b → b < w.heap.size → R' b) : Pls w' R' d A n c l := Rw.keep h hk hR fun _ _ _ h => PolAt.keep hk hR h
theorem PolAt.more : ∀ {d d' : Nat} {vs : List Value} {p : Pol}, d ≤ d' → PolAt w R d vs p → PolAt w R d' vs p
  | 0, _, _, _, _, h => h.elim
  | d + 1, 0, _, _, hd, _ => by omega
  | d + 1, d' + 1, _, _, hd, ⟨A1, n1, c1, A2, n2, c2, A3, n3, c3, A4, n4, c4, e, h0, h00, h1, h2, h3, h4⟩ =>
    ⟨A1, n1, c1, A2, n2, c2, A3, n3, c3, A4, n4, c4, e, h0, h00, h1, h2, Rw.keep h3 (Kept.refl _ _) (fun _ h _ => h) fun _ _ _ h => PolAt.more (by omega) h, h4⟩

theorem Ms.at_ {l : List Mat} (h : Ms w R A n c l) {j : Nat} (hj : j < n) : ∃ b o m, A = some ⟨b, o, none⟩ ∧ R b ∧ b < w.heap.size ∧ l[j]? = some m ∧ m.ok ∧
    (w.cell? ⟨b, o + j * 7, none⟩ = some (.int .i64 m.a.cat) ∧ w.cell? ⟨b, o + j * 7 + 1, none⟩ = some (.string m.a.name) ∧ w.cell? ⟨b, o + j * 7 + 2, none⟩ = some (.bool m.a.must) ∧ w.cell? ⟨b, o + j * 7 + 3, none⟩ = some (.int .i64 m.op) ∧
      w.cell? ⟨b, o + j * 7 + 4, none⟩ = some (.int .i64 m.v.k) ∧ w.cell? ⟨b, o + j * 7 + 5, none⟩ = some (.int .i64 m.v.n) ∧ w.cell? ⟨b, o + j * 7 + 6, none⟩ = some (.string m.v.s)) := by
  obtain ⟨b, o, m, vs, e, hb, hlt, hm, hl, hv, rfl, hok⟩ := Rw.at_ h hj
  exact ⟨b, o, m, e, hb, hlt, hm, hok, hv 0 _ rfl, hv 1 _ rfl, hv 2 _ rfl, hv 3 _ rfl, hv 4 _ rfl, hv 5 _ rfl, hv 6 _ rfl⟩
theorem Nds.at_ {l : List Nod} (h : Nds w R A n c l) {j : Nat} (hj : j < n) : ∃ b o m, A = some ⟨b, o, none⟩ ∧ R b ∧ b < w.heap.size ∧ l[j]? = some m ∧ m.ok ∧
    (w.cell? ⟨b, o + j * 7, none⟩ = some (.int .i64 m.op) ∧ w.cell? ⟨b, o + j * 7 + 1, none⟩ = some (.int .i64 m.v.k) ∧ w.cell? ⟨b, o + j * 7 + 2, none⟩ = some (.int .i64 m.v.n) ∧ w.cell? ⟨b, o + j * 7 + 3, none⟩ = some (.string m.v.s) ∧
      w.cell? ⟨b, o + j * 7 + 4, none⟩ = some (.int .i64 m.a.cat) ∧ w.cell? ⟨b, o + j * 7 + 5, none⟩ = some (.string m.a.name) ∧ w.cell? ⟨b, o + j * 7 + 6, none⟩ = some (.bool m.a.must)) := by
  obtain ⟨b, o, m, vs, e, hb, hlt, hm, hl, hv, rfl, hok⟩ := Rw.at_ h hj
  exact ⟨b, o, m, e, hb, hlt, hm, hok, hv 0 _ rfl, hv 1 _ rfl, hv 2 _ rfl, hv 3 _ rfl, hv 4 _ rfl, hv 5 _ rfl, hv 6 _ rfl⟩
theorem Dus.at_ {l : List Dut} (h : Dus w R A n c l) {j : Nat} (hj : j < n) : ∃ b o m, A = some ⟨b, o, none⟩ ∧ R b ∧ b < w.heap.size ∧ l[j]? = some m ∧ m.ok ∧
    (w.cell? ⟨b, o + j * 3, none⟩ = some (.int .i64 m.on) ∧ w.cell? ⟨b, o + j * 3 + 1, none⟩ = some (.int .i64 m.kind) ∧ w.cell? ⟨b, o + j * 3 + 2, none⟩ = some (.string m.arg)) := by
  obtain ⟨b, o, m, vs, e, hb, hlt, hm, hl, hv, rfl, hok⟩ := Rw.at_ h hj
  exact ⟨b, o, m, e, hb, hlt, hm, hok, hv 0 _ rfl, hv 1 _ rfl, hv 2 _ rfl⟩
theorem Als.at_ {l : List (List Mat)} (h : Als w R A n c l) {j : Nat} (hj : j < n) : ∃ b o x A' n' c', A = some ⟨b, o, none⟩ ∧ R b ∧ b < w.heap.size ∧ l[j]? = some x ∧ w.cell? ⟨b, o + j, none⟩ = some (.slice A' n' c') ∧ Ms w R A' n' c' x := by
  obtain ⟨b, o, x, vs, e, hb, hlt, hm, hl, hv, A', n', c', rfl, h'⟩ := Rw.at_ h hj
  have := hv 0 _ rfl
  rw [Nat.mul_one] at this
  exact ⟨b, o, x, A', n', c', e, hb, hlt, hm, this, h'⟩
theorem Tg.at_ {l : Tgt} (h : Tg w R A n c l) {j : Nat} (hj : j < n) : ∃ b o x A' n' c', A = some ⟨b, o, none⟩ ∧ R b ∧ b < w.heap.size ∧ l[j]? = some x ∧ w.cell? ⟨b, o + j, none⟩ = some (.slice A' n' c') ∧ Als w R A' n' c' x := by
  obtain ⟨b, o, x, vs, e, hb, hlt, hm, hl, hv, A', n', c', rfl, h'⟩ := Rw.at_ h hj
  have := hv 0 _ rfl
  rw [Nat.mul_one] at this
  exact ⟨b, o, x, A', n', c', e, hb, hlt, hm, this, h'⟩
theorem Rus.at_ {l : List Rul} (h : Rus w R A n c l) {j : Nat} (hj : j < n) : ∃ b o r A1 n1 c1 A2 n2 c2 A3 n3 c3, A = some ⟨b, o, none⟩ ∧ R b ∧ b < w.heap.size ∧ l[j]? = some r ∧ r.id.size ≤ maxLen ∧
    (w.cell? ⟨b, o + j * 5, none⟩ = some (.string r.id) ∧ w.cell? ⟨b, o + j * 5 + 1, none⟩ = some (.bool r.deny) ∧ w.cell? ⟨b, o + j * 5 + 2, none⟩ = some (.slice A1 n1 c1) ∧ w.cell? ⟨b, o + j * 5 + 3, none⟩ = some (.slice A2 n2 c2) ∧ w.cell? ⟨b, o + j * 5 + 4, none⟩ = some (.slice A3 n3 c3)) ∧
    Tg w R A1 n1 c1 r.tg ∧ Nds w R A2 n2 c2 r.cond ∧ Dus w R A3 n3 c3 r.ob := by
  obtain ⟨b, o, r, vs, e, hb, hlt, hm, hl, hv, A1, n1, c1, A2, n2, c2, A3, n3, c3, rfl, h0, h1, h2, h3⟩ := Rw.at_ h hj
  exact ⟨b, o, r, A1, n1, c1, A2, n2, c2, A3, n3, c3, e, hb, hlt, hm, h0, ⟨hv 0 _ rfl, hv 1 _ rfl, hv 2 _ rfl, hv 3 _ rfl, hv 4 _ rfl⟩, h1, h2, h3⟩
theorem Pls.at_ {d : Nat} {l : List Pol} (h : Pls w R d A n c l) {j : Nat} (hj : j < n) : ∃ b o p d' A1 n1 c1 A2 n2 c2 A3 n3 c3 A4 n4 c4, A = some ⟨b, o, none⟩ ∧ R b ∧ b < w.heap.size ∧ l[j]? = some p ∧ d = d' + 1 ∧ (p.id.size ≤ maxLen ∧ InI p.alg) ∧
    (w.cell? ⟨b, o + j * 7, none⟩ = some (.string p.id) ∧ w.cell? ⟨b, o + j * 7 + 1, none⟩ = some (.bool p.set) ∧ w.cell? ⟨b, o + j * 7 + 2, none⟩ = some (.int .i64 p.alg) ∧ w.cell? ⟨b, o + j * 7 + 3, none⟩ = some (.slice A1 n1 c1) ∧
      w.cell? ⟨b, o + j * 7 + 4, none⟩ = some (.slice A2 n2 c2) ∧ w.cell? ⟨b, o + j * 7 + 5, none⟩ = some (.slice A3 n3 c3) ∧ w.cell? ⟨b, o + j * 7 + 6, none⟩ = some (.slice A4 n4 c4)) ∧
    Tg w R A1 n1 c1 p.tg ∧ Rus w R A2 n2 c2 p.rules ∧ Pls w R d' A3 n3 c3 p.kids ∧ Dus w R A4 n4 c4 p.ob := by
  obtain ⟨b, o, p, vs, e, hb, hlt, hm, hl, hv, hp⟩ := Rw.at_ h hj
  match d, hp with
  | d' + 1, ⟨A1, n1, c1, A2, n2, c2, A3, n3, c3, A4, n4, c4, hvs, h0, h00, h1, h2, h3, h4⟩ =>
    subst hvs
    exact ⟨b, o, p, d', A1, n1, c1, A2, n2, c2, A3, n3, c3, A4, n4, c4, e, hb, hlt, hm, rfl, ⟨h0, h00⟩, ⟨hv 0 _ rfl, hv 1 _ rfl, hv 2 _ rfl, hv 3 _ rfl, hv 4 _ rfl, hv 5 _ rfl, hv 6 _ rfl⟩, h1, h2, h3, h4⟩
end
end Go.Proofs.YtdbnaaddocahpaaDoor
/- Names: the project's test. -/
namespace Go.Proofs.YtdbnaaddocahpaaDoor
set_option linter.unusedVariables false
open Go.RowKit

theorem data_at {s : ByteArray} {k : Nat} (h : k < s.size) : s.data.toList[k]? = some s[k] := by
  have hs : k < s.data.size := h
  rw [Array.getElem?_toList, Array.getElem?_eq_getElem hs]
  rfl
theorem data_len (s : ByteArray) : s.data.toList.length = s.size := by rw [Array.length_toList]; rfl

theorem okAt_of {k : Nat} {c : UInt8} (h : 97 ≤ c.toNat ∧ c.toNat ≤ 122 ∨ 0 < k ∧ (48 ≤ c.toNat ∧ c.toNat ≤ 57 ∨ c.toNat = 95)) : okAt k c = true := by
  simpa [okAt, lett, later] using h
theorem okAt_not {k : Nat} {c : UInt8} (h : ¬ (97 ≤ c.toNat ∧ c.toNat ≤ 122 ∨ 0 < k ∧ (48 ≤ c.toNat ∧ c.toNat ≤ 57 ∨ c.toNat = 95))) : okAt k c = false := by
  rw [← Bool.not_eq_true]
  intro h'
  exact h (by simpa [okAt, lett, later] using h')

/-- The places below k are those of a name. -/
def NameTo (l : List UInt8) (k : Nat) : Prop := ∀ j c, l[j]? = some c → j < k → okAt j c = true
theorem NameTo.step {l : List UInt8} {k : Nat} {c : UInt8} (h : NameTo l k) (hk : l[k]? = some c) (hb : okAt k c = true) : NameTo l (k + 1) := fun j d hj hjk => by
  by_cases e : j = k
  · subst e
    obtain rfl := Option.some.inj (hk.symm.trans hj)
    exact hb
  · exact h j d hj (by omega)
theorem NameTo.all {l : List UInt8} {n : Nat} (h : NameTo l n) (hn : l.length = n) : decide (Named l) = decide (1 ≤ n ∧ n ≤ 16) := by
  rw [decide_eq_decide]
  subst hn
  exact ⟨fun h => h.1, fun h1 => ⟨h1, fun j hj => h j _ (List.getElem?_eq_getElem hj) hj⟩⟩
theorem name_bad {l : List UInt8} {j : Nat} {c : UInt8} (h : l[j]? = some c) (hb : okAt j c = false) : decide (Named l) = false := by
  rw [decide_eq_false_iff_not]
  rintro ⟨_, ha⟩
  obtain ⟨hj, e⟩ := List.getElem?_eq_some_iff.1 h
  have := ha j hj
  rw [e, hb] at this
  cases this
theorem name_len {l : List UInt8} (h : l.length < 1 ∨ 16 < l.length) : decide (Named l) = false := by
  rw [decide_eq_false_iff_not]
  rintro ⟨h, _⟩
  omega

set_option maxHeartbeats 1600000 in
theorem name_any (s : ByteArray) (hs : s.size ≤ maxLen) (w : World) :
    Calls Tryd.prog 54 #[.string s] w fun e w' => e = .returned (.bool (decide (Named s.data.toList))) ∧ w' = w := by
  have hl := data_len s
  generalize hL : s.data.toList = l at *
  have HD : Hid (∀ k (h : k < s.size), l[k]? = some s[k]) := by
    show ∀ k (h : k < s.size), l[k]? = some s[k]
    subst hL; exact fun k h => data_at h
  have HL := Lib.hid hl
  unfold maxLen at hs
  clear hl hL
  by_cases h1 : s.size < 1
  · go_enter Tryd.func54, Tryd.ntmps54
    go_wp2_with fail
    go_ret
    exact ⟨ret_bool (name_len (by have := HL.out; omega)).symm, rfl⟩
  by_cases h2 : 16 < s.size
  · go_enter Tryd.func54, Tryd.ntmps54
    go_wp2_with fail
    go_ret
    exact ⟨ret_bool (name_len (by have := HL.out; omega)).symm, rfl⟩
  go_enter Tryd.func54, Tryd.ntmps54
  go_wp2_with fail
  go_loop [17] (fun i => ∃ k : Nat, k ≤ s.size ∧ i = .int .i64 k ∧ NameTo l k) (fun i => s.size - (intOf i).toNat)
  case atStart => exact ⟨0, Nat.zero_le _, rfl, fun j c h hj => by omega⟩
  case round =>
    obtain ⟨k, hk, rfl, ht⟩ := hrel
    have HT := Lib.hid ht
    clear ht
    by_cases hlt : k < s.size
    · have two : ∀ c : UInt8, ((c.toNat : Int) < 97 ∧ (c.toNat : Int) < 48 ∧ ((c.toNat : Int) == 95) = false) ∨ ((c.toNat : Int) < 97 ∧ (48 ≤ (c.toNat : Int) ∧ (c.toNat : Int) ≤ 57) ∧ ((c.toNat : Int) == 95) = false) ∨ ((c.toNat : Int) < 97 ∧ (48 ≤ (c.toNat : Int) ∧ 57 < (c.toNat : Int)) ∧ ((c.toNat : Int) == 95) = false) ∨
          ((c.toNat : Int) < 97 ∧ (48 ≤ (c.toNat : Int) ∧ 57 < (c.toNat : Int)) ∧ ((c.toNat : Int) == 95) = true) ∨ (122 < (c.toNat : Int) ∧ (48 ≤ (c.toNat : Int) ∧ 57 < (c.toNat : Int) ∧ 97 ≤ (c.toNat : Int)) ∧ ((c.toNat : Int) == 95) = false) ∨ ((97 ≤ (c.toNat : Int) ∧ (c.toNat : Int) ≤ 122) ∧ (48 ≤ (c.toNat : Int) ∧ 57 < (c.toNat : Int)) ∧ ((c.toNat : Int) == 95) = false) := fun c => by
        simp only [beq_iff_eq, beq_eq_false_iff_ne]; omega
      have hi : 0 ≤ (k : Int) ∧ (k : Int) < s.size := by omega
      have hc := HD.out k hlt
      rcases Nat.eq_zero_or_pos k with rfl | hpos
      · have two := two s[0]
        generalize hcc : s[0] = c at *
        have HC := Lib.hid hc
        clear hc
        rcases two with ⟨a, b, e⟩ | ⟨a, b, e⟩ | ⟨a, b, e⟩ | ⟨a, b, e⟩ | ⟨a, b, e⟩ | ⟨a, b, e⟩
        all_goals
          go_wp2_with fail
          all_goals simp only [beq_iff_eq, beq_eq_false_iff_ne] at e
          all_goals first
            | (exfalso; rename_i hh; revert hh; simp; omega)
            | (go_ret; exact ⟨ret_bool (name_bad HC.out (okAt_not (by omega))).symm, rfl⟩)
            | (go_round
               case rel => exact ⟨0 + 1, by omega, by go_num, HT.out.step HC.out (okAt_of (by omega))⟩
               case measure => simp [intOf]; omega)
      · have two := two s[k]
        generalize hcc : s[k] = c at *
        have HC := Lib.hid hc
        clear hc
        have hkn : ¬ k = 0 := by omega
        have hkz : ((k : Int) == 0) = false := by rw [beq_eq_false_iff_ne]; omega
        rcases two with ⟨a, b, e⟩ | ⟨a, b, e⟩ | ⟨a, b, e⟩ | ⟨a, b, e⟩ | ⟨a, b, e⟩ | ⟨a, b, e⟩
        all_goals
          go_wp2_with fail
          all_goals simp only [beq_iff_eq, beq_eq_false_iff_ne] at e
          all_goals first
            | (exfalso; rename_i hh; revert hh; simp; omega)
            | (go_ret; exact ⟨ret_bool (name_bad HC.out (okAt_not (by omega))).symm, rfl⟩)
            | (go_round
               case rel => exact ⟨k + 1, by omega, by go_num, HT.out.step HC.out (okAt_of (by omega))⟩
               case measure => simp [intOf]; omega)
    · obtain rfl : k = s.size := by omega
      go_wp2_with fail
      go_ret
      exact ⟨ret_bool ((HT.out.all HL.out).trans (decide_eq_true (by omega))).symm, rfl⟩

end Go.Proofs.YtdbnaaddocahpaaDoor
/- Which values are right, the project's test and the reference's; the laws' helpers. -/
namespace Go.Proofs.YtdbnaaddocahpaaDoor
set_option linter.unusedVariables false
open Go.RowKit

theorem rv1 {n : Int} {l : List UInt8} : RightV 1 n l ↔ l = [] ∧ (n = 0 ∨ n = 1) := by unfold RightV; simp
theorem rv2 {n : Int} {l : List UInt8} : RightV 2 n l ↔ l = [] := by unfold RightV; simp
theorem rv3 {n : Int} {l : List UInt8} : RightV 3 n l ↔ n = 0 ∧ l.length ≤ 64 := by unfold RightV; simp
theorem rv4 {n : Int} {l : List UInt8} : RightV 4 n l ↔ l = [] ∧ 0 ≤ n ∧ n ≤ 1099511627776 := by unfold RightV; simp
theorem rv5 {n : Int} {l : List UInt8} : RightV 5 n l ↔ n = 0 ∧ Named l := by unfold RightV; simp
theorem rv_none {k n : Int} {l : List UInt8} (h : k ≠ 1 ∧ k ≠ 2 ∧ k ≠ 3 ∧ k ≠ 4 ∧ k ≠ 5) : ¬ RightV k n l := by
  obtain ⟨h1, h2, h3, h4, h5⟩ := h
  unfold RightV; simp [h1, h2, h3, h4, h5]
theorem kind_cases (k : Int) : k = 1 ∨ k = 2 ∨ k = 3 ∨ k = 4 ∨ k = 5 ∨ (k ≠ 1 ∧ k ≠ 2 ∧ k ≠ 3 ∧ k ≠ 4 ∧ k ≠ 5) := by omega

set_option maxHeartbeats 3200000 in
theorem right_any (k n : Int) (s : ByteArray) (hs : s.size ≤ maxLen) (w : World) :
    Calls Tryd.prog 70 #[.agg #[.int .i64 k, .int .i64 n, .string s]] w fun e w' => e = .returned (.bool (decide (RightV k n s.data.toList))) ∧ Below w.heap.size w w' := by
  have hln := data_len s
  have hlt : s.toList = s.data.toList := ByteArray.toList_eq s
  have hname := name_any s hs
  generalize hL : s.data.toList = l at *
  have HN := Lib.hid hname
  have HL := Lib.hid hln
  clear hL hname hln
  unfold maxLen at hs
  rcases kind_cases k with rfl | rfl | rfl | rfl | rfl | hk
  · go_enter Tryd.func70, Tryd.ntmps70
    go_wp2_with fail
    all_goals
      go_ret
      refine ⟨ret_bool ?_, (Below.refl _ _).alloc (Nat.le_refl _) _⟩
      rw [Bool.eq_iff_iff]
      simp [rv1, *]
  · go_enter Tryd.func70, Tryd.ntmps70
    go_wp2_with fail
    all_goals
      go_ret
      refine ⟨ret_bool ?_, (Below.refl _ _).alloc (Nat.le_refl _) _⟩
      rw [Bool.eq_iff_iff]
      simp [rv2, *]
  · go_enter Tryd.func70, Tryd.ntmps70
    go_wp2_with fail
    all_goals
      go_ret
      refine ⟨ret_bool ?_, (Below.refl _ _).alloc (Nat.le_refl _) _⟩
      rw [Bool.eq_iff_iff]
      simp [rv3, HL.out, *] <;> omega
  · go_enter Tryd.func70, Tryd.ntmps70
    go_wp2_with fail
    all_goals
      go_ret
      refine ⟨ret_bool ?_, (Below.refl _ _).alloc (Nat.le_refl _) _⟩
      rw [Bool.eq_iff_iff]
      simp [rv4, *] <;> omega
  · go_enter Tryd.func70, Tryd.ntmps70
    go_wp2_with (go_at_call 54; refine (HN.out _).mono ?_; rintro e w1 ⟨rfl, rfl⟩)
    all_goals
      go_ret
      refine ⟨ret_bool ?_, (Below.refl _ _).alloc (Nat.le_refl _) _⟩
      rw [Bool.eq_iff_iff]
      simp [rv5, *]
  · have HK := Lib.hid hk
    go_enter Tryd.func70, Tryd.ntmps70
    go_wp2_with fail
    all_goals
      go_ret
      refine ⟨ret_bool ?_, (Below.refl _ _).alloc (Nat.le_refl _) _⟩
      exact (decide_eq_false (rv_none HK.out)).symm

end Go.Proofs.YtdbnaaddocahpaaDoor
/- What a policy's smallest parts must be: attributes, matches, duties, counts (the project's). -/
namespace Go.Proofs.YtdbnaaddocahpaaDoor
set_option linter.unusedVariables false
open Go.RowKit

set_option maxHeartbeats 800000 in
theorem attr_any (a : Atr) (hok : a.ok) (w : World) :
    Calls Tryd.prog 71 #[.agg #[.int .i64 a.cat, .string a.name, .bool a.must]] w fun e w' => e = .returned (.bool (attrB a)) ∧ Below w.heap.size w w' := by
  obtain ⟨k, s, m⟩ := a
  obtain ⟨hk, hs⟩ := hok
  simp only at hk hs ⊢
  have hname := name_any s hs
  have HN := Lib.hid hname
  have HE : Hid (attrB ⟨k, s, m⟩ = (decide (1 ≤ k) && decide (k ≤ 4) && decide (Named s.data.toList))) := rfl
  clear hname hk
  unfold maxLen at hs
  generalize attrB ⟨k, s, m⟩ = r at *
  go_enter Tryd.func71, Tryd.ntmps71
  go_wp2_with (go_at_call 54; refine (HN.out _).mono ?_; rintro e w1 ⟨rfl, rfl⟩)
  all_goals
    go_ret
    refine ⟨ret_bool ?_, (Below.refl _ _).alloc (Nat.le_refl _) _⟩
    rw [HE.out]
    simp [*] <;> (intros; omega)

theorem parts_any (n : Nat) (w : World) :
    Calls Tryd.prog 66 #[.int .i64 n] w fun e w' => e = .returned (.int .i64 (partsE n)) ∧ w' = w := by
  by_cases h0 : n = 0
  · subst h0
    go_enter Tryd.func66, Tryd.ntmps66
    go_wp2_with fail
    go_ret
    exact ⟨rfl, rfl⟩
  · have hz : ((n : Int) == 0) = false := by rw [beq_eq_false_iff_ne]; omega
    by_cases h8 : 8 < n
    · have hb : (8 : Int) < (n : Int) := by omega
      have H := Lib.hid (show partsE n = 6 by unfold partsE; simp [h0, h8])
      go_enter Tryd.func66, Tryd.ntmps66
      go_wp2_with fail
      go_ret
      exact ⟨ret_int H.out.symm, rfl⟩
    · have hb : ¬ (8 : Int) < (n : Int) := by omega
      have H := Lib.hid (show partsE n = 0 by unfold partsE; simp [h0, h8])
      go_enter Tryd.func66, Tryd.ntmps66
      go_wp2_with fail
      go_ret
      exact ⟨ret_int H.out.symm, rfl⟩

set_option maxHeartbeats 800000 in
theorem match_any (m : Mat) (hok : m.ok) (w : World) :
    Calls Tryd.prog 76 #[.agg #[.int .i64 m.a.cat, .string m.a.name, .bool m.a.must, .int .i64 m.op, .int .i64 m.v.k, .int .i64 m.v.n, .string m.v.s]] w fun e w' => e = .returned (.int .i64 (matE m)) ∧ Below w.heap.size w w' := by
  obtain ⟨a, op, v⟩ := m
  obtain ⟨ha, hop, hv⟩ := hok
  simp only at ha hop hv ⊢
  have HA := Lib.hid (attr_any a ha)
  have HV := Lib.hid (right_any v.k v.n v.s hv.2.2)
  have HE : Hid (matE ⟨a, op, v⟩ = if attrB a = true ∧ 1 ≤ op ∧ op ≤ 3 ∧ decide (RightV v.k v.n v.s.data.toList) = true then 0 else 1) := by
    show matE ⟨a, op, v⟩ = _
    simp only [decide_eq_true_eq]
    rfl
  generalize matE ⟨a, op, v⟩ = r at *
  obtain ⟨c, nm, mu⟩ := a
  obtain ⟨k, n, s⟩ := v
  simp only at HA HV HE ⊢
  clear ha hop hv
  generalize hab : attrB ⟨c, nm, mu⟩ = ab at *
  generalize hrb : decide (RightV k n s.data.toList) = rb at *
  clear hab hrb
  go_enter Tryd.func76, Tryd.ntmps76
  go_wp2_with (first
    | (go_at_call 71; refine (HA.out _).mono ?_; rintro e w1 ⟨rfl, hb1⟩; have B1 := Lib.hid (Below.lit hb1); have C1 := Lib.hid (Ob.below (Ob.made _ _ _) hb1 (by simp)); have c1 := C1.out.cell 3; have c2 := C1.out.cell 4; have c3 := C1.out.cell 5; have c4 := C1.out.cell 6)
    | (go_at_call 70; refine (HV.out _).mono ?_; rintro e w2 ⟨rfl, hb2⟩; have B2 := Lib.hid hb2))
  all_goals
    go_ret
    refine ⟨ret_int ?_, by first | exact below_step B1.out B2.out | exact B1.out⟩
    rw [HE.out]
    clear HA HV HE
    cases rb <;> split <;> first | rfl | (exfalso; simp_all; done) | (exfalso; simp_all; omega)

set_option maxHeartbeats 800000 in
theorem duty_any (o : Dut) (hok : o.ok) (w : World) :
    Calls Tryd.prog 58 #[.agg #[.int .i64 o.on, .int .i64 o.kind, .string o.arg]] w fun e w' => e = .returned (.int .i64 (dutE o)) ∧ Below w.heap.size w w' := by
  obtain ⟨on, k, s⟩ := o
  obtain ⟨ho, hk, hs⟩ := hok
  simp only at ho hk hs ⊢
  have HN := Lib.hid (name_any s hs)
  have HE : Hid (dutE ⟨on, k, s⟩ = if (on = 1 ∨ on = 2) ∧ 1 ≤ k ∧ k ≤ 4 ∧ decide (Named s.data.toList) = true then 0 else 1) := by
    show dutE ⟨on, k, s⟩ = _
    simp only [decide_eq_true_eq]
    rfl
  generalize dutE ⟨on, k, s⟩ = r at *
  generalize hrb : decide (Named s.data.toList) = rb at *
  clear ho hk hrb
  unfold maxLen at hs
  go_enter Tryd.func58, Tryd.ntmps58
  go_wp2_with (go_at_call 54; refine (HN.out _).mono ?_; rintro e w1 ⟨rfl, rfl⟩)
  all_goals
    go_ret
    refine ⟨ret_int ?_, (Below.refl _ _).alloc (Nat.le_refl _) _⟩
    rw [HE.out]
    clear HN HE
    cases rb <;> split <;> first | rfl | (exfalso; simp_all; done) | (exfalso; simp_all; omega)
end Go.Proofs.YtdbnaaddocahpaaDoor
/- strings.CutSuffix, over the texts of bags and values that an expression's nodes leave. -/
namespace Go.Proofs.YtdbnaaddocahpaaDoor
set_option linter.unusedVariables false
open Go.RowKit

/-- What is left ahead, as the project writes it: the last one at its end. -/
def ch (b : Bool) : UInt8 := if b = true then 98 else 118
def lf (st : List Bool) : ByteArray := ⟨(st.reverse.map ch).toArray⟩
theorem lf_bl (st : List Bool) : bl (lf st) = st.reverse.map ch := by simp [bl, lf]
theorem lf_size (st : List Bool) : (lf st).size = st.length := by show (st.reverse.map ch).toArray.size = _; simp
theorem ch_inj {a b : Bool} (h : ch a = ch b) : a = b := by cases a <;> cases b <;> simp_all [ch]
theorem map_ch_inj : ∀ {a b : List Bool}, a.map ch = b.map ch → a = b
  | [], [], _ => rfl
  | [], _ :: _, h => by simp at h
  | _ :: _, [], h => by simp at h
  | x :: a, y :: b, h => by
    simp only [List.map_cons, List.cons.injEq] at h
    rw [ch_inj h.1, map_ch_inj h.2]
theorem lf_inj {a b : List Bool} (h : lf a = lf b) : a = b := by
  have := congrArg bl h
  rw [lf_bl, lf_bl] at this
  have := map_ch_inj this
  simpa using congrArg List.reverse this
theorem bl_extract (s : ByteArray) (i j : Nat) : bl (s.extract i j) = ((bl s).drop i).take (j - i) := by
  show (s.extract i j).data.toList = (s.data.toList.drop i).take (j - i)
  rw [ByteArray.data_extract]
  simp [List.extract_eq_take_drop]
theorem lf_tail (st : List Bool) (m : Nat) (h : m ≤ st.length) : (lf st).extract (st.length - m) st.length = lf (st.take m) := by
  apply text_eq
  rw [bl_extract, lf_bl, lf_bl, ← List.map_drop, ← List.map_take, List.drop_reverse]
  congr 1
  rw [List.take_of_length_le (by simp)]
  congr 2
  omega
theorem lf_head (st : List Bool) (m : Nat) (h : m ≤ st.length) : (lf st).extract 0 (st.length - m) = lf (st.drop m) := by
  apply text_eq
  rw [bl_extract, lf_bl, lf_bl, List.drop_zero, Nat.sub_zero, ← List.map_take, List.take_reverse]
  congr 3
  omega
theorem lf_push (st : List Bool) (b : Bool) : lf st ++ lf [b] = lf (b :: st) := by
  apply text_eq
  show (lf st ++ lf [b]).data.toList = _
  rw [ByteArray.data_append]
  simp [lf, bl]
theorem lf_nil : lf [] = ⟨#[]⟩ := rfl

theorem hasP_eq {p st : List Bool} (h : p.length ≤ st.length) : ((lf st).extract (st.length - p.length) st.length = lf p) = (hasP p st = true) := by
  rw [lf_tail st _ h]
  unfold hasP
  rw [decide_eq_true_eq, eq_iff_iff]
  exact ⟨fun e => lf_inj e, fun e => by rw [e]⟩
theorem hasP_short {p st : List Bool} (h : ¬ p.length ≤ st.length) : hasP p st = false := by
  unfold hasP
  rw [decide_eq_false_iff_not]
  intro e
  have := congrArg List.length e
  rw [List.length_take] at this
  omega

set_option maxHeartbeats 800000 in
theorem suffix_any (s t : ByteArray) (hs : s.size ≤ maxLen) (ht : t.size ≤ maxLen) (w : World) :
    Calls Tryd.prog 77 #[.string s, .string t] w fun e w' => e = .returned (.bool (decide (t.size ≤ s.size) && decide (s.extract (s.size - t.size) s.size = t))) ∧ w' = w := by
  unfold maxLen at hs ht
  by_cases h : t.size ≤ s.size
  · obtain ⟨k, hk⟩ : ∃ k, k = s.size - t.size := ⟨_, rfl⟩
    have e1 : (s.size : Int) - (t.size : Int) = (k : Int) := by omega
    have e2 : k ≤ s.size := by omega
    go_enter Tryd.func77, Tryd.ntmps77
    go_wp2_with fail
    go_ret
    refine ⟨ret_bool ?_, rfl⟩
    rw [decide_eq_true h, Bool.true_and, Bool.eq_iff_iff, beq_iff_eq, decide_eq_true_eq, ByteArray.toList_eq, ByteArray.toList_eq]
    exact ⟨fun e => text_eq e, fun e => by rw [e]⟩
  · go_enter Tryd.func77, Tryd.ntmps77
    go_wp2_with fail
    go_ret
    exact ⟨ret_bool (by rw [decide_eq_false h]; rfl), rfl⟩

theorem suffix_lf (st p : List Bool) (hs : st.length ≤ 1000) (hp : p.length ≤ 1000) (w : World) :
    Calls Tryd.prog 77 #[.string (lf st), .string (lf p)] w fun e w' => e = .returned (.bool (hasP p st)) ∧ w' = w := by
  refine (suffix_any _ _ (by rw [lf_size]; simp [maxLen]; omega) (by rw [lf_size]; simp [maxLen]; omega) w).mono ?_
  rintro e w' ⟨rfl, rfl⟩
  refine ⟨ret_bool ?_, rfl⟩
  rw [lf_size, lf_size]
  by_cases h : p.length ≤ st.length
  · rw [decide_eq_true h, Bool.true_and, Bool.eq_iff_iff, decide_eq_true_eq, hasP_eq h]
  · rw [decide_eq_false h, hasP_short h]; rfl

set_option maxHeartbeats 800000 in
theorem cut0_any (st p : List Bool) (hs : st.length ≤ 1000) (hp : p.length ≤ 1000) (w : World) :
    Calls Tryd.prog 69 #[.string (lf st), .string (lf p)] w fun e w' => e = .returned (.tuple #[.string (if hasP p st = true then lf (st.drop p.length) else lf st), .bool (hasP p st)]) ∧ w' = w := by
  have HS := Lib.hid (suffix_lf st p hs hp)
  have z1 := lf_size st
  have z2 := lf_size p
  by_cases h : hasP p st = true
  · have hl : p.length ≤ st.length := by
      rcases Nat.lt_or_ge st.length p.length with hlt | hge
      · rw [hasP_short (by omega)] at h; cases h
      · exact hge
    have hh := lf_head st p.length hl
    have HH := Lib.hid hh
    clear hh
    rw [h] at HS ⊢
    generalize lf st = s at *
    generalize lf p = t at *
    have e1 : (s.size : Int) - (t.size : Int) = ((st.length - p.length : Nat) : Int) := by omega
    have e2 : st.length - p.length ≤ s.size := by omega
    have ez : s.size - t.size = st.length - p.length := by omega
    have e3 : s.size ≤ 1000 := by omega
    have e4 : t.size ≤ s.size := by omega
    have HZ := Lib.hid ez
    clear z1 z2 h e1 e2 hl hs hp ez
    go_enter Tryd.func69, Tryd.ntmps69
    go_wp2_with (go_at_call 77; refine (HS.out _).mono ?_; rintro e w1 ⟨rfl, rfl⟩)
    go_ret2
    exact ⟨by rw [HZ.out, HH.out]; rfl, rfl⟩
  · rw [Bool.not_eq_true] at h
    rw [h] at HS ⊢
    generalize lf st = s at *
    generalize lf p = t at *
    clear z1 z2 h hs hp
    go_enter Tryd.func69, Tryd.ntmps69
    go_wp2_with (go_at_call 77; refine (HS.out _).mono ?_; rintro e w1 ⟨rfl, rfl⟩)
    go_ret2
    exact ⟨rfl, rfl⟩

theorem cut_any (st p : List Bool) (hs : st.length ≤ 1000) (hp : p.length ≤ 1000) (w : World) :
    Calls Tryd.prog 62 #[.string (lf st), .string (lf p)] w fun e w' => e = .returned (.tuple #[.string (if hasP p st = true then lf (st.drop p.length) else lf st), .bool (hasP p st)]) ∧ w' = w := by
  have HS := Lib.hid (cut0_any st p hs hp)
  generalize lf st = s at *
  generalize lf p = t at *
  generalize (if hasP p st = true then lf (st.drop p.length) else s) = u at *
  generalize hasP p st = b at *
  clear hs hp
  go_enter Tryd.func62, Tryd.ntmps62
  go_wp2_with (go_at_call 69; refine (HS.out _).mono ?_; rintro e w1 ⟨rfl, rfl⟩)
  go_ret2
  exact ⟨rfl, rfl⟩
end Go.Proofs.YtdbnaaddocahpaaDoor
/- Values held against each other by ==. -/
namespace Go.Proofs.YtdbnaaddocahpaaDoor
set_option linter.unusedVariables false
open Go.RowKit

/-- Are two values the same? -/
def veq (a b : Vl) : Bool := decide (a = b)
theorem veq_true {a b : Vl} (h : a = b) : veq a b = true := decide_eq_true h
theorem veq_false {a b : Vl} (h : a ≠ b) : veq a b = false := decide_eq_false h
theorem veq_iff {a b : Vl} : veq a b = true ↔ a = b := decide_eq_true_iff

theorem val_eq (k n k' n' : Int) (s s' : ByteArray) (w : World) :
    (Op.equalIn 10000 25 (.agg #[.int .i64 k, .int .i64 n, .string s]) (.agg #[.int .i64 k', .int .i64 n', .string s'])).run Tryd.prog w = .ok (veq ⟨k, n, s⟩ ⟨k', n', s'⟩) w := by
  have u3 := Tryd.underlying3
  have a3 := Tryd.isAgg3
  have z3 := Tryd.sizeOf3
  have u9 := Tryd.underlying9
  have a9 := Tryd.isAgg9
  have z9 := Tryd.sizeOf9
  have hS : Tryd.prog.underlying 25 = some (.struct (Tryd.prog.fieldsOf 25)) := by kernel_rfl
  have hp : Tryd.prog.stoodInHeld 25 = false := by kernel_rfl
  rw [show (10000 : Nat) = 9999 + 1 from rfl, run_equalIn_agg w 9999 25 _ _ hS hp]
  simp only [Program.fieldsOf, Tryd.underlying25]
  go_simp
  have hts : (s.toList = s'.toList) = (s = s') := propext ⟨fun c => by
    have h : s.data.toList = s'.data.toList := by rw [← ByteArray.toList_eq, ← ByteArray.toList_eq]; exact c
    obtain ⟨⟨x⟩⟩ := s
    obtain ⟨⟨y⟩⟩ := s'
    simp_all, fun h => by rw [h]⟩
  simp only [hts]
  unfold veq
  by_cases h1 : k = k' <;> by_cases h2 : n = n' <;> by_cases h3 : s = s' <;> simp [h1, h2, h3]
end Go.Proofs.YtdbnaaddocahpaaDoor
