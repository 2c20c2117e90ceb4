/- ParseCut, plainly: a text cut short ahead of its bracket. -/
import Derived.Test.YthppdgiobflfpaaParErr
import Derived.Test.YthppdgiobflfpaaParBlanks
namespace Go.Proofs.Ythppdgiobflfpaa
set_option linter.unusedVariables false

/-- The end, or one token and the end. -/
def Tail2 (t : List Tk) : Prop := ∃ e, e.k = 7 ∧ (t = [e] ∨ ∃ x, x.k ≠ 7 ∧ t = [x, e])
/-- No bracket. -/
def NbT (t : Tk) : Prop := ¬ ((t.k = 1 ∨ t.k = 6) ∧ t.s = m_lb)
def Bad (s : Pz) : Prop := s.err = 5
def Short (s : Pz) : Prop := s.err = 0 ∧ Tail2 s.rest ∧ ∀ t ∈ s.rest, NbT t
/-- In step. -/
def Sync (s s' : Pz) : Prop := s.err = 0 ∧ s'.err = 0 ∧ (∀ t ∈ s'.rest, NbT t) ∧ ∃ a l u t, a.k ≠ 7 ∧ (∀ b ∈ l, b.k ≠ 7) ∧ Tail2 t ∧ s.rest = a :: (l ++ u) ∧ s'.rest = a :: (l ++ t)
def Qc (s s' : Pz) : Prop := Bad s' ∨ Short s' ∨ Sync s s'
section
variable {s s' : Pz}
theorem Bad.kp (h : Bad s) {s1 : Pz} (k : Kp s s1) : Bad s1 := by
  unfold Bad at h ⊢
  rw [(k (by rw [h]; omega)).1, h]
theorem wrong_bad (h : s.err = 0) : Bad (wrongR s) := by
  unfold Bad wrongR failR
  rw [if_pos h]
theorem Sync.hd (h : Sync s s') : s'.hd = s.hd := by
  obtain ⟨_, _, _, a, l, u, t, _, _, _, e1, e2⟩ := h
  unfold Pz.hd
  rw [e1, e2]
  rfl
theorem Short.next (h : Short s) (hk : s.hd.k ≠ 7) : Short (nextR s) := by
  obtain ⟨h0, ⟨e, he, ht⟩, hn⟩ := h
  refine ⟨h0, ⟨e, he, .inl ?_⟩, fun t ht => hn t (List.mem_of_mem_drop ht)⟩
  show s.rest.drop 1 = _
  rcases ht with ht | ⟨x, hx, ht⟩
  · unfold Pz.hd at hk
    rw [ht] at hk
    exact absurd he hk
  · rw [ht]
    rfl
theorem Sync.next (h : Sync s s') : Short (nextR s') ∨ Sync (nextR s) (nextR s') := by
  obtain ⟨h0, h1, hn, a, l, u, t, ha, hl, ht, e1, e2⟩ := h
  have hn' : ∀ t ∈ (nextR s').rest, NbT t := fun t ht => hn t (List.mem_of_mem_drop ht)
  have d1 : (nextR s).rest = l ++ u := by show s.rest.drop 1 = _; rw [e1]; rfl
  have d2 : (nextR s').rest = l ++ t := by show s'.rest.drop 1 = _; rw [e2]; rfl
  cases l with
  | nil => exact .inl ⟨h1, by rw [d2]; exact ht, hn'⟩
  | cons b l => exact .inr ⟨h0, h1, hn', b, l, u, t, hl b (by simp), fun c hc => hl c (by simp [hc]), ht, by rw [d1]; rfl, by rw [d2]; rfl⟩
theorem Sync.q (h : Sync s s') : Qc (nextR s) (nextR s') := h.next.elim (fun h => .inr (.inl h)) (fun h => .inr (.inr h))
theorem sees_same (h : Sync s s') (ws : List ByteArray) : seesR ws s' = seesR ws s := by
  unfold seesR
  rw [h.hd]
theorem sees_k {ws : List ByteArray} (h : seesR ws s ≠ 0) : s.hd.k ≠ 7 := by
  intro h7
  unfold seesR at h
  rw [h7] at h
  simp at h
/-- What a function of the reader keeps: of a state that has nothing left, and of two in step. -/
theorem take_short (h : Short s) (ws : List ByteArray) : Short (takeR ws s).2 := by
  unfold takeR
  split
  · exact h
  · rename_i h0
    exact h.next (sees_k h0)
theorem take_sync (h : Sync s s') (ws : List ByteArray) : (takeR ws s').1 = (takeR ws s).1 ∧ Qc (takeR ws s).2 (takeR ws s').2 := by
  unfold takeR
  rw [sees_same h]
  split
  · exact ⟨rfl, .inr (.inr h)⟩
  · exact ⟨rfl, h.q⟩
theorem must_short (h : Short s) (ws : List ByteArray) : Bad (mustR ws s).2 ∨ Short (mustR ws s).2 := by
  unfold mustR
  split
  · exact .inl (wrong_bad h.1)
  · rename_i h0
    exact .inr (h.next (sees_k h0))
theorem must_sync (h : Sync s s') (ws : List ByteArray) (he : (mustR ws s).2.err = 0) : Qc (mustR ws s).2 (mustR ws s').2 := by
  unfold mustR at he ⊢
  rw [sees_same h]
  split
  · rename_i h0
    rw [if_pos h0] at he
    have := wrong_bad h.1
    unfold Bad at this
    simp only at he
    rw [this] at he
    omega
  · exact h.q
theorem name_short (h : Short s) : Bad (nameR s).2 ∨ Short (nameR s).2 := by
  unfold nameR
  split
  · rename_i h0
    exact .inr (h.next (by rw [h0]; omega))
  · exact .inl (wrong_bad h.1)
theorem name_sync (h : Sync s s') (he : (nameR s).2.err = 0) : Qc (nameR s).2 (nameR s').2 := by
  unfold nameR at he ⊢
  rw [h.hd]
  split
  · exact h.q
  · rename_i h0
    rw [if_neg h0] at he
    have := wrong_bad h.1
    unfold Bad at this
    simp only at he
    rw [this] at he
    omega
theorem value_short (h : Short s) : Bad (valueR s).2 ∨ Short (valueR s).2 := by
  unfold valueR
  split
  · exact must_short h _
  · rename_i h0
    exact .inr (h.next (fun e => by rw [e] at h0; exact h0 rfl))
theorem value_sync (h : Sync s s') (he : (valueR s).2.err = 0) : Qc (valueR s).2 (valueR s').2 := by
  unfold valueR at he ⊢
  rw [h.hd]
  split
  · rename_i h0
    rw [if_pos h0] at he
    exact must_sync h _ he
  · exact h.q
/-- From one step to the next. -/
theorem Qc.then_ {s1 s1' s2 s2' : Pz} (h : Qc s1 s1') (hk : Kp s1' s2') (hs : Short s1' → Bad s2' ∨ Short s2') (hy : Sync s1 s1' → Qc s2 s2') : Qc s2 s2' := by
  rcases h with h | h | h
  · exact .inl (h.kp hk)
  · exact (hs h).elim .inl (fun h => .inr (.inl h))
  · exact hy h
/-- An attribute wants two tokens at least. -/
theorem name_one {e : Tk} {m : Nat} {a : Int} (he : e.k = 7) : Bad (nameR ⟨[e], m, 0, a⟩).2 := by
  unfold nameR
  rw [if_neg (by show ¬ e.k = 1; omega)]
  exact wrong_bad rfl
theorem must_one_bad (h : Short s) (ws : List ByteArray) : Bad (nameR (mustR ws s).2).2 := by
  unfold mustR
  split
  · exact (wrong_bad h.1).kp (kp_name _)
  · rename_i h0
    obtain ⟨h1, ⟨e, he, ht⟩, _⟩ := h
    rcases ht with ht | ⟨x, hx, ht⟩
    · have := sees_k h0
      unfold Pz.hd at this
      rw [ht] at this
      exact absurd he this
    · have e1 : nextR s = ⟨[e], s.met, 0, s.at_⟩ := by
        unfold nextR
        rw [ht, h1]
        rfl
      show Bad (nameR (nextR s)).2
      rw [e1]
      exact name_one he
theorem attr_short (h : Short s) (cat : Int) : Bad (attrR cat s).2 := by
  unfold attrR
  simp only
  refine Bad.kp ?_ (kp_take _ _)
  split
  · exact (wrong_bad h.1).kp ((kp_must _ _).trans (kp_name _))
  · exact must_one_bad h _
theorem attr_sync (h : Sync s s') {cat : Int} (he : (attrR cat s).2.err = 0) : Qc (attrR cat s).2 (attrR cat s').2 := by
  unfold attrR at he ⊢
  simp only at he ⊢
  by_cases hc : cat = 0
  · rw [if_pos hc] at he
    have hb : Bad (takeR [m_bang] (nameR (mustR [m_dot] (wrongR s)).2).2).2 := ((wrong_bad h.1).kp ((kp_must _ _).trans (kp_name _))).kp (kp_take _ _)
    unfold Bad at hb
    rw [hb] at he
    omega
  · rw [if_neg hc] at he ⊢
    rw [if_neg hc]
    have e3 := (kp_take [m_bang] (nameR (mustR [m_dot] s).2).2).back he
    have e2 := (kp_name (mustR [m_dot] s).2).back e3
    have q1 := must_sync h [m_dot] e2
    have q2 : Qc (nameR (mustR [m_dot] s).2).2 (nameR (mustR [m_dot] s').2).2 := q1.then_ (kp_name _) name_short (fun h => name_sync h e3)
    exact q2.then_ (kp_take _ _) (fun h => .inr (take_short h _)) (fun h => (take_sync h _).2)
theorem match_short (h : Short s) : Bad (matchR s).2 := (attr_short (take_short h _) _).kp ((kp_must _ _).trans (kp_value _))
theorem match_sync (h : Sync s s') (he : (matchR s).2.err = 0) : Qc (matchR s).2 (matchR s').2 := by
  obtain ⟨c1, q0⟩ := take_sync h [w_subject, w_action, w_case, w_env]
  have e3 : (mustR [m_eqm, m_lt, m_gt] (attrR ((catR s).1 : Int) (catR s).2).2).2.err = 0 := (kp_value _).back he
  have e2 : (attrR ((catR s).1 : Int) (catR s).2).2.err = 0 := (kp_must _ _).back e3
  have hc : (catR s').1 = (catR s).1 := c1
  have q1 : Qc (attrR ((catR s).1 : Int) (catR s).2).2 (attrR ((catR s').1 : Int) (catR s').2).2 := Qc.then_ q0 (kp_attr _ _) (fun h => .inl (attr_short h _)) (fun h => by
    have := attr_sync h (cat := ((catR s).1 : Int)) e2
    rw [hc]
    exact this)
  have q2 : Qc (mustR [m_eqm, m_lt, m_gt] (attrR ((catR s).1 : Int) (catR s).2).2).2 (mustR [m_eqm, m_lt, m_gt] (attrR ((catR s').1 : Int) (catR s').2).2).2 := q1.then_ (kp_must _ _) (fun h => must_short h _) (fun h => must_sync h _ e3)
  exact q2.then_ (kp_value _) value_short (fun h => value_sync h he)
/-- A row. -/
theorem row_short {α : Type} {one : Pz → α × Pz} {btw : ByteArray} (hk : ∀ s, Kp s (one s).2) (hs : ∀ s, Short s → Bad (one s).2) {n : Nat} {l : List α} {s : Pz} (h : Short s) (hn : 1 ≤ n) : Bad (rowR one btw n l s).2 := by
  obtain ⟨n, rfl⟩ : ∃ m, n = m + 1 := ⟨n - 1, by omega⟩
  have hb := (((hs s h).kp (kp_most ((l ++ [(one s).1]).length : Int) 8 _)).kp (kp_take [btw] _))
  unfold rowR
  simp only
  split
  · exact hb
  · exact hb.kp (kp_row hk n _ _)
theorem most_same {n l : Int} {s : Pz} (h0 : s.err = 0) (h : (mostR n l s).err = 0) : ¬ l < n := by
  intro hl
  unfold mostR at h
  rw [if_pos hl] at h
  unfold failR at h
  rw [if_pos h0] at h
  simp at h
theorem short_len {L : Nat} {s : Pz} (h : s.ok L) : 1 ≤ s.rest.length := h.pos
theorem row_sync {α : Type} {one : Pz → α × Pz} {btw : ByteArray} {L : Nat} (hk : ∀ s, Kp s (one s).2) (hg : ∀ s, s.ok L → Goes L s (one s).2) (hs : ∀ s, Short s → Bad (one s).2) (hy : ∀ s s', s.ok L → s'.ok L → Sync s s' → (one s).2.err = 0 → Qc (one s).2 (one s').2) :
    ∀ (n n' : Nat) (l l' : List α) (s s' : Pz), s.ok L → s'.ok L → l.length = l'.length → s.rest.length ≤ n → s'.rest.length ≤ n' → Sync s s' → (rowR one btw n l s).2.err = 0 → Qc (rowR one btw n l s).2 (rowR one btw n' l' s').2
  | 0, n', l, l', s, s', ho, ho', hl, hn, hn', h, he => by have := ho.pos; omega
  | n + 1, 0, l, l', s, s', ho, ho', hl, hn, hn', h, he => by have := ho'.pos; omega
  | n + 1, n' + 1, l, l', s, s', ho, ho', hl, hn, hn', h, he => by
    have g1 := hg s ho
    have g1' := hg s' ho'
    have hkt : ∀ (m : Int) (s1 : Pz), Kp s1 (takeR [btw] (mostR m 8 s1)).2 := fun m s1 => (kp_most _ _ _).trans (kp_take _ _)
    have hlen : ((l' ++ [(one s').1]).length : Int) = ((l ++ [(one s).1]).length : Int) := by simp [hl]
    -- nothing was wrong so far
    have hT : (takeR [btw] (mostR ((l ++ [(one s).1]).length : Int) 8 (one s).2)).2.err = 0 := by
      unfold rowR at he
      simp only at he
      split at he
      · exact he
      · exact (kp_row hk n _ _).back he
    have hM : (mostR ((l ++ [(one s).1]).length : Int) 8 (one s).2).err = 0 := (kp_take _ _).back hT
    have hO : (one s).2.err = 0 := (kp_most _ _ _).back hM
    have hle := most_same hO hM
    have em : ∀ s1 : Pz, mostR ((l ++ [(one s).1]).length : Int) 8 s1 = s1 := fun s1 => by unfold mostR; rw [if_neg hle]
    have q1 := hy s s' ho ho' h hO
    unfold rowR at he ⊢
    simp only at he ⊢
    rw [em] at he
    rw [hlen, em, em]
    have tl := takeR_len g1.1 [btw]
    have tl' := takeR_len g1'.1 [btw]
    have gt := (take_go g1.1 [btw]).1
    have gt' := (take_go g1'.1 [btw]).1
    rcases q1 with q1 | q1 | q1
    · left
      have hb := q1.kp (kp_take [btw] _)
      split
      · exact hb
      · exact hb.kp (kp_row hk n' _ _)
    · have hb := take_short q1 [btw]
      have key : ∀ l1 : List α, Qc (rowR one btw n (l ++ [(one s).1]) (takeR [btw] (one s).2).2).2 (rowR one btw n' l1 (takeR [btw] (one s').2).2).2 ∨ n' = 0 := fun l1 => by
        by_cases h0 : n' = 0
        · exact .inr h0
        · exact .inl (.inl (row_short hk hs hb (by omega)))
      by_cases hi : (takeR [btw] (one s').2).1 = 0
      · rw [if_pos hi]
        exact .inr (.inl hb)
      · rw [if_neg hi]
        rw [if_neg hi] at tl'
        have h1 := gt'.pos
        have h2 := g1'.2
        exact .inl (row_short hk hs hb (by omega))
    · obtain ⟨c1, q2⟩ := take_sync q1 [btw]
      rw [c1]
      by_cases hi : (takeR [btw] (one s).2).1 = 0
      · rw [if_pos hi, if_pos hi]
        exact q2
      · rw [if_neg hi] at he
        rw [if_neg hi, if_neg hi]
        rw [if_neg hi] at tl
        rw [c1, if_neg hi] at tl'
        have h2 := g1.2
        have h2' := g1'.2
        have h1' := gt'.pos
        rcases q2 with q2 | q2 | q2
        · exact .inl (q2.kp (kp_row hk n' _ _))
        · exact .inl (row_short hk hs q2 (by omega))
        · exact row_sync hk hg hs hy n n' _ _ _ _ gt gt' (by simp [hl]) (by omega) (by omega) q2 he
theorem short_pos {s : Pz} (h : Short s) : 1 ≤ s.rest.length := by
  obtain ⟨_, ⟨e, _, ht⟩, _⟩ := h
  rcases ht with ht | ⟨x, _, ht⟩ <;> rw [ht] <;> simp
theorem allOf_short {s : Pz} (h : Short s) : Bad (allOfR s).2 := row_short kp_match (fun s h => match_short h) h (short_pos h)
theorem allOf_sync {L : Nat} {s s' : Pz} (ho : s.ok L) (ho' : s'.ok L) (h : Sync s s') (he : (allOfR s).2.err = 0) : Qc (allOfR s).2 (allOfR s').2 :=
  row_sync kp_match (fun s h => match_go h) (fun s h => match_short h) (fun s s' _ _ h he => match_sync h he) _ _ [] [] s s' ho ho' rfl (Nat.le_refl _) (Nat.le_refl _) h he
theorem rowAll_go {L : Nat} {s : Pz} (h : s.ok L) (n : Nat) : Goes L s (rowR allOfR w_or n [] s).2 := row_go (fun s h => allOf_go h) _ _ _ h
theorem rowAll_kp (n : Nat) (s : Pz) : Kp s (rowR allOfR w_or n [] s).2 := kp_row kp_allOf _ _ _
theorem anyOf_short {s : Pz} (h : Short s) : Bad (anyOfR s).2 := by
  unfold anyOfR
  simp only
  refine Bad.kp ?_ (kp_must _ _)
  rcases must_short h [m_lp] with hb | hs
  · exact hb.kp (rowAll_kp _ _)
  · exact row_short kp_allOf (fun s h => allOf_short h) hs (short_pos hs)
theorem anyOf_sync {L : Nat} {s s' : Pz} (ho : s.ok L) (ho' : s'.ok L) (h : Sync s s') (he : (anyOfR s).2.err = 0) : Qc (anyOfR s).2 (anyOfR s').2 := by
  unfold anyOfR at he ⊢
  simp only at he ⊢
  have e2 := (kp_must [m_rp] _).back he
  have e1 := (rowAll_kp (mustR [m_lp] s).2.rest.length (mustR [m_lp] s).2).back e2
  have q1 := must_sync h [m_lp] e1
  have q2 : Qc (rowR allOfR w_or (mustR [m_lp] s).2.rest.length [] (mustR [m_lp] s).2).2 (rowR allOfR w_or (mustR [m_lp] s').2.rest.length [] (mustR [m_lp] s').2).2 :=
    q1.then_ (rowAll_kp _ _) (fun h => .inl (row_short kp_allOf (fun s h => allOf_short h) h (short_pos h))) (fun h =>
      row_sync kp_allOf (fun s h => allOf_go h) (fun s h => allOf_short h) (fun s s' ho ho' h he => allOf_sync ho ho' h he) _ _ [] [] _ _ (ho.must _) (ho'.must _) rfl (Nat.le_refl _) (Nat.le_refl _) h e2)
  exact q2.then_ (kp_must _ _) (fun h => must_short h _) (fun h => must_sync h _ he)
theorem rowAny_kp (n : Nat) (s : Pz) : Kp s (rowR anyOfR w_and n [] s).2 := kp_row kp_anyOf _ _ _
theorem target_short {s : Pz} (h : Short s) : Bad (targetR s).2 ∨ Short (targetR s).2 := by
  have hs := take_short h [w_when]
  unfold targetR
  split
  · exact .inr hs
  · exact .inl (row_short kp_anyOf (fun s h => anyOf_short h) hs (short_pos hs))
theorem target_sync {L : Nat} {s s' : Pz} (ho : s.ok L) (ho' : s'.ok L) (h : Sync s s') (he : (targetR s).2.err = 0) : Qc (targetR s).2 (targetR s').2 := by
  obtain ⟨c1, q1⟩ := take_sync h [w_when]
  unfold targetR at he ⊢
  rw [c1]
  by_cases hi : (takeR [w_when] s).1 = 0
  · rw [if_pos hi, if_pos hi]
    exact q1
  · rw [if_neg hi] at he
    rw [if_neg hi, if_neg hi]
    exact q1.then_ (rowAny_kp _ _) (fun h => .inl (row_short kp_anyOf (fun s h => anyOf_short h) h (short_pos h))) (fun h =>
      row_sync kp_anyOf (fun s h => anyOf_go h) (fun s h => anyOf_short h) (fun s s' ho ho' h he => anyOf_sync ho ho' h he) _ _ [] [] _ _ (ho.take _) (ho'.take _) rfl (Nat.le_refl _) (Nat.le_refl _) h he)
/-- There is no bracket. -/
theorem no_lb {s : Pz} (h : ∀ t ∈ s.rest, NbT t) (hne : s.rest ≠ []) : seesR [m_lb] s = 0 := by
  have hm : s.hd ∈ s.rest := by
    unfold Pz.hd
    cases hr : s.rest with
    | nil => exact absurd hr hne
    | cons a l => simp
  have := h _ hm
  unfold seesR
  split
  · rename_i hk
    unfold NbT at this
    have hs : s.hd.s ≠ m_lb := fun e => this ⟨hk, e⟩
    simp [idxW, hs]
  · rfl
theorem lb_short {s : Pz} (h : Short s) : Bad (mustR [m_lb] s).2 := by
  have hne : s.rest ≠ [] := fun e => by have := short_pos h; rw [e] at this; simp at this
  unfold mustR
  rw [if_pos (no_lb h.2.2 hne)]
  exact wrong_bad h.1
theorem lb_sync {s s' : Pz} (h : Sync s s') : Bad (mustR [m_lb] s').2 := by
  obtain ⟨_, h1, hn, a, l, u, t, _, _, _, _, e2⟩ := h
  unfold mustR
  rw [if_pos (no_lb hn (by rw [e2]; simp))]
  exact wrong_bad h1
/-- A policy's head that is cut short. -/
theorem pol_cut {L : Nat} {s s' : Pz} (ho : s.ok L) (ho' : s'.ok L) (h : Short s' ∨ Sync s s') (h0 : s.err = 0) (he : (polR 5 s).2.err = 0) : Bad (polR 5 s').2 := by
  have m0 : ∀ s : Pz, mostR (5 - ((4 : Nat) : Int)) 4 s = s := fun s => by unfold mostR; rw [if_neg (by omega)]
  obtain ⟨a, s1, h1⟩ := pair_eq (mustR [w_policy, w_set] s)
  obtain ⟨b, s2, h2⟩ := pair_eq (nameR s1)
  obtain ⟨c, s3, h3⟩ := pair_eq (mustR w_algs s2)
  obtain ⟨t, s4, h4⟩ := pair_eq (targetR s3)
  obtain ⟨d, s5, h5⟩ := pair_eq (mustR [m_lb] s4)
  obtain ⟨r, ks, h6⟩ := pair_eq (inR 4 a s5)
  obtain ⟨k, s6⟩ := ks
  obtain ⟨e, s7, h7⟩ := pair_eq (mustR [m_rb] s6)
  obtain ⟨o, s8, h8⟩ := pair_eq (dutsR s7)
  obtain ⟨a', s1', h1'⟩ := pair_eq (mustR [w_policy, w_set] s')
  obtain ⟨b', s2', h2'⟩ := pair_eq (nameR s1')
  obtain ⟨c', s3', h3'⟩ := pair_eq (mustR w_algs s2')
  obtain ⟨t', s4', h4'⟩ := pair_eq (targetR s3')
  obtain ⟨d', s5', h5'⟩ := pair_eq (mustR [m_lb] s4')
  obtain ⟨r', ks', h6'⟩ := pair_eq (inR 4 a' s5')
  obtain ⟨k', s6'⟩ := ks'
  obtain ⟨e', s7', h7'⟩ := pair_eq (mustR [m_rb] s6')
  obtain ⟨o', s8', h8'⟩ := pair_eq (dutsR s7')
  have eq := polR_eq 4 s (m0 s) h1 h2 h3 h4 h5 h6 h7 h8
  have eq' := polR_eq 4 s' (m0 s') h1' h2' h3' h4' h5' h6' h7' h8'
  change polR 5 s = _ at eq
  change polR 5 s' = _ at eq'
  rw [eq] at he
  rw [eq']
  simp only at he ⊢
  have k6 : Kp s5 s6 := by have := kp_in (f := 4) (kp_pol 4) a s5; rwa [h6] at this
  have k7 : Kp s6 s7 := by have := kp_must [m_rb] s6; rwa [h7] at this
  have k8 : Kp s7 s8 := by have := kp_duts s7; rwa [h8] at this
  have k6' : Kp s5' s6' := by have := kp_in (f := 4) (kp_pol 4) a' s5'; rwa [h6'] at this
  have k7' : Kp s6' s7' := by have := kp_must [m_rb] s6'; rwa [h7'] at this
  have k8' : Kp s7' s8' := by have := kp_duts s7'; rwa [h8'] at this
  have x5 : s5.err = 0 := (k6.trans (k7.trans k8)).back he
  have x4 : s4.err = 0 := by have := kp_must [m_lb] s4; rw [h5] at this; exact this.back x5
  have x3 : s3.err = 0 := by have := kp_target s3; rw [h4] at this; exact this.back x4
  have x2 : s2.err = 0 := by have := kp_must w_algs s2; rw [h3] at this; exact this.back x3
  have x1 : s1.err = 0 := by have := kp_name s1; rw [h2] at this; exact this.back x2
  have o1 : s1.ok L := by have := ho.must [w_policy, w_set]; rwa [h1] at this
  have o2 : s2.ok L := by have := o1.name; rwa [h2] at this
  have o3 : s3.ok L := by have := o2.must w_algs; rwa [h3] at this
  have o1' : s1'.ok L := by have := ho'.must [w_policy, w_set]; rwa [h1'] at this
  have o2' : s2'.ok L := by have := o1'.name; rwa [h2'] at this
  have o3' : s3'.ok L := by have := o2'.must w_algs; rwa [h3'] at this
  have q1 : Qc s1 s1' := by
    rcases h with h | h
    · have := must_short h [w_policy, w_set]; rw [h1'] at this; exact this.elim .inl (fun h => .inr (.inl h))
    · have := must_sync h [w_policy, w_set] (by rw [h1]; exact x1); rw [h1, h1'] at this; exact this
  have q2 : Qc s2 s2' := q1.then_ (by have := kp_name s1'; rwa [h2'] at this) (fun h => by have := name_short h; rwa [h2'] at this) (fun h => by have := name_sync h (by rw [h2]; exact x2); rwa [h2, h2'] at this)
  have q3 : Qc s3 s3' := q2.then_ (by have := kp_must w_algs s2'; rwa [h3'] at this) (fun h => by have := must_short h w_algs; rwa [h3'] at this) (fun h => by have := must_sync h w_algs (by rw [h3]; exact x3); rwa [h3, h3'] at this)
  have q4 : Qc s4 s4' := q3.then_ (by have := kp_target s3'; rwa [h4'] at this) (fun h => by have := target_short h; rwa [h4'] at this) (fun h => by have := target_sync o3 o3' h (by rw [h4]; exact x4); rwa [h4, h4'] at this)
  have b5 : Bad s5' := by
    have e5 : s5' = (mustR [m_lb] s4').2 := by rw [h5']
    rw [e5]
    rcases q4 with q | q | q
    · exact q.kp (kp_must _ _)
    · exact lb_short q
    · exact lb_sync q
  exact ((b5.kp k6').kp k7').kp k8'
end
end Go.Proofs.Ythppdgiobflfpaa
