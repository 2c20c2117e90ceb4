/- ParseCut, plainly: a policy with more behind it. -/
import Derived.Test.YthppdgiobflfpaaParErr
import Derived.Test.YthppdgiobflfpaaParBlanks
namespace Go.Proofs.Ythppdgiobflfpaa
set_option linter.unusedVariables false

def w_cats : List ByteArray := [w_subject, w_action, w_case, w_env]
/-- The words that may be there or not. -/
def takesW : List (List ByteArray) := [[w_when], [w_and], [w_or], [m_comma], [m_bang], [w_on], [w_if], [m_lp], w_cats, [w_permit, w_deny]]
/-- So far nothing is wrong. -/
def Pm (L : Nat) (s : Pz) : Prop := s.ok L ∧ s.err = 0 ∧ ∃ l e, s.rest = l ++ [e] ∧ e.k = 7 ∧ ∀ b ∈ l, b.k ≠ 7
/-- With x, and another end, in the end's stead. -/
def ext (x e : Tk) (s : Pz) : Pz := ⟨s.rest.dropLast ++ [x, e], s.met, s.err, s.at_⟩
section
variable {L : Nat} {x e' : Tk} {s : Pz}
theorem ext_len (h : s.ok L) : (ext x e' s).rest.length = s.rest.length + 1 := by
  have := h.pos
  show (s.rest.dropLast ++ [x, e']).length = _
  rw [List.length_append, List.length_dropLast]
  simp only [List.length_cons, List.length_nil]
  omega
theorem ext_hd (h : Pm L s) (hk : s.hd.k ≠ 7) : (ext x e' s).hd = s.hd := by
  obtain ⟨_, _, l, e, h1, h2, _⟩ := h
  unfold ext Pz.hd at *
  rw [h1] at hk ⊢
  cases l with
  | nil => exact absurd h2 hk
  | cons a l => rw [List.dropLast_concat]; rfl
theorem ext_end (h : Pm L s) (hk : s.hd.k = 7) : (ext x e' s).hd = x := by
  obtain ⟨_, _, l, e, h1, h2, h3⟩ := h
  unfold ext Pz.hd at *
  rw [h1] at hk ⊢
  cases l with
  | nil => simp
  | cons a l => exact absurd hk (h3 a (by simp))
theorem pm_next (h : Pm L s) (hk : s.hd.k ≠ 7) : Pm L (nextR s) ∧ nextR (ext x e' s) = ext x e' (nextR s) := by
  obtain ⟨h0, h1, l, e, h2, h3, h4⟩ := h
  have hn := h0.next hk
  cases l with
  | nil => unfold Pz.hd at hk; rw [h2] at hk; exact absurd h3 hk
  | cons a l =>
    refine ⟨⟨hn, h1, l, e, by show s.rest.drop 1 = _; rw [h2]; rfl, h3, fun b hb => h4 b (by simp [hb])⟩, ?_⟩
    unfold nextR ext
    rw [h2]
    have e1 : (a :: l ++ [e]).dropLast = a :: l := by rw [List.dropLast_concat]
    have e2 : ((a :: l ++ [e]).drop 1).dropLast = l := by show (l ++ [e]).dropLast = l; rw [List.dropLast_concat]
    simp only [e1, e2]
    rfl
theorem sees_ext (h : Pm L s) {ws : List ByteArray} (hx : s.hd.k = 7 → idxW x.s ws = 0) : seesR ws (ext x e' s) = seesR ws s := by
  by_cases hk : s.hd.k = 7
  · have e1 : seesR ws s = 0 := by
      unfold seesR
      rw [hk]
      simp
    rw [e1]
    unfold seesR
    rw [ext_end h hk, hx hk]
    simp
  · unfold seesR
    rw [ext_hd h hk]
theorem wrong_no (h0 : s.err = 0) (h : (wrongR s).err = 0) : False := by
  unfold wrongR failR at h
  rw [if_pos h0] at h
  simp at h
theorem sees_k7 {ws : List ByteArray} (h : seesR ws s ≠ 0) : s.hd.k ≠ 7 := by
  intro h7
  unfold seesR at h
  rw [h7] at h
  simp at h
theorem ex_take (h : Pm L s) {ws : List ByteArray} (hx : idxW x.s ws = 0) : Pm L (takeR ws s).2 ∧ takeR ws (ext x e' s) = ((takeR ws s).1, ext x e' (takeR ws s).2) := by
  unfold takeR
  rw [sees_ext h fun _ => hx]
  split
  · exact ⟨h, rfl⟩
  · rename_i h0
    obtain ⟨a, b⟩ := pm_next (x := x) (e' := e') h (sees_k7 h0)
    exact ⟨a, by rw [b]⟩
theorem ex_must (h : Pm L s) {ws : List ByteArray} (he : (mustR ws s).2.err = 0) : Pm L (mustR ws s).2 ∧ mustR ws (ext x e' s) = ((mustR ws s).1, ext x e' (mustR ws s).2) := by
  unfold mustR at he ⊢
  by_cases h0 : seesR ws s = 0
  · rw [if_pos h0] at he
    exact (wrong_no h.2.1 he).elim
  · have hk := sees_k7 h0
    rw [sees_ext h fun e => absurd e hk, if_neg h0, if_neg h0]
    obtain ⟨a, b⟩ := pm_next (x := x) (e' := e') h hk
    exact ⟨a, by rw [b]⟩
theorem ex_name (h : Pm L s) (he : (nameR s).2.err = 0) : Pm L (nameR s).2 ∧ nameR (ext x e' s) = ((nameR s).1, ext x e' (nameR s).2) := by
  unfold nameR at he ⊢
  by_cases h0 : s.hd.k = 1
  · have hk : s.hd.k ≠ 7 := by omega
    rw [ext_hd h hk, if_pos h0, if_pos h0]
    obtain ⟨a, b⟩ := pm_next (x := x) (e' := e') h hk
    exact ⟨a, by rw [b]⟩
  · rw [if_neg h0] at he
    exact (wrong_no h.2.1 he).elim
theorem ex_most (h : Pm L s) {n l : Int} (he : (mostR n l s).err = 0) : mostR n l s = s ∧ mostR n l (ext x e' s) = ext x e' s := by
  have hl : ¬ l < n := by
    intro hl
    unfold mostR at he
    rw [if_pos hl] at he
    unfold failR at he
    rw [if_pos h.2.1] at he
    simp at he
  unfold mostR
  rw [if_neg hl, if_neg hl]
  exact ⟨rfl, rfl⟩
theorem ex_value (h : Pm L s) (he : (valueR s).2.err = 0) : Pm L (valueR s).2 ∧ valueR (ext x e' s) = ((valueR s).1, ext x e' (valueR s).2) := by
  have hk : s.hd.k ≠ 7 := by
    intro h7
    unfold valueR at he
    rw [h7, if_pos (show kindR 7 = 1 from rfl)] at he
    unfold mustR at he
    have e1 : seesR [w_false, w_true] s = 0 := by unfold seesR; rw [h7]; simp
    rw [if_pos e1] at he
    exact wrong_no h.2.1 he
  unfold valueR at he ⊢
  rw [ext_hd h hk]
  split
  · rename_i h0
    rw [if_pos h0] at he
    obtain ⟨a, b⟩ := ex_must (x := x) (e' := e') h he
    exact ⟨a, by rw [b]⟩
  · obtain ⟨a, b⟩ := pm_next (x := x) (e' := e') h hk
    exact ⟨a, by rw [b]⟩
/-- What x is not. -/
def Xw (x : Tk) : Prop := ∀ ws ∈ takesW, idxW x.s ws = 0
theorem Xw.bang (h : Xw x) : idxW x.s [m_bang] = 0 := h _ (by simp [takesW])
theorem Xw.cats (h : Xw x) : idxW x.s w_cats = 0 := h _ (by simp [takesW])
theorem ex_attr (hx : Xw x) (h : Pm L s) {cat : Int} (he : (attrR cat s).2.err = 0) : Pm L (attrR cat s).2 ∧ attrR cat (ext x e' s) = ((attrR cat s).1, ext x e' (attrR cat s).2) := by
  unfold attrR at he ⊢
  simp only at he ⊢
  by_cases hc : cat = 0
  · rw [if_pos hc] at he
    have := ((kp_must [m_dot] _).trans ((kp_name _).trans (kp_take [m_bang] _))).back he
    exact (wrong_no h.2.1 this).elim
  · rw [if_neg hc] at he ⊢
    rw [if_neg hc]
    have e3 := (kp_take [m_bang] _).back he
    have e2 := (kp_name _).back e3
    obtain ⟨p1, q1⟩ := ex_must (x := x) (e' := e') h e2
    obtain ⟨p2, q2⟩ := ex_name (x := x) (e' := e') p1 e3
    obtain ⟨p3, q3⟩ := ex_take (x := x) (e' := e') p2 hx.bang
    rw [q1]
    simp only
    rw [q2]
    simp only
    rw [q3]
    exact ⟨p3, rfl⟩
theorem ex_match (hx : Xw x) (h : Pm L s) (he : (matchR s).2.err = 0) : Pm L (matchR s).2 ∧ matchR (ext x e' s) = ((matchR s).1, ext x e' (matchR s).2) := by
  unfold matchR at he ⊢
  simp only at he ⊢
  have e3 := (kp_value _).back he
  have e2 := (kp_must [m_eqm, m_lt, m_gt] _).back e3
  obtain ⟨p1, q1⟩ := ex_take (x := x) (e' := e') h hx.cats
  change Pm L (catR s).2 at p1
  change catR (ext x e' s) = ((catR s).1, ext x e' (catR s).2) at q1
  obtain ⟨p2, q2⟩ := ex_attr (e' := e') hx p1 e2
  obtain ⟨p3, q3⟩ := ex_must (x := x) (e' := e') p2 e3
  obtain ⟨p4, q4⟩ := ex_value (x := x) (e' := e') p3 he
  rw [q1]
  simp only
  rw [q2]
  simp only
  rw [q3]
  simp only
  rw [q4]
  exact ⟨p4, rfl⟩
theorem ex_leaf (hx : Xw x) (h : Pm L s) (he : (leafR s).2.err = 0) : Pm L (leafR s).2 ∧ leafR (ext x e' s) = ((leafR s).1, ext x e' (leafR s).2) := by
  obtain ⟨p1, q1⟩ := ex_take (x := x) (e' := e') h hx.cats
  change Pm L (catR s).2 at p1
  change catR (ext x e' s) = ((catR s).1, ext x e' (catR s).2) at q1
  unfold leafR at he ⊢
  rw [q1]
  simp only
  by_cases hc : 0 < (catR s).1
  · rw [if_pos hc] at he
    rw [if_pos hc, if_pos hc]
    obtain ⟨p2, q2⟩ := ex_attr (e' := e') hx p1 he
    rw [q2]
    exact ⟨p2, rfl⟩
  · rw [if_neg hc] at he
    rw [if_neg hc, if_neg hc]
    obtain ⟨p2, q2⟩ := ex_value (x := x) (e' := e') p1 he
    rw [q2]
    exact ⟨p2, rfl⟩
theorem ex_row {α : Type} {one : Pz → α × Pz} {btw : ByteArray} (hw : idxW x.s [btw] = 0) (hk : ∀ s, Kp s (one s).2) (hg : ∀ s, s.ok L → Goes L s (one s).2) (ho : ∀ s, Pm L s → (one s).2.err = 0 → Pm L (one s).2 ∧ one (ext x e' s) = ((one s).1, ext x e' (one s).2)) :
    ∀ (n n' : Nat) (l : List α) (s : Pz), Pm L s → s.rest.length ≤ n → n ≤ n' → (rowR one btw n l s).2.err = 0 → Pm L (rowR one btw n l s).2 ∧ rowR one btw n' l (ext x e' s) = ((rowR one btw n l s).1, ext x e' (rowR one btw n l s).2)
  | 0, n', l, s, h, hn, hn', he => by have := h.1.pos; omega
  | n + 1, 0, l, s, h, hn, hn', he => by omega
  | n + 1, n' + 1, l, s, h, hn, hn', he => by
    have hT : (takeR [btw] (mostR ((l ++ [(one s).1]).length : Int) 8 (one s).2)).2.err = 0 := by
      unfold rowR at he
      simp only at he
      split at he
      · exact he
      · exact (kp_row hk n _ _).back he
    have hM := (kp_take [btw] _).back hT
    have hO := (kp_most _ _ _).back hM
    have g1 := hg s h.1
    obtain ⟨p1, q1⟩ := ho s h hO
    obtain ⟨m1, m2⟩ := ex_most (x := x) (e' := e') p1 hM
    obtain ⟨p2, q2⟩ := ex_take (x := x) (e' := e') p1 hw
    unfold rowR at he ⊢
    simp only at he ⊢
    rw [q1]
    simp only
    rw [m1] at he ⊢
    rw [m2, q2]
    simp only
    have tl := takeR_len p1.1 [btw]
    by_cases hi : (takeR [btw] (one s).2).1 = 0
    · rw [if_pos hi, if_pos hi]
      exact ⟨p2, rfl⟩
    · rw [if_neg hi] at he tl
      rw [if_neg hi, if_neg hi]
      have h2 := g1.2
      exact ex_row hw hk hg ho n n' _ _ p2 (by omega) (by omega) he
theorem Xw.at_ {x : Tk} (h : Xw x) {ws : List ByteArray} (hm : ws ∈ takesW) : idxW x.s ws = 0 := h ws hm
theorem ex_allOf (hx : Xw x) (h : Pm L s) (he : (allOfR s).2.err = 0) : Pm L (allOfR s).2 ∧ allOfR (ext x e' s) = ((allOfR s).1, ext x e' (allOfR s).2) := by
  unfold allOfR at he ⊢
  exact ex_row (hx.at_ (by simp [takesW])) kp_match (fun s h => match_go h) (fun s h he => ex_match hx h he) _ _ [] s h (Nat.le_refl _) (by rw [ext_len h.1]; omega) he
theorem ex_anyOf (hx : Xw x) (h : Pm L s) (he : (anyOfR s).2.err = 0) : Pm L (anyOfR s).2 ∧ anyOfR (ext x e' s) = ((anyOfR s).1, ext x e' (anyOfR s).2) := by
  unfold anyOfR at he ⊢
  simp only at he ⊢
  have e2 := (kp_must [m_rp] _).back he
  have e1 := (kp_row kp_allOf _ _ _).back e2
  obtain ⟨p1, q1⟩ := ex_must (x := x) (e' := e') h e1
  obtain ⟨p2, q2⟩ := ex_row (x := x) (e' := e') (hx.at_ (ws := [w_or]) (by simp [takesW])) kp_allOf (fun s h => allOf_go h) (fun s h he => ex_allOf hx h he) _ (ext x e' (mustR [m_lp] s).2).rest.length [] _ p1 (Nat.le_refl _) (by rw [ext_len p1.1]; omega) e2
  obtain ⟨p3, q3⟩ := ex_must (x := x) (e' := e') p2 he
  rw [q1]
  simp only
  rw [q2]
  simp only
  rw [q3]
  exact ⟨p3, rfl⟩
theorem ex_target (hx : Xw x) (h : Pm L s) (he : (targetR s).2.err = 0) : Pm L (targetR s).2 ∧ targetR (ext x e' s) = ((targetR s).1, ext x e' (targetR s).2) := by
  obtain ⟨p1, q1⟩ := ex_take (x := x) (e' := e') h (hx.at_ (ws := [w_when]) (by simp [takesW]))
  unfold targetR at he ⊢
  rw [q1]
  simp only
  by_cases hi : (takeR [w_when] s).1 = 0
  · rw [if_pos hi, if_pos hi]
    exact ⟨p1, rfl⟩
  · rw [if_neg hi] at he
    rw [if_neg hi, if_neg hi]
    exact ex_row (hx.at_ (ws := [w_and]) (by simp [takesW])) kp_anyOf (fun s h => anyOf_go h) (fun s h he => ex_anyOf hx h he) _ _ [] _ p1 (Nat.le_refl _) (by rw [ext_len p1.1]; omega) he
theorem ex_duties (hx : Xw x) : ∀ (n n' : Nat) (l : List Dut) (s : Pz), Pm L s → s.rest.length ≤ n → n ≤ n' → (dutiesR n l s).2.err = 0 → Pm L (dutiesR n l s).2 ∧ dutiesR n' l (ext x e' s) = ((dutiesR n l s).1, ext x e' (dutiesR n l s).2)
  | 0, n', l, s, h, hn, hn', he => by have := h.1.pos; omega
  | n + 1, 0, l, s, h, hn, hn', he => by omega
  | n + 1, n' + 1, l, s, h, hn, hn', he => by
    obtain ⟨p0, q0⟩ := ex_take (x := x) (e' := e') h (hx.at_ (ws := [w_on]) (by simp [takesW]))
    have tl := takeR_len h.1 [w_on]
    unfold dutiesR at he ⊢
    rw [q0]
    simp only at he ⊢
    by_cases hi : (takeR [w_on] s).1 = 0
    · rw [if_pos hi, if_pos hi]
      exact ⟨p0, rfl⟩
    · rw [if_neg hi] at he tl
      rw [if_neg hi, if_neg hi]
      have e4 := (kp_duties n _ _).back he
      have e3 := (kp_most _ _ _).back e4
      have e2 := (kp_name _).back e3
      have e1 := (kp_must [w_log, w_redact, w_review, w_notify] _).back e2
      obtain ⟨p1, q1⟩ := ex_must (x := x) (e' := e') p0 e1
      obtain ⟨p2, q2⟩ := ex_must (x := x) (e' := e') p1 e2
      obtain ⟨p3, q3⟩ := ex_name (x := x) (e' := e') p2 e3
      obtain ⟨m1, m2⟩ := ex_most (x := x) (e' := e') p3 e4
      have g := ((must_go p0.1 [w_permit, w_deny]).trans fun h => must_go h [w_log, w_redact, w_review, w_notify]).trans fun h => name_go h
      have hg := g.2
      rw [q1]
      simp only
      rw [q2]
      simp only
      rw [q3]
      simp only
      rw [m1] at he ⊢
      rw [m2]
      exact ex_duties hx n n' _ _ p3 (by omega) (by omega) he
theorem ex_duts (hx : Xw x) (h : Pm L s) (he : (dutsR s).2.err = 0) : Pm L (dutsR s).2 ∧ dutsR (ext x e' s) = ((dutsR s).1, ext x e' (dutsR s).2) := by
  unfold dutsR at he ⊢
  exact ex_duties hx _ _ [] s h (Nat.le_refl _) (by rw [ext_len h.1]; omega) he
theorem ex_nod (h : Pm L s) {bag : Bool} {p p' : Int} {l : List Nod} {n : Nod} (he : (nodR bag p l n s).2.err = 0) : Pm L (nodR bag p l n s).2 ∧ nodR bag p' l n (ext x e' s) = ((nodR bag p l n s).1, ext x e' (nodR bag p l n s).2) := by
  unfold nodR at he ⊢
  simp only at he ⊢
  by_cases hb : (bag != decide (n.op = 2)) = true
  · rw [if_pos hb] at he
    have e1 := (kp_fail 5 p _).back he
    unfold failR at he
    rw [if_pos e1] at he
    simp at he
  · rw [if_neg hb] at he
    rw [if_neg hb, if_neg hb]
    obtain ⟨m1, m2⟩ := ex_most (x := x) (e' := e') h he
    rw [m1, m2]
    exact ⟨h, rfl⟩
abbrev w_funs : List ByteArray := [w_one, w_size, w_has, w_eq, w_less, w_add, w_sub, w_mul, w_not, w_and, w_or]
theorem callR_eq {ex : List Nod → Bool → Pz → List Nod × Pz} {l l2 l3 : List Nod} {s s1 s2 s3 s4 : Pz} {i j : Nat} (h1 : mustR w_funs s = (i, s1)) (h2 : ex l (isBag (2 + (i : Int))) s1 = (l2, s2)) (h3 : (if isTwo (2 + (i : Int)) = true then ex l2 false s2 else (l2, s2)) = (l3, s3)) (h4 : mustR [m_rp] s3 = (j, s4)) : callR ex l s = (l3, 2 + (i : Int), s4) := by
  unfold callR
  simp only [h1, h2, h3, h4]
theorem ex_call {n n' : Nat} (ih : ∀ (l : List Nod) (b : Bool) (s : Pz), Pm L s → s.rest.length ≤ n → (exprR n l b s).2.err = 0 → Pm L (exprR n l b s).2 ∧ exprR n' l b (ext x e' s) = ((exprR n l b s).1, ext x e' (exprR n l b s).2)) {l : List Nod} (h : Pm L s) (hn : s.rest.length ≤ n) (he : (callR (exprR n) l s).2.2.err = 0) :
    Pm L (callR (exprR n) l s).2.2 ∧ callR (exprR n') l (ext x e' s) = ((callR (exprR n) l s).1, (callR (exprR n) l s).2.1, ext x e' (callR (exprR n) l s).2.2) := by
  obtain ⟨i, s1, h1⟩ := pair_eq (mustR w_funs s)
  obtain ⟨l2, s2, h2⟩ := pair_eq (exprR n l (isBag (2 + (i : Int))) s1)
  obtain ⟨l3, s3, h3⟩ := pair_eq (if isTwo (2 + (i : Int)) = true then exprR n l2 false s2 else (l2, s2))
  obtain ⟨j, s4, h4⟩ := pair_eq (mustR [m_rp] s3)
  have eq := callR_eq h1 h2 h3 h4
  rw [eq] at he ⊢
  simp only at he ⊢
  have x3 : s3.err = 0 := by have := kp_must [m_rp] s3; rw [h4] at this; exact this.back he
  have k2 : Kp s2 s3 := by
    split at h3
    · have := kp_expr n l2 false s2; rw [h3] at this; exact this
    · cases h3; exact .refl _
  have x2 : s2.err = 0 := k2.back x3
  have x1 : s1.err = 0 := by have := kp_expr n l (isBag (2 + (i : Int))) s1; rw [h2] at this; exact this.back x2
  obtain ⟨p1, q1⟩ := ex_must (x := x) (e' := e') h (ws := w_funs) (by rw [h1]; exact x1)
  rw [h1] at p1 q1
  have g1 := must_go h.1 w_funs
  rw [h1] at g1
  have g1l : s1.rest.length ≤ s.rest.length := g1.2
  obtain ⟨p2, q2⟩ := ih l (isBag (2 + (i : Int))) s1 p1 (by omega) (by rw [h2]; exact x2)
  have g2 := (expr_go n l (isBag (2 + (i : Int))) s1 p1.1 (by omega)).1
  rw [h2] at p2 q2 g2
  have g2l : s2.rest.length ≤ s1.rest.length := g2.2
  have q3 : Pm L s3 ∧ (if isTwo (2 + (i : Int)) = true then exprR n' l2 false (ext x e' s2) else (l2, ext x e' s2)) = (l3, ext x e' s3) := by
    split at h3
    · rename_i ht
      rw [if_pos ht]
      obtain ⟨a, b⟩ := ih l2 false s2 p2 (by omega) (by rw [h3]; exact x3)
      rw [h3] at a b
      exact ⟨a, b⟩
    · rename_i ht
      rw [if_neg ht]
      cases h3
      exact ⟨p2, rfl⟩
  obtain ⟨p4, q4⟩ := ex_must (x := x) (e' := e') q3.1 (ws := [m_rp]) (by rw [h4]; exact he)
  rw [h4] at p4 q4
  exact ⟨p4, callR_eq q1 q2 q3.2 q4⟩
theorem ex_expr (hx : Xw x) : ∀ (n n' : Nat) (l : List Nod) (b : Bool) (s : Pz), Pm L s → s.rest.length ≤ n → n ≤ n' → (exprR n l b s).2.err = 0 → Pm L (exprR n l b s).2 ∧ exprR n' l b (ext x e' s) = ((exprR n l b s).1, ext x e' (exprR n l b s).2)
  | 0, n', l, b, s, h, hn, hn', he => by have := h.1.pos; omega
  | n + 1, 0, l, b, s, h, hn, hn', he => by omega
  | n + 1, n' + 1, l, b, s, h, hn, hn', he => by
    obtain ⟨p0, q0⟩ := ex_take (x := x) (e' := e') h (hx.at_ (ws := [m_lp]) (by simp [takesW]))
    have tl := takeR_len h.1 [m_lp]
    unfold exprR at he ⊢
    rw [q0]
    simp only at he ⊢
    by_cases hi : 0 < (takeR [m_lp] s).1
    · rw [if_pos hi] at he
      rw [if_pos hi, if_pos hi]
      rw [if_neg (by omega)] at tl
      have e1 := (kp_nod _ _ _ _ _).back he
      obtain ⟨p1, q1⟩ := ex_call (x := x) (e' := e') (fun l b s h hn he => ex_expr hx n n' l b s h hn (by omega) he) p0 (by omega) e1
      rw [q1]
      exact ex_nod p1 he
    · rw [if_neg hi] at he
      rw [if_neg hi, if_neg hi]
      have e1 := (kp_nod _ _ _ _ _).back he
      obtain ⟨p1, q1⟩ := ex_leaf (e' := e') hx p0 e1
      rw [q1]
      exact ex_nod p1 he
theorem ex_cond (hx : Xw x) (h : Pm L s) (he : (condR s).2.err = 0) : Pm L (condR s).2 ∧ condR (ext x e' s) = ((condR s).1, ext x e' (condR s).2) := by
  obtain ⟨p1, q1⟩ := ex_take (x := x) (e' := e') h (hx.at_ (ws := [w_if]) (by simp [takesW]))
  unfold condR at he ⊢
  rw [q1]
  simp only
  by_cases hi : (takeR [w_if] s).1 = 0
  · rw [if_pos hi, if_pos hi]
    exact ⟨p1, rfl⟩
  · rw [if_neg hi] at he
    rw [if_neg hi, if_neg hi]
    exact ex_expr hx _ _ [] false _ p1 (Nat.le_refl _) (by rw [ext_len p1.1]; omega) he
theorem ex_rule (hx : Xw x) (h : Pm L s) (he : (ruleR s).2.err = 0) : Pm L (ruleR s).2 ∧ ruleR (ext x e' s) = ((ruleR s).1, ext x e' (ruleR s).2) := by
  unfold ruleR at he ⊢
  simp only at he ⊢
  have e5 := (kp_must [m_semi] _).back he
  have e4 := (kp_duts _).back e5
  have e3 := (kp_cond _).back e4
  have e2 := (kp_target _).back e3
  have e1 := (kp_name _).back e2
  obtain ⟨p1, q1⟩ := ex_must (x := x) (e' := e') h e1
  obtain ⟨p2, q2⟩ := ex_name (x := x) (e' := e') p1 e2
  obtain ⟨p3, q3⟩ := ex_target (e' := e') hx p2 e3
  obtain ⟨p4, q4⟩ := ex_cond (e' := e') hx p3 e4
  obtain ⟨p5, q5⟩ := ex_duts (e' := e') hx p4 e5
  obtain ⟨p6, q6⟩ := ex_must (x := x) (e' := e') p5 he
  rw [q1]
  simp only
  rw [q2]
  simp only
  rw [q3]
  simp only
  rw [q4]
  simp only
  rw [q5]
  simp only
  rw [q6]
  exact ⟨p6, rfl⟩
theorem pm_met (h : Pm L s) (hm : s.met + s.rest.length ≤ 5990) : Pm L (metR s) := ⟨met_ok h.1 hm, h.2.1, h.2.2⟩
theorem ex_rules (hx : Xw x) : ∀ (n n' : Nat) (l : List Rul) (s : Pz), Pm L s → s.met + s.rest.length ≤ 5990 → s.rest.length ≤ n → n ≤ n' → (rulesR n l s).2.err = 0 → Pm L (rulesR n l s).2 ∧ rulesR n' l (ext x e' s) = ((rulesR n l s).1, ext x e' (rulesR n l s).2)
  | 0, n', l, s, h, hm, hn, hn', he => by have := h.1.pos; omega
  | n + 1, 0, l, s, h, hm, hn, hn', he => by omega
  | n + 1, n' + 1, l, s, h, hm, hn, hn', he => by
    have hs := sees_ext (x := x) (e' := e') h (ws := [w_permit, w_deny]) (fun _ => hx.at_ (by simp [takesW]))
    by_cases hi : seesR [w_permit, w_deny] s = 0
    · unfold rulesR at he ⊢
      rw [hs, if_pos hi, if_pos hi]
      exact ⟨h, rfl⟩
    · obtain ⟨s1, h1⟩ : ∃ t, mostR ((l.length : Int) + 1) 16 (metR s) = t := ⟨_, rfl⟩
      obtain ⟨s2, h2⟩ : ∃ t, mostR (s1.met : Int) 64 s1 = t := ⟨_, rfl⟩
      obtain ⟨u, s3, h3⟩ := pair_eq (ruleR s2)
      have nx : ∀ {k : Nat} {s s1 s2 s3 : Pz} {u : Rul}, seesR [w_permit, w_deny] s ≠ 0 → mostR ((l.length : Int) + 1) 16 (metR s) = s1 → mostR (s1.met : Int) 64 s1 = s2 → ruleR s2 = (u, s3) → rulesR (k + 1) l s = rulesR k (l ++ [u]) s3 := by
        intro k s s1 s2 s3 u h h1 h2 h3
        conv => lhs; unfold rulesR
        rw [if_neg h]
        simp only [h1, h2, h3]
      have eq := nx (k := n) hi h1 h2 h3
      rw [eq] at he ⊢
      have x3 := (kp_rules n _ _).back he
      have x2 : s2.err = 0 := by have := kp_rule s2; rw [h3] at this; exact this.back x3
      have x1 : s1.err = 0 := by have := kp_most (s1.met : Int) 64 s1; rw [h2] at this; exact this.back x2
      have pm := pm_met h hm
      obtain ⟨a1, a2⟩ := ex_most (x := x) (e' := e') pm (n := (l.length : Int) + 1) (l := 16) (by rw [h1]; exact x1)
      have e1 : s1 = metR s := by rw [← h1]; exact a1
      subst e1
      obtain ⟨b1, b2⟩ := ex_most (x := x) (e' := e') pm (n := ((metR s).met : Int)) (l := 64) (by rw [h2]; exact x2)
      have e2 : s2 = metR s := by rw [← h2]; exact b1
      subst e2
      obtain ⟨p3, q3⟩ := ex_rule (e' := e') hx pm (by rw [h3]; exact x3)
      obtain ⟨r1, r2, r3, r4, r5, r6⟩ := round_rule h.1 hm hi ((l.length : Int) + 1)
      rw [h1, h2, h3] at r4 r5 r6
      rw [h3] at p3 q3
      have r5 : s3.rest.length < s.rest.length := r5
      have r6 : s3.met = s.met + 1 := r6
      have hs2 : seesR [w_permit, w_deny] (ext x e' s) ≠ 0 := by rw [hs]; exact hi
      have em : metR (ext x e' s) = ext x e' (metR s) := rfl
      rw [nx (k := n') hs2 (s1 := ext x e' (metR s)) (s2 := ext x e' (metR s)) (by rw [em]; exact a2) b2 q3]
      exact ex_rules hx n n' _ _ p3 (by omega) (by omega) (by omega) he
end
end Go.Proofs.Ythppdgiobflfpaa
