/- ParseCut, plainly: a policy with more behind it is none. -/
import Derived.Test.YthppdgiobflfpaaParMore
import Derived.Test.YthppdgiobflfpaaNineA
namespace Go.Proofs.Ythppdgiobflfpaa
set_option linter.unusedVariables false

section
variable {L : Nat} {x e' : Tk} {s : Pz}
theorem ex_kids (hx : Xw x) {po : Pz → Pol × Pz} (hpk : ∀ s, Kp s (po s).2) (hpg : PoGo L po) (hpo : ∀ s, Pm L s → s.met + s.rest.length ≤ 5990 → (po s).2.err = 0 → Pm L (po s).2 ∧ po (ext x e' s) = ((po s).1, ext x e' (po s).2)) :
    ∀ (n n' : Nat) (l : List Pol) (s : Pz), Pm L s → s.met + s.rest.length ≤ 5990 → s.rest.length ≤ n → n ≤ n' → (kidsR po n l s).2.err = 0 → (kidsR po n l s).2.hd.k ≠ 7 → Pm L (kidsR po n l s).2 ∧ kidsR po n' l (ext x e' s) = ((kidsR po n l s).1, ext x e' (kidsR po n l s).2)
  | 0, n', l, s, h, hm, hn, hn', he, hk => by have := h.1.pos; omega
  | n + 1, 0, l, s, h, hm, hn, hn', he, hk => by omega
  | n + 1, n' + 1, l, s, h, hm, hn, hn', he, hk => by
    by_cases hi : seesR [w_policy, w_set] s = 0
    · unfold kidsR at he hk ⊢
      rw [if_pos hi] at hk
      have hs := sees_ext (x := x) (e' := e') h (ws := [w_policy, w_set]) (fun e => absurd e hk)
      rw [hs, if_pos hi, if_pos hi]
      exact ⟨h, rfl⟩
    · have hs := sees_ext (x := x) (e' := e') h (ws := [w_policy, w_set]) (fun e => absurd e (sees_k7 hi))
      obtain ⟨s1, h1⟩ : ∃ t, mostR ((l.length : Int) + 1) 16 s = t := ⟨_, rfl⟩
      obtain ⟨u, s3, h3⟩ := pair_eq (po s1)
      have nx : ∀ {k : Nat} {s s1 s3 : Pz} {u : Pol}, seesR [w_policy, w_set] s ≠ 0 → mostR ((l.length : Int) + 1) 16 s = s1 → po s1 = (u, s3) → kidsR po (k + 1) l s = kidsR po k (l ++ [u]) s3 := by
        intro k s s1 s3 u h h1 h3
        conv => lhs; unfold kidsR
        rw [if_neg h]
        simp only [h1, h3]
      have eq := nx (k := n) hi h1 h3
      rw [eq] at he hk ⊢
      have x3 := (kp_kids hpk n _ _).back he
      have x1 : s1.err = 0 := by have := hpk s1; rw [h3] at this; exact this.back x3
      obtain ⟨a1, a2⟩ := ex_most (x := x) (e' := e') h (n := (l.length : Int) + 1) (l := 16) (by rw [h1]; exact x1)
      have e1 : s1 = s := by rw [← h1]; exact a1
      subst e1
      obtain ⟨p3, q3⟩ := hpo s1 h hm (by rw [h3]; exact x3)
      obtain ⟨r4, r5, r6⟩ := round_kid hpg h.1 hm hi ((l.length : Int) + 1)
      rw [h1, h3] at r4 r5 r6
      rw [h3] at p3 q3
      have r5 : s3.rest.length < s1.rest.length := r5
      have r6 : s3.met + s3.rest.length ≤ s1.met + s1.rest.length := r6
      have hs2 : seesR [w_policy, w_set] (ext x e' s1) ≠ 0 := by rw [hs]; exact hi
      rw [nx (k := n') hs2 a2 q3]
      exact ex_kids hx hpk hpg hpo n n' _ _ p3 (by omega) (by omega) (by omega) he hk
theorem ex_in (hx : Xw x) {f a : Nat} (hpg : a = 2 → PoGo L (polR f)) (hpo : ∀ s, Pm L s → s.met + s.rest.length ≤ 5990 → (polR f s).2.err = 0 → Pm L (polR f s).2 ∧ polR f (ext x e' s) = ((polR f s).1, ext x e' (polR f s).2)) (h : Pm L s) (hm : s.met + s.rest.length ≤ 5990)
    (he : (inR f a s).2.2.err = 0) (hk : (inR f a s).2.2.hd.k ≠ 7) : Pm L (inR f a s).2.2 ∧ inR f a (ext x e' s) = ((inR f a s).1, (inR f a s).2.1, ext x e' (inR f a s).2.2) := by
  unfold inR at he hk ⊢
  by_cases ha : a = 2
  · rw [if_pos ha] at he hk
    rw [if_pos ha, if_pos ha]
    obtain ⟨p, q⟩ := ex_kids hx (kp_pol f) (hpg ha) hpo s.rest.length (ext x e' s).rest.length [] s h hm (Nat.le_refl _) (by rw [ext_len h.1]; omega) he hk
    rw [q]
    exact ⟨p, rfl⟩
  · rw [if_neg ha] at he hk
    rw [if_neg ha, if_neg ha]
    obtain ⟨p, q⟩ := ex_rules hx s.rest.length (ext x e' s).rest.length [] s h hm (Nat.le_refl _) (by rw [ext_len h.1]; omega) he
    rw [q]
    exact ⟨p, rfl⟩
theorem ex_pol (hx : Xw x) : ∀ (f : Nat) (s : Pz), Pm L s → s.met + s.rest.length ≤ 5990 → (polR f s).2.err = 0 → Pm L (polR f s).2 ∧ polR f (ext x e' s) = ((polR f s).1, ext x e' (polR f s).2)
  | 0, s, h, hm, he => ⟨h, rfl⟩
  | f + 1, s, h, hm, he => by
    obtain ⟨s0, h0⟩ : ∃ t, mostR (5 - (f : Int)) 4 s = t := ⟨_, rfl⟩
    obtain ⟨a, s1, h1⟩ := pair_eq (mustR [w_policy, w_set] s0)
    obtain ⟨b, s2, h2⟩ := pair_eq (nameR s1)
    obtain ⟨c, s3, h3⟩ := pair_eq (mustR w_algs s2)
    obtain ⟨t, s4, h4⟩ := pair_eq (targetR s3)
    obtain ⟨d, s5, h5⟩ := pair_eq (mustR [m_lb] s4)
    obtain ⟨r, ks, h6⟩ := pair_eq (inR f a s5)
    obtain ⟨k, s6⟩ := ks
    obtain ⟨e, s7, h7⟩ := pair_eq (mustR [m_rb] s6)
    obtain ⟨o, s8, h8⟩ := pair_eq (dutsR s7)
    have eq := polR_eq f s h0 h1 h2 h3 h4 h5 h6 h7 h8
    rw [eq] at he ⊢
    simp only at he ⊢
    have x7 : s7.err = 0 := by have := kp_duts s7; rw [h8] at this; exact this.back he
    have x6 : s6.err = 0 := by have := kp_must [m_rb] s6; rw [h7] at this; exact this.back x7
    have x5 : s5.err = 0 := by have := kp_in (kp_pol f) a s5; rw [h6] at this; exact this.back x6
    have x4 : s4.err = 0 := by have := kp_must [m_lb] s4; rw [h5] at this; exact this.back x5
    have x3 : s3.err = 0 := by have := kp_target s3; rw [h4] at this; exact this.back x4
    have x2 : s2.err = 0 := by have := kp_must w_algs s2; rw [h3] at this; exact this.back x3
    have x1 : s1.err = 0 := by have := kp_name s1; rw [h2] at this; exact this.back x2
    have x0 : s0.err = 0 := by have := kp_must [w_policy, w_set] s0; rw [h1] at this; exact this.back x1
    obtain ⟨a1, a2⟩ := ex_most (x := x) (e' := e') h (n := 5 - (f : Int)) (l := 4) (by rw [h0]; exact x0)
    have e0 : s0 = s := by rw [← h0]; exact a1
    subst e0
    have hf : f ≠ 0 := by
      rintro rfl
      unfold mostR at h0
      rw [if_pos (by omega)] at h0
      unfold failR at h0
      rw [if_pos x0] at h0
      have := congrArg Pz.err h0
      rw [x0] at this
      simp at this
    obtain ⟨f', rfl⟩ : ∃ f', f = f' + 1 := ⟨f - 1, by omega⟩
    have G1 : Go2 L s0 s1 := .of (by have := must_go h.1 [w_policy, w_set]; rwa [h1] at this) (by have := mustR_met [w_policy, w_set] s0; rwa [h1] at this)
    obtain ⟨p1, q1⟩ := ex_must (x := x) (e' := e') h (ws := [w_policy, w_set]) (by rw [h1]; exact x1)
    rw [h1] at p1 q1
    have G2 : Go2 L s1 s2 := .of (by have := name_go p1.1; rwa [h2] at this) (by have := nameR_met s1; rwa [h2] at this)
    obtain ⟨p2, q2⟩ := ex_name (x := x) (e' := e') p1 (by rw [h2]; exact x2)
    rw [h2] at p2 q2
    have G3 : Go2 L s2 s3 := .of (by have := must_go p2.1 w_algs; rwa [h3] at this) (by have := mustR_met w_algs s2; rwa [h3] at this)
    obtain ⟨p3, q3⟩ := ex_must (x := x) (e' := e') p2 (ws := w_algs) (by rw [h3]; exact x3)
    rw [h3] at p3 q3
    have G4 : Go2 L s3 s4 := .of (by have := target_go p3.1; rwa [h4] at this) (by have := targetR_met s3; rwa [h4] at this)
    obtain ⟨p4, q4⟩ := ex_target (x := x) (e' := e') hx p3 (by rw [h4]; exact x4)
    rw [h4] at p4 q4
    have G5 : Go2 L s4 s5 := .of (by have := must_go p4.1 [m_lb]; rwa [h5] at this) (by have := mustR_met [m_lb] s4; rwa [h5] at this)
    obtain ⟨p5, q5⟩ := ex_must (x := x) (e' := e') p4 (ws := [m_lb]) (by rw [h5]; exact x5)
    rw [h5] at p5 q5
    have hk6 : s6.hd.k ≠ 7 := by
      intro hk
      have e1 : seesR [m_rb] s6 = 0 := by unfold seesR; rw [hk]; simp
      unfold mustR at h7
      rw [if_pos e1] at h7
      have : wrongR s6 = s7 := by injection h7
      exact wrong_no x6 (by rw [this]; exact x7)
    have hm5 : s5.met + s5.rest.length ≤ 5990 := by have := G1.2; have := G2.2; have := G3.2; have := G4.2; have := G5.2; omega
    obtain ⟨p6, q6⟩ := ex_in (x := x) (e' := e') hx (f := f' + 1) (a := a) (fun _ => pol_go f') (ex_pol hx (f' + 1)) p5 hm5 (by rw [h6]; exact x6) (by rw [h6]; exact hk6)
    rw [h6] at p6 q6
    obtain ⟨p7, q7⟩ := ex_must (x := x) (e' := e') p6 (ws := [m_rb]) (by rw [h7]; exact x7)
    rw [h7] at p7 q7
    obtain ⟨p8, q8⟩ := ex_duts (x := x) (e' := e') hx p7 (by rw [h8]; exact he)
    rw [h8] at p8 q8
    have h0' : mostR (5 - ((f' + 1 : Nat) : Int)) 4 (ext x e' s0) = ext x e' s0 := a2
    exact ⟨p8, polR_eq (f' + 1) (ext x e' s0) h0' q1 q2 q3 q4 q5 q6 q7 q8⟩
end
theorem lex_k : ∀ (n : Nat) (l : List UInt8) (p : Nat) (ts : List Tk), l.length ≤ n → lexB l p = .ok ts → ∃ us e, ts = us ++ [e] ∧ e.k = 7 ∧ ∀ b ∈ us, b.k ≠ 7
  | n, [], p, ts, _, h => by
    rw [lexB_nil] at h
    cases h
    exact ⟨[], _, rfl, rfl, by simp⟩
  | 0, c :: r, p, ts, hl, h => by simp at hl
  | n + 1, c :: r, p, ts, hl, h => by
    simp only [List.length_cons] at hl
    cases hb : blk c with
    | true =>
      rw [lexB_blank hb] at h
      exact lex_k n r (p + 1) ts (by omega) h
    | false =>
      cases hq : tokB (c :: r) with
      | none => rw [lexB_bad hb hq] at h; cases h
      | some q =>
        obtain ⟨k, m, s, j⟩ := q
        rw [lexB_tok hb hq] at h
        obtain ⟨j1, j2, j3⟩ := tokB_pos hq
        obtain ⟨⟨k1, k2⟩, _⟩ := tokB_in hq
        cases hr : lexB ((c :: r).drop j) (p + j) with
        | error e => rw [hr] at h; cases h
        | ok us =>
          rw [hr] at h
          simp only [cat, Except.ok.injEq] at h
          subst h
          obtain ⟨vs, e, e1, e2, e3⟩ := lex_k n _ _ us (by simp only [List.length_drop, List.length_cons]; omega) hr
          refine ⟨⟨k, (p : Int), m, ⟨s.toArray⟩⟩ :: vs, e, by rw [e1]; rfl, e2, fun b hb => ?_⟩
          rcases List.mem_cons.1 hb with rfl | hb
          · show k ≠ 7; omega
          · exact e3 b hb
/-- More behind a policy. -/
theorem more_read {s t : ByteArray} {p : Pol} {i : Int} {y : List UInt8} {x e' : Tk} (hs : s.size ≤ 800) (h : parseR s = (p, 0, i)) (ht : t.data.toList = s.data.toList ++ 32 :: y) (hy : y.length ≤ 20) (hl : lexB y (s.size + 1) = .ok [x, e']) (hx : Xw x) (hk : x.k ≠ 7) : parseR t = (noPol, 5, x.p) := by
  have es : s.size = s.data.toList.length := rfl
  have et : t.size = t.data.toList.length := rfl
  have hts : t.size ≤ 4096 := by rw [et, ht, List.length_append, List.length_cons]; omega
  obtain ⟨ts, hls, hp, he, _, _⟩ := parseR_fine (by omega) h
  obtain ⟨us, e, e1, e2, e3⟩ := lex_k _ _ 0 ts (Nat.le_refl _) hls
  have hlt : lexB t.data.toList 0 = .ok (us ++ [x, e']) := by
    rw [ht, lexB_join (.inl rfl) hls]
    have : 0 + s.data.toList.length + 1 = s.size + 1 := by omega
    rw [this, hl, e1, List.dropLast_concat]
    rfl
  obtain ⟨ok0, hlen⟩ := start_ok (by omega : s.size ≤ 4096) hls
  have pm : Pm s.size ⟨ts, 0, 0, 0⟩ := ⟨ok0, rfl, us, e, e1, e2, e3⟩
  have e0 := (kp_end (polR 5 ⟨ts, 0, 0, 0⟩).2).back he
  obtain ⟨p5, q5⟩ := ex_pol (x := x) (e' := e') hx 5 ⟨ts, 0, 0, 0⟩ pm (by show 0 + ts.length ≤ 5990; omega) e0
  have eE : ext x e' ⟨ts, 0, 0, 0⟩ = ⟨us ++ [x, e'], 0, 0, 0⟩ := by
    unfold ext
    rw [e1, List.dropLast_concat]
  rw [eE] at q5
  obtain ⟨q, s1, hq⟩ := pair_eq (polR 5 ⟨ts, 0, 0, 0⟩)
  rw [hq] at p5 q5 he
  change (endR s1).err = 0 at he
  have hk1 : s1.hd.k = 7 := by
    apply Decidable.byContradiction
    intro hn
    unfold endR at he
    rw [if_neg hn] at he
    exact wrong_no p5.2.1 he
  have hz : endR (ext x e' s1) = wrongR (ext x e' s1) := by
    unfold endR
    rw [ext_end p5 hk1, if_neg hk]
  have hw : (wrongR (ext x e' s1)).err = 5 ∧ (wrongR (ext x e' s1)).at_ = x.p := by
    unfold wrongR failR
    rw [if_pos (show (ext x e' s1).err = 0 from p5.2.1), ext_end p5 hk1]
    exact ⟨rfl, rfl⟩
  rw [parseR_ok hts hlt q5 hz, if_neg (by rw [hw.1]; omega), hw.1, hw.2]
theorem xw_rb (p : Int) : Xw ⟨6, p, 0, m_rb⟩ := by
  show ∀ ws ∈ takesW, idxW m_rb ws = 0
  decide +kernel
theorem xw_policy (p : Int) : Xw ⟨1, p, 0, w_policy⟩ := by
  show ∀ ws ∈ takesW, idxW w_policy ws = 0
  decide +kernel
theorem lex_rb (p : Nat) : ∃ e', lexB [125] p = .ok [⟨6, (p : Int), 0, m_rb⟩, e'] := by
  have e : lexB [125] 0 = .ok [⟨6, 0, 0, m_rb⟩, ⟨7, 1, 0, ⟨#[]⟩⟩] := by rw [← lexF_eq 5 _ 0 (by decide)]; rfl
  exact ⟨⟨7, 1 + (p : Int), 0, ⟨#[]⟩⟩, by rw [lexB_from, e]; simp [shE, shT]⟩
theorem lex_policy (p : Nat) : ∃ e', lexB [112, 111, 108, 105, 99, 121] p = .ok [⟨1, (p : Int), 0, w_policy⟩, e'] := by
  have e : lexB [112, 111, 108, 105, 99, 121] 0 = .ok [⟨1, 0, 0, w_policy⟩, ⟨7, 6, 0, ⟨#[]⟩⟩] := by rw [← lexF_eq 10 _ 0 (by decide)]; rfl
  exact ⟨⟨7, 6 + (p : Int), 0, ⟨#[]⟩⟩, by rw [lexB_from, e]; simp [shE, shT]⟩
theorem behind_rb {s t : ByteArray} {p : Pol} {i : Int} (hs : s.size ≤ 800) (h : parseR s = (p, 0, i)) (ht : t.data.toList = s.data.toList ++ [32, 125]) : parseR t = (noPol, 5, (s.size : Int) + 1) := by
  obtain ⟨e', he⟩ := lex_rb (s.size + 1)
  have := more_read hs h ht (by simp) he (xw_rb _) (by simp)
  rw [this]
  simp
theorem behind_policy {s t : ByteArray} {p : Pol} {i : Int} (hs : s.size ≤ 800) (h : parseR s = (p, 0, i)) (ht : t.data.toList = s.data.toList ++ [32, 112, 111, 108, 105, 99, 121]) : parseR t = (noPol, 5, (s.size : Int) + 1) := by
  obtain ⟨e', he⟩ := lex_policy (s.size + 1)
  have := more_read hs h ht (by simp) he (xw_policy _) (by simp)
  rw [this]
  simp
end Go.Proofs.Ythppdgiobflfpaa
