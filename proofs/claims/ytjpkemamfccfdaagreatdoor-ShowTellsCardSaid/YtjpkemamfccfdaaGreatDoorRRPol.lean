/- The reference's test of policies: seen.policy, RightPolicy. -/
import Derived.Test.YtjpkemamfccfdaaGreatDoorRRId
import Derived.Test.YtjpkemamfccfdaaGreatDoorRRExpr
import Derived.Test.YtjpkemamfccfdaaGreatDoorPolCountsM
import Derived.Test.YtjpkemamfccfdaaGreatDoorPolRight
namespace Go.Proofs.YtjpkemamfccfdaaGreatDoor
set_option linter.unusedVariables false
open Go.RowKit

theorem Sn.below {w w' : World} {g n c : Nat} {A : Option Addr} {s : Seen} (h : Sn w g A n c s) (hb : Below w.heap.size w w') : Sn w' g A n c s := by
  have hg : w.grownBy w' none := ⟨hb.os, hb.tape, hb.output, hb.size, fun k hk _ => hb.block k hk⟩
  refine ⟨h.1.below hb h.1.lt, World.ownsRow.kept h.2.1 hg ?_, h.2.2⟩
  cases hv : (Value.slice A n c).ownBlock with
  | none => exact .inl rfl
  | some b => exact .inr (by simp)
theorem Sn.more {w : World} {g n c : Nat} {A : Option Addr} {s : Seen} (h : Sn w g A n c s) (m : Nat) : Sn (w.setCell ⟨g, 1, none⟩ (.int .i64 m)) g A n c ⟨s.ids, m⟩ := by
  refine ⟨h.1.put 1 _, ?_, h.2.2⟩
  refine World.ownsRow.kept h.2.1 (row := some g) (Only.refl.setCell (p := ⟨g, 1, none⟩) rfl _ : Only g w _) ?_
  cases hv : (Value.slice A n c).ownBlock with
  | none => exact .inl rfl
  | some b => exact .inr (by intro e; injection e with e; have := (h.lt b hv).1; omega)
theorem SnF.put {g : Nat} {row : Option Nat} {w w' : World} (h : SnF g row w w') (i : Nat) (v : Value) : SnF g row w (w'.setCell ⟨g, i, none⟩ v) := by
  have o : Only g w' (w'.setCell ⟨g, i, none⟩ v) := Only.refl.setCell (p := ⟨g, i, none⟩) rfl v
  exact ⟨o.os.trans h.os, o.tape.trans h.tape, o.output.trans h.output, Nat.le_trans h.size o.size, fun k hk hg hr => (o.heap (Nat.lt_of_lt_of_le hk h.size) hg).trans (h.block k hk hg hr)⟩
theorem fits_ways {p : Pol} {n2 n3 : Nat} (h2 : p.rules.length = n2) (h3 : p.kids.length = n3) :
    (fitsB p = false ∧ (p.alg < 1 ∨ ¬ p.alg < 1 ∧ 6 < p.alg ∨ (¬ p.alg < 1 ∧ ¬ 6 < p.alg) ∧ p.set = true ∧ (0 : Int) < (n2 : Int) ∨ (¬ p.alg < 1 ∧ ¬ 6 < p.alg) ∧ p.set = false ∧ (0 : Int) < (n3 : Int) ∨ (¬ p.alg < 1 ∧ ¬ 6 < p.alg) ∧ p.set = false ∧ ¬ (0 : Int) < (n3 : Int) ∧ (p.alg == 4) = true)) ∨
    (fitsB p = true ∧ (¬ p.alg < 1 ∧ ¬ 6 < p.alg) ∧ (p.set = true ∧ ¬ (0 : Int) < (n2 : Int) ∨ p.set = false ∧ ¬ (0 : Int) < (n3 : Int) ∧ (p.alg == 4) = false)) := by
  have e : fitsB p = (decide (1 ≤ p.alg) && decide (p.alg ≤ 6) && if p.set = true then decide (p.rules.length = 0) else decide (p.kids.length = 0) && decide (p.alg ≠ 4)) := rfl
  rw [e, h2, h3]
  by_cases a : p.alg < 1
  · exact .inl ⟨by rw [decide_eq_false (by omega)]; rfl, .inl a⟩
  by_cases b : 6 < p.alg
  · exact .inl ⟨by rw [decide_eq_false (p := p.alg ≤ 6) (by omega)]; simp, .inr (.inl ⟨a, b⟩)⟩
  rw [decide_eq_true (p := 1 ≤ p.alg) (by omega), decide_eq_true (p := p.alg ≤ 6) (by omega)]
  cases hs : p.set
  · by_cases z : n3 = 0
    · by_cases q : p.alg = 4
      · exact .inl ⟨by simp [q], .inr (.inr (.inr (.inr ⟨⟨a, b⟩, rfl, by omega, by rw [beq_iff_eq]; exact q⟩)))⟩
      · exact .inr ⟨by simp [z, q], ⟨a, b⟩, .inr ⟨rfl, by omega, by rw [beq_eq_false_iff_ne]; exact q⟩⟩
    · exact .inl ⟨by simp [z], .inr (.inr (.inr (.inl ⟨⟨a, b⟩, rfl, by omega⟩)))⟩
  · by_cases z : n2 = 0
    · exact .inr ⟨by simp [z], ⟨a, b⟩, .inl ⟨rfl, by omega⟩⟩
    · exact .inl ⟨by simp [z], .inr (.inr (.inl ⟨⟨a, b⟩, rfl, by omega⟩))⟩

/-- Where the walk is: the names met, what may have changed since. -/
structure Sq (w : World) (g : Nat) (row : Option Nat) (V : World) (A : Option Addr) (n c : Nat) (s : Seen) : Prop where
  sn : Sn V g A n c s
  sf : SnF g row w V
  rn : Rn w row (Value.slice A n c).ownBlock
section
variable {w V V' : World} {g n c n' c' : Nat} {row : Option Nat} {A A' : Option Addr} {s s' : Seen}
theorem Sq.below (h : Sq w g row V A n c s) (hb : Below V.heap.size V V') : Sq w g row V' A n c s := ⟨h.sn.below hb, h.sf.trans h.rn (SnF.of hb), h.rn⟩
theorem Sq.then_ (h : Sq w g row V A n c s) (hsf : SnF g (Value.slice A n c).ownBlock V V') (hrn : Rn V (Value.slice A n c).ownBlock (Value.slice A' n' c').ownBlock) (hsn : Sn V' g A' n' c' s') : Sq w g row V' A' n' c' s' := ⟨hsn, h.sf.trans h.rn hsf, h.rn.trans h.sf.size hrn⟩
theorem Sq.more (h : Sq w g row V A n c s) : Sq w g row (V.setCell ⟨g, 1, none⟩ (.int .i64 ((s.n : Int) + 1))) A n c ⟨s.ids, s.n + 1⟩ := ⟨h.sn.more (s.n + 1), h.sf.put 1 _, h.rn⟩
theorem Ob.off {b : Nat} {t : TypeId} {cs : Array Value} (o : Ob V b t cs) (hb : b ≠ g) (i : Nat) (v : Value) : Ob (V.setCell ⟨g, i, none⟩ v) b t cs := o.keep (Below.heap_setCell _ _ _ _ (by simp; omega))
theorem Sq.fresh (h : Sq w g row V A n c s) : V.heap.size ≠ g ∧ some V.heap.size ≠ (Value.slice A n c).ownBlock := ⟨by have := h.sn.1.lt; omega, fun e => by have := (h.sn.lt _ e.symm).2; omega⟩
end

/-- The reference's walk over a policy, at a depth of which so many are left. -/
def SpOk (d : Nat) : Prop := ∀ {w : World} {g n c : Nat} {A : Option Addr} {s : Seen} {R : Nat → Prop} {D : Nat} {p : Pol} {A1 A2 A3 A4 : Option Addr} {n1 k1 n2 k2 n3 k3 n4 k4 : Nat}, Sn w g A n c s → s.ids.length + idsB d < 300000 → s.n ≤ 64 → (∀ b, R b → b < g) →
    p.id.size ≤ maxLen → InI p.alg → Tg w R A1 n1 k1 p.tg → Rus w R A2 n2 k2 p.rules → Pls w R D A3 n3 k3 p.kids → Dus w R A4 n4 k4 p.ob →
    Calls Tryz.prog 49 #[.pointer (some ⟨g, 0, none⟩), .agg #[.string p.id, .bool p.set, .int .i64 p.alg, .slice A1 n1 k1, .slice A2 n2 k2, .slice A3 n3 k3, .slice A4 n4 k4], .int .i64 (5 - (d : Int))] w
      fun e w' => ∃ A' n' c', e = .returned (.int .i64 (polS d p s).1) ∧ SnF g (Value.slice A n c).ownBlock w w' ∧ Rn w (Value.slice A n c).ownBlock (Value.slice A' n' c').ownBlock ∧ ((polS d p s).1 = 0 → Sn w' g A' n' c' (polS d p s).2)
set_option maxRecDepth 100000 in
theorem sp_zero : SpOk 0 := by
  intro w g n c A s R D p A1 A2 A3 A4 n1 k1 n2 k2 n3 k3 n4 k4 h _ _ _ _ _ _ _ _ _
  go_enter Tryz.func49, Tryz.ntmps49
  go_wp2_with fail
  go_ret
  exact ⟨A, n, c, rfl, SnF.of ((Below.refl _ _).alloc (Nat.le_refl _) _), Rn.refl, fun h => by cases h⟩

set_option maxRecDepth 100000 in
set_option maxHeartbeats 25600000 in
theorem sp_step (d : Nat) (hd4 : d ≤ 3) (ih : SpOk d) : SpOk (d + 1) := by
  intro w g n c A s R D p A1 A2 A3 A4 n1 k1 n2 k2 n3 k3 n4 k4 h hcap hs64 hR hid halg h1 h2 h3 h4
  have hB0 : Below w.heap.size w (w.alloc (.cells #[.string p.id, .bool p.set, .int .i64 p.alg, .slice A1 n1 k1, .slice A2 n2 k2, .slice A3 n3 k3, .slice A4 n4 k4] 28)) := (Below.refl _ _).alloc (Nat.le_refl _) _
  have hglt := h.1.lt
  have hrow := h.lt
  obtain ⟨row, hrw⟩ : ∃ row, row = (Value.slice A n c).ownBlock := ⟨_, rfl⟩
  have hrow' : ∀ b, row = some b → g + 1 ≤ b ∧ b < w.heap.size := fun b hb => hrow b (by rw [← hrw]; exact hb)
  have hpb : w.heap.size ≠ g ∧ some w.heap.size ≠ row := ⟨by omega, fun e => by have := (hrow' _ e.symm).2; omega⟩
  have KW : Hid (∀ V, SnF g row w V → Kept R w V) := fun V hv => hv.kept fun b hb => ⟨by have := hR b hb; omega, fun e => by have := (hrow' b e.symm).1; have := hR b hb; omega⟩
  have hl2 := Rw.len h2
  have hl3 := Rw.len h3
  have hle2 := Rw.le h2
  have hle3 := Rw.le h3
  have hcp2 := Rw.cap h2
  have hcp3 := Rw.cap h3
  unfold maxLen at hcp2 hcp3
  have HL2 := Lib.hid hl2
  have HL3 := Lib.hid hl3
  have H1 := Lib.hid h1
  have H2 := Lib.hid h2
  have H3 := Lib.hid h3
  have H4 := Lib.hid h4
  have OB := Lib.hid (Ob.made w 28 #[.string p.id, .bool p.set, .int .i64 p.alg, .slice A1 n1 k1, .slice A2 n2 k2, .slice A3 n3 k3, .slice A4 n4 k4])
  have PB := Lib.hid hpb
  have F0 := Lib.hid (SnF.of hB0 : SnF g row w _)
  have S0 := Lib.hid (h.below hB0)
  have HRW := Lib.hid hrw
  have hsz := h.2.2
  have CI := Lib.hid (seenid_any (h.below hB0) p.id hid (by omega))
  rw [← hrw] at CI
  have hpol : polS (d + 1) p s = (match idS p.id s with
    | none => (1, s)
    | some s1 => if fitsB p = false then (1, s1) else if orE (tgE p.tg) (obE p.ob) ≠ 0 then (orE (tgE p.tg) (obE p.ob), s1) else if 16 < p.rules.length ∨ 16 < p.kids.length then (6, s1) else if (firstS ruleS p.rules s1).1 ≠ 0 then firstS ruleS p.rules s1 else firstS (polS d) p.kids (firstS ruleS p.rules s1).2) := rfl
  have HPL := Lib.hid hpol
  have hidb : idsB (d + 1) = 17 + 16 * idsB d := rfl
  have HCAP := Lib.hid hcap
  have HS64 := Lib.hid hs64
  have hdd : ¬ (4 : Int) < 5 - ((d + 1 : Nat) : Int) := by omega
  have hde : 5 - ((d : Int) + 1) + 1 = 5 - (d : Int) := by omega
  have hdr : -9223372036854775808 ≤ 5 - (d : Int) ∧ 5 - (d : Int) ≤ 9223372036854775807 := by omega
  have HDE := Lib.hid hde
  have hro : ∀ b, R b → b < g := hR
  have HRO := Lib.hid hro
  clear h hcap hs64 hR hid h1 h2 h3 h4 hB0 hrow hpb hrw hpol hl2 hl3 hde halg
  obtain ⟨W1, hW1⟩ : ∃ W1, W1 = w.alloc (.cells #[.string p.id, .bool p.set, .int .i64 p.alg, .slice A1 n1 k1, .slice A2 n2 k2, .slice A3 n3 k3, .slice A4 n4 k4] 28) := ⟨_, rfl⟩
  have HW1 := Lib.hid hW1
  have hws : w.heap.size < W1.heap.size := by rw [hW1, size_al]; omega
  rw [← hW1] at OB F0 S0 CI
  have Q0 := Lib.hid (show Sq W1 g row W1 A n c s from ⟨S0.out, SnF.refl, .inl HRW.out.symm⟩)
  have K0 : Kept R w W1 := KW.out W1 F0.out
  have KR : Hid (∀ V, SnF g row W1 V → Kept R W1 V) := fun V hv => hv.kept fun b hb => ⟨by have := hro b hb; omega, fun e => by have := (hrow' b e.symm).1; have := hro b hb; omega⟩
  have KS : Hid (∀ {A : Option Addr} {n c : Nat} (V : World), Rn W1 row (Value.slice A n c).ownBlock → ∀ V', SnF g (Value.slice A n c).ownBlock V V' → Kept R V V') := fun V hr V' hv => hv.kept fun b hb => ⟨by have := hro b hb; omega, fun e => by
    have hbg := hro b hb
    rcases hr with e' | ⟨b', e', hb'⟩
    · rw [e'] at e
      have := (hrow' b e.symm).1
      omega
    · rw [e'] at e
      injection e with e
      omega⟩
  have FB : Hid (∀ {A : Option Addr} {n c : Nat}, Rn W1 row (Value.slice A n c).ownBlock → w.heap.size ≠ g ∧ some w.heap.size ≠ (Value.slice A n c).ownBlock) := fun hr => ⟨by omega, fun e => by
    rcases hr with e' | ⟨b', e', hb'⟩
    · rw [e'] at e
      have := (hrow' _ e.symm).2
      omega
    · rw [e'] at e
      injection e with e
      omega⟩
  have TT : Hid (∀ V, Kept R W1 V → Calls Tryz.prog 67 #[.slice A1 n1 k1] V fun e w' => e = .returned (.int .i64 (tgE p.tg)) ∧ Below V.heap.size V w') := fun V hv => rtgt_any V (H1.out.keep (K0.trans hv) (fun _ h _ => h))
  have TO : Hid (∀ V, Kept R W1 V → Calls Tryz.prog 68 #[.slice A4 n4 k4] V fun e w' => e = .returned (.int .i64 (obE p.ob)) ∧ Below V.heap.size V w') := fun V hv => robl_any V (H4.out.keep (K0.trans hv) (fun _ h _ => h))
  have H2 := Lib.hid (H2.out.keep K0 (fun _ h _ => h))
  have H3 := Lib.hid (Pls.keep H3.out K0 (fun _ h _ => h))
  clear hW1 hro hrow' K0 KW hws H1 H4
  obtain ⟨z, hz⟩ : ∃ z, z = polS (d + 1) p s := ⟨_, rfl⟩
  rw [← hz, ← HRW.out]
  rw [← hz] at HPL
  clear hz
  cases hi : idS p.id s with
  | none =>
    rw [hi] at CI HPL
    have HE : Hid (z = (1, s)) := HPL.out
    clear hi HPL
    go_enter Tryz.func49, Tryz.ntmps49
    go_wp2_with (first
        | (go_at_call 66; rw [← HW1.out]; refine CI.out.mono ?_; rintro e w1 ⟨A', n', c', rfl, hsf, hrn, hnn, hsn⟩; have X1 := Lib.hid (hsf.ob OB.out PB.out.1 PB.out.2); have x1 := X1.out.cell 1; have x2 := X1.out.cell 2; have x3 := X1.out.cell 3; have x4 := X1.out.cell 4; have x5 := X1.out.cell 5; have x6 := X1.out.cell 6; have SF := Lib.hid hsf; have RN := Lib.hid hrn; clear hsf hrn hnn hsn))
    all_goals
      go_ret
      exact ⟨_, _, _, ret_int (congrArg Prod.fst HE.out).symm, F0.out.trans Rn.refl SF.out, Rn.refl.trans F0.out.size RN.out, fun h0 => absurd ((congrArg Prod.fst HE.out).symm.trans h0) (by show ¬ ((1 : Int) = 0); decide)⟩
  | some s1 =>
    rw [hi] at CI HPL
    have hE : z = if fitsB p = false then (1, s1) else if orE (tgE p.tg) (obE p.ob) ≠ 0 then (orE (tgE p.tg) (obE p.ob), s1) else if 16 < p.rules.length ∨ 16 < p.kids.length then (6, s1) else if (firstS ruleS p.rules s1).1 ≠ 0 then firstS ruleS p.rules s1 else firstS (polS d) p.kids (firstS ruleS p.rules s1).2 := HPL.out
    have hids1 := idS_ids hi
    have hn1 : s1.n = s.n := by
      have := (idS_sub hi (t := s) ⟨fun _ h => h, Nat.le_refl _⟩).2
      rw [this]
    have HS1 := Lib.hid (show s1.n ≤ 64 ∧ s1.ids.length = s.ids.length + 1 from ⟨by have := HS64.out; omega, hids1⟩)
    clear hi HPL hids1 hn1
    rcases fits_ways HL2.out HL3.out with ⟨hf, hw⟩ | ⟨hf, ⟨q1, q6⟩, hw⟩
    · rw [if_pos hf] at hE
      have HE := Lib.hid hE
      clear hf hE
      generalize p.set = ps at *
      generalize p.alg = pa at *
      go_enter Tryz.func49, Tryz.ntmps49
      rcases hw with o1 | ⟨o1, o2⟩ | ⟨⟨o1, o2⟩, rfl, o3⟩ | ⟨⟨o1, o2⟩, rfl, o3⟩ | ⟨⟨o1, o2⟩, rfl, o3, o4⟩
      all_goals
        go_wp2_with (first
            | (go_at_call 66; rw [← HW1.out]; refine CI.out.mono ?_; rintro e w1 ⟨A', n', c', rfl, hsf, hrn, hnn, hsn⟩; have X1 := Lib.hid (hsf.ob OB.out PB.out.1 PB.out.2); have x1 := X1.out.cell 1; have x2 := X1.out.cell 2; have x3 := X1.out.cell 3; have x4 := X1.out.cell 4; have x5 := X1.out.cell 5; have x6 := X1.out.cell 6; have SF := Lib.hid hsf; have RN := Lib.hid hrn; clear hsf hrn hnn hsn))
        all_goals
          go_ret
          exact ⟨_, _, _, ret_int (congrArg Prod.fst HE.out).symm, F0.out.trans Rn.refl SF.out, Rn.refl.trans F0.out.size RN.out, fun h0 => absurd ((congrArg Prod.fst HE.out).symm.trans h0) (by show ¬ ((1 : Int) = 0); decide)⟩
    · rw [if_neg (by rw [hf]; simp)] at hE
      generalize p.set = ps at *
      generalize p.alg = pa at *
      generalize obE p.ob = a4 at *
      generalize tgE p.tg = a1 at *
      clear hf
      by_cases h1 : a1 = 0
      case neg =>
        have e1 : orE a1 a4 = a1 := if_pos h1
        rw [e1, if_pos h1] at hE
        have HE := Lib.hid hE
        have HN1 := Lib.hid h1
        have hb1 : (a1 != 0) = true := by simpa using h1
        clear e1 h1 hE
        go_enter Tryz.func49, Tryz.ntmps49
        rcases hw with ⟨rfl, o2⟩ | ⟨rfl, o3, o4⟩
        all_goals
          go_wp2_with (first
              | (go_at_call 66; rw [← HW1.out]; refine CI.out.mono ?_; rintro e w1 ⟨A', n', c', rfl, hsf, hrn, hnn, hsn⟩; have X1 := Lib.hid (hsf.ob OB.out PB.out.1 PB.out.2); have x1 := X1.out.cell 1; have x2 := X1.out.cell 2; have x3 := X1.out.cell 3; have x4 := X1.out.cell 4; have x5 := X1.out.cell 5; have x6 := X1.out.cell 6; have Q1 := Lib.hid (show Sq W1 g row w1 A' n' c' s1 from ⟨hsn _ rfl, hsf, hrn⟩); clear hsf hrn hnn hsn)
              | (go_at_call 67; refine (TT.out _ (KR.out _ Q1.out.sf)).mono ?_; rintro e w2 ⟨rfl, hb⟩; have X2 := Lib.hid (X1.out.below hb X1.out.lt); have y4 := X2.out.cell 4; have y5 := X2.out.cell 5; have y6 := X2.out.cell 6; have Q2 := Lib.hid (Q1.out.below hb); clear hb))
          all_goals
            go_ret
            exact ⟨_, _, _, ret_int (congrArg Prod.fst HE.out).symm, F0.out.trans Rn.refl Q2.out.sf, Rn.refl.trans F0.out.size Q2.out.rn, fun h0 => absurd ((congrArg Prod.fst HE.out).symm.trans h0) HN1.out⟩
      subst h1
      by_cases h4 : a4 = 0
      case neg =>
        have e1 : orE 0 a4 = a4 := rfl
        rw [e1, if_pos h4] at hE
        have HE := Lib.hid hE
        have HN1 := Lib.hid h4
        have hb1 : (a4 != 0) = true := by simpa using h4
        clear e1 h4 hE
        go_enter Tryz.func49, Tryz.ntmps49
        rcases hw with ⟨rfl, o2⟩ | ⟨rfl, o3, o4⟩
        all_goals
          go_wp2_with (first
              | (go_at_call 66; rw [← HW1.out]; refine CI.out.mono ?_; rintro e w1 ⟨A', n', c', rfl, hsf, hrn, hnn, hsn⟩; have X1 := Lib.hid (hsf.ob OB.out PB.out.1 PB.out.2); have x1 := X1.out.cell 1; have x2 := X1.out.cell 2; have x3 := X1.out.cell 3; have x4 := X1.out.cell 4; have x5 := X1.out.cell 5; have x6 := X1.out.cell 6; have Q1 := Lib.hid (show Sq W1 g row w1 A' n' c' s1 from ⟨hsn _ rfl, hsf, hrn⟩); clear hsf hrn hnn hsn)
              | (go_at_call 67; refine (TT.out _ (KR.out _ Q1.out.sf)).mono ?_; rintro e w2 ⟨rfl, hb⟩; have X2 := Lib.hid (X1.out.below hb X1.out.lt); have y4 := X2.out.cell 4; have y5 := X2.out.cell 5; have y6 := X2.out.cell 6; have Q2 := Lib.hid (Q1.out.below hb); clear hb)
              | (go_at_call 68; refine (TO.out _ (KR.out _ Q2.out.sf)).mono ?_; rintro e w3 ⟨rfl, hb⟩; have X3 := Lib.hid (X2.out.below hb X2.out.lt); have z4 := X3.out.cell 4; have z5 := X3.out.cell 5; have Q3 := Lib.hid (Q2.out.below hb); clear hb))
          all_goals
            go_ret
            exact ⟨_, _, _, ret_int (congrArg Prod.fst HE.out).symm, F0.out.trans Rn.refl Q3.out.sf, Rn.refl.trans F0.out.size Q3.out.rn, fun h0 => absurd ((congrArg Prod.fst HE.out).symm.trans h0) HN1.out⟩
      subst h4
      rw [if_neg (by decide), HL2.out, HL3.out] at hE
      by_cases hn : 16 < n2 ∨ 16 < n3
      · rw [if_pos hn] at hE
        have HE := Lib.hid hE
        clear hE
        have hn' : (16 : Int) < (n2 : Int) ∨ ¬ (16 : Int) < (n2 : Int) ∧ (16 : Int) < (n3 : Int) := by omega
        clear hn
        go_enter Tryz.func49, Tryz.ntmps49
        rcases hw with ⟨rfl, o2⟩ | ⟨rfl, o3, o4⟩
        all_goals
          rcases hn' with m2 | ⟨m2, m3⟩
          all_goals
            go_wp2_with (first
                | (go_at_call 66; rw [← HW1.out]; refine CI.out.mono ?_; rintro e w1 ⟨A', n', c', rfl, hsf, hrn, hnn, hsn⟩; have X1 := Lib.hid (hsf.ob OB.out PB.out.1 PB.out.2); have x1 := X1.out.cell 1; have x2 := X1.out.cell 2; have x3 := X1.out.cell 3; have x4 := X1.out.cell 4; have x5 := X1.out.cell 5; have x6 := X1.out.cell 6; have Q1 := Lib.hid (show Sq W1 g row w1 A' n' c' s1 from ⟨hsn _ rfl, hsf, hrn⟩); clear hsf hrn hnn hsn)
                | (go_at_call 67; refine (TT.out _ (KR.out _ Q1.out.sf)).mono ?_; rintro e w2 ⟨rfl, hb⟩; have X2 := Lib.hid (X1.out.below hb X1.out.lt); have y4 := X2.out.cell 4; have y5 := X2.out.cell 5; have y6 := X2.out.cell 6; have Q2 := Lib.hid (Q1.out.below hb); clear hb)
                | (go_at_call 68; refine (TO.out _ (KR.out _ Q2.out.sf)).mono ?_; rintro e w3 ⟨rfl, hb⟩; have X3 := Lib.hid (X2.out.below hb X2.out.lt); have z4 := X3.out.cell 4; have z5 := X3.out.cell 5; have Q3 := Lib.hid (Q2.out.below hb); clear hb))
            all_goals
              go_ret
              exact ⟨_, _, _, ret_int (congrArg Prod.fst HE.out).symm, F0.out.trans Rn.refl Q3.out.sf, Rn.refl.trans F0.out.size Q3.out.rn, fun h0 => absurd ((congrArg Prod.fst HE.out).symm.trans h0) (by show ¬ ((6 : Int) = 0); decide)⟩
      rw [if_neg hn] at hE
      have m2 : ¬ (16 : Int) < (n2 : Int) := by omega
      have m3 : ¬ (16 : Int) < (n3 : Int) := by omega
      have HB16 : Hid (n2 ≤ 16 ∧ n3 ≤ 16) := ⟨by omega, by omega⟩
      have HEB : Hid (∀ y, firstS ruleS p.rules s1 = y → y.1 ≠ 0 → z = y) := by
        intro y h h0
        rw [h] at hE
        rw [hE, if_pos h0]
      have HEG : Hid (∀ t, firstS ruleS p.rules s1 = (0, t) → z = firstS (polS d) p.kids t) := by
        intro t h
        rw [h] at hE
        rw [hE, if_neg (by simp)]
      clear hn hE
      go_enter Tryz.func49, Tryz.ntmps49
      rcases hw with ⟨rfl, o2⟩ | ⟨rfl, o3, o4⟩
      all_goals
        go_wp2_with (first
            | (go_at_call 66; rw [← HW1.out]; refine CI.out.mono ?_; rintro e w1 ⟨A', n', c', rfl, hsf, hrn, hnn, hsn⟩; have X1 := Lib.hid (hsf.ob OB.out PB.out.1 PB.out.2); have x1 := X1.out.cell 1; have x2 := X1.out.cell 2; have x3 := X1.out.cell 3; have x4 := X1.out.cell 4; have x5 := X1.out.cell 5; have x6 := X1.out.cell 6; have Q1 := Lib.hid (show Sq W1 g row w1 A' n' c' s1 from ⟨hsn _ rfl, hsf, hrn⟩); clear hsf hrn hnn hsn)
            | (go_at_call 67; refine (TT.out _ (KR.out _ Q1.out.sf)).mono ?_; rintro e w2 ⟨rfl, hb⟩; have X2 := Lib.hid (X1.out.below hb X1.out.lt); have y4 := X2.out.cell 4; have y5 := X2.out.cell 5; have y6 := X2.out.cell 6; have Q2 := Lib.hid (Q1.out.below hb); clear hb)
            | (go_at_call 68; refine (TO.out _ (KR.out _ Q2.out.sf)).mono ?_; rintro e w3 ⟨rfl, hb⟩; have X3 := Lib.hid (X2.out.below hb X2.out.lt); have z4 := X3.out.cell 4; have z5 := X3.out.cell 5; have Q3 := Lib.hid (Q2.out.below hb); clear hb))
        clear x1 x2 x3 x4 x5 x6 y4 y5 y6 z4 z5
        go_loopw [85] (fun i wr => ∃ (k : Nat) (s' : Seen) (A' : Option Addr) (n' c' : Nat), k ≤ n2 ∧ i = .int .i64 k ∧ StTo ruleS p.rules s1 k s' ∧ s'.n ≤ 64 ∧ s'.ids.length ≤ s1.ids.length + k ∧ Sq W1 g row wr A' n' c' s' ∧ ∃ bs : Bool, Ob wr w.heap.size 28 #[.string p.id, .bool bs, .int .i64 pa, .slice A1 n1 k1, .slice A2 n2 k2, .slice A3 n3 k3, .slice A4 n4 k4]) (fun i _ => n2 - (intOf i).toNat)
        case atStart => exact ⟨0, s1, _, _, _, Nat.zero_le _, rfl, StTo.zero _ _ _, HS1.out.1, Nat.le_refl _, Q3.out, _, X3.out⟩
        case round =>
          clear X1 X2 X3 Q1 Q2 Q3
          obtain ⟨k, s', A', n', c', hk, rfl, hf, hs6, hil, hq, bs, hbx⟩ := hrel
          have HF := Lib.hid hf
          have HI := Lib.hid hil
          have Q4 := Lib.hid hq
          have P0 := Lib.hid hbx
          clear hf hil hq hbx
          by_cases hlt : k < n2
          case neg =>
            obtain rfl : k = n2 := by omega
            have HZ := Lib.hid (HEG.out _ (HF.out.all HL2.out))
            have v5 := P0.out.cell 5
            have HLS : Hid (s'.ids.length ≤ s1.ids.length + 16) := by have e1 := HI.out; have e2 := HB16.out.1; show s'.ids.length ≤ _; omega
            clear hlt HF HI
            rcases Nat.eq_zero_or_pos k with hk0 | hk0
            all_goals first | (exfalso; omega) | skip
            all_goals
              try subst hk0
              try rw [show ((0 : Nat) : Int) = 0 from rfl]
              go_wp2_with fail
              go_loopw [128] (fun i wq => ∃ (j : Nat) (t : Seen) (A' : Option Addr) (n' c' : Nat), j ≤ n3 ∧ i = .int .i64 j ∧ StTo (polS d) p.kids s' j t ∧ t.n ≤ 64 ∧ t.ids.length ≤ s'.ids.length + j * idsB d ∧ Sq W1 g row wq A' n' c' t) (fun i _ => n3 - (intOf i).toNat)
              case atStart => exact ⟨0, s', _, _, _, Nat.zero_le _, rfl, StTo.zero _ _ _, hs6, by omega, Q4.out⟩
              case round =>
                obtain ⟨j, t, A'', n'', c'', hj, rfl, hf, ht6, hil, hq⟩ := hrel
                have HF := Lib.hid hf
                have HI := Lib.hid hil
                have QJ := Lib.hid hq
                clear hf hil hq
                by_cases hlt : j < n3
                case neg =>
                  obtain rfl : j = n3 := by omega
                  have HE := Lib.hid (HZ.out.trans (HF.out.all HL3.out))
                  clear hlt
                  go_wp2_with fail
                  go_ret
                  exact ⟨_, _, _, ret_int (congrArg Prod.fst HE.out).symm, F0.out.trans Rn.refl QJ.out.sf, Rn.refl.trans F0.out.size QJ.out.rn, fun _ => by rw [HE.out]; exact QJ.out.sn⟩
                obtain ⟨b, o, x, D', E1, m1, e1, E2, m4, e2, E3, m5, e3, E4, m6, e4, rfl, hRb, hbl, hx, hm, ⟨hid, halg⟩, ⟨c0, c1, c2, c3, c4, c5, c6⟩, g1, g2, g3, g4⟩ := Pls.at_ (Pls.keep H3.out (KR.out _ QJ.out.sf) (fun _ h _ => h)) hlt
                have HX := Lib.hid hx
                have hbel := (Below.refl _ wr).alloc (Nat.le_refl _) (.cells #[.string x.id, .bool x.set, .int .i64 x.alg, .slice E1 m1 e1, .slice E2 m4 e2, .slice E3 m5 e3, .slice E4 m6 e4] 28)
                have hka := Kept.all hbel R
                have QK := Lib.hid (QJ.out.below hbel)
                have hcap : t.ids.length + idsB d < 300000 := by
                  have e1 := HI.out
                  have e2 := HLS.out
                  have e3 := HS1.out.2
                  have e4 := HCAP.out
                  have e5 : (j + 1) * idsB d ≤ n3 * idsB d := Nat.mul_le_mul_right _ hlt
                  have e6 : n3 * idsB d ≤ 16 * idsB d := Nat.mul_le_mul_right _ HB16.out.2
                  rw [Nat.add_mul, Nat.one_mul] at e5
                  omega
                have HIX := Lib.hid (polS_ids d x t)
                have HRel : Hid ((j + 1) * idsB d = j * idsB d + idsB d) := by show (j + 1) * idsB d = _; rw [Nat.add_mul, Nat.one_mul]
                have hck := ih QK.out.sn hcap ht6 HRO.out hid halg (g1.keep hka (fun _ h _ => h)) (g2.keep hka (fun _ h _ => h)) (g3.keep hka (fun _ h _ => h)) (g4.keep hka (fun _ h _ => h))
                obtain ⟨y, hy⟩ : ∃ y, y = polS d x t := ⟨_, rfl⟩
                rw [← hy] at hck HIX
                have CK := Lib.hid hck
                have HY := Lib.hid hy
                clear hx hm hid halg g1 g2 g3 g4 hbel hka hcap hck hRb hbl
                by_cases h0 : y.1 = 0
                · have HY0 := Lib.hid h0
                  have hst := HF.out.step HX.out (by rw [← hy]; exact h0)
                  rw [← hy] at hst
                  have HSN := Lib.hid hst
                  have HT6 : Hid (y.2.n ≤ 64) := pol_n (d := d) (p := x) (s := t) (by rw [← hy, ← h0]) ht6
                  rw [h0] at CK
                  clear hy hst h0
                  go_wp2_with (first
                      | (go_at_call 49; rw [HDE.out]; refine CK.out.mono ?_; rintro e v1 ⟨A4', n4', c4', rfl, hsf, hrn, hsn⟩; have QN := Lib.hid (QK.out.then_ hsf hrn (hsn rfl)); clear hsf hrn hsn))
                  all_goals (
                    go_roundw
                    case rel =>
                      exact ⟨j + 1, y.2, _, _, _, by omega, by go_num, HSN.out, HT6.out, by have := HI.out; have := HIX.out; have := HRel.out; omega, QN.out⟩
                    case measure => simp [intOf]; omega)
                · have hE : z = y := HZ.out.trans ((HF.out.err HX.out (by rw [← hy]; exact h0)).trans hy.symm)
                  have HE := Lib.hid hE
                  have HN1 := Lib.hid h0
                  have hb1 : (y.1 != 0) = true := by simpa using h0
                  clear hy hE h0
                  go_wp2_with (first
                      | (go_at_call 49; rw [HDE.out]; refine CK.out.mono ?_; rintro e v1 ⟨A4', n4', c4', rfl, hsf, hrn, hsn⟩; have SF := Lib.hid (QK.out.sf.trans QK.out.rn hsf); have RN := Lib.hid (QK.out.rn.trans QK.out.sf.size hrn); clear hsf hrn hsn))
                  all_goals
                    go_ret
                    exact ⟨_, _, _, ret_int (congrArg Prod.fst HE.out).symm, F0.out.trans Rn.refl SF.out, Rn.refl.trans F0.out.size RN.out, fun h0 => absurd ((congrArg Prod.fst HE.out).symm.trans h0) HN1.out⟩
          obtain ⟨b, o, r, E1, m1, e1, E2, m4, e2, E3, m5, e3, rfl, hRb, hbl, hx, hid, ⟨c0, c1, c2, c3, c4⟩, g1, g2, g3⟩ := (H2.out.keep (KR.out _ Q4.out.sf) (fun _ h _ => h)).at_ hlt
          have HX := Lib.hid hx
          have KQ : ∀ V, SnF g (Value.slice A' n' c').ownBlock wr V → Kept R wr V := KS.out (A := A') (n := n') (c := c') wr Q4.out.rn
          have GT : Hid (∀ V, SnF g (Value.slice A' n' c').ownBlock wr V → Calls Tryz.prog 67 #[.slice E1 m1 e1] V fun e w' => e = .returned (.int .i64 (tgE r.tg)) ∧ Below V.heap.size V w') := fun V hv => rtgt_any V (g1.keep (KQ V hv) (fun _ h _ => h))
          have GE : Hid (∀ V, SnF g (Value.slice A' n' c').ownBlock wr V → Calls Tryz.prog 6 #[.slice E2 m4 e2] V fun e w' => e = .returned (.int .i64 (exprE r.cond)) ∧ Below V.heap.size V w') := fun V hv => rexpr_any V (g2.keep (KQ V hv) (fun _ h _ => h))
          have GO : Hid (∀ V, SnF g (Value.slice A' n' c').ownBlock wr V → Calls Tryz.prog 68 #[.slice E3 m5 e3] V fun e w' => e = .returned (.int .i64 (obE r.ob)) ∧ Below V.heap.size V w') := fun V hv => robl_any V (g3.keep (KQ V hv) (fun _ h _ => h))
          have HAL := Lib.hid (show Below wr.heap.size wr (wr.alloc (.cells #[.string r.id, .bool r.deny, .slice E1 m1 e1, .slice E2 m4 e2, .slice E3 m5 e3] 54)) from (Below.refl _ _).alloc (Nat.le_refl _) _)
          have Q5 := Lib.hid (Q4.out.below HAL.out)
          have PX := Lib.hid (P0.out.below HAL.out P0.out.lt)
          have OX := Lib.hid (Ob.made wr 54 #[.string r.id, .bool r.deny, .slice E1 m1 e1, .slice E2 m4 e2, .slice E3 m5 e3])
          have hfb := FB.out Q4.out.rn
          have hfr := Q4.out.fresh
          have FR := Lib.hid (show w.heap.size ≠ g ∧ some w.heap.size ≠ (Value.slice A' n' c').ownBlock ∧ wr.heap.size ≠ g ∧ some wr.heap.size ≠ (Value.slice A' n' c').ownBlock from ⟨hfb.1, hfb.2, hfr.1, hfr.2⟩)
          have CR := Lib.hid (seenid_any Q5.out.sn r.id hid (by have e1 := Q4.out.sn.2.2; have e2 := HI.out; have e3 := HS1.out.2; have e4 := HCAP.out; have e5 := HB16.out.1; omega))
          have HRE : Hid (∀ y, ruleS r s' = y → y.1 ≠ 0 → z = y) := fun y h h0 => HEB.out y ((HF.out.err HX.out (by rw [h]; exact h0)).trans h) h0
          have hrule : ruleS r s' = (match idS r.id s' with
            | none => (1, s')
            | some t => if 64 < t.n + 1 then (6, ⟨t.ids, t.n + 1⟩) else (orE (tgE r.tg) (orE (exprE r.cond) (obE r.ob)), ⟨t.ids, t.n + 1⟩)) := rfl
          clear hx hRb hbl hid g1 g2 g3 KQ hfb hfr
          cases hj : idS r.id s' with
          | none =>
            rw [hj] at CR hrule
            have hE := HRE.out _ hrule (by show ¬ ((1 : Int) = 0); decide)
            have HE := Lib.hid hE
            clear hj hrule hE
            go_wp2_with (first
                | (go_at_call 66; refine CR.out.mono ?_; rintro e v1 ⟨A'', n'', c'', rfl, hsf, hrn, hnn, hsn⟩; have P1 := Lib.hid (hsf.ob PX.out FR.out.1 FR.out.2.1); have Y1 := Lib.hid (hsf.ob OX.out FR.out.2.2.1 FR.out.2.2.2); have SF := Lib.hid (Q5.out.sf.trans Q5.out.rn hsf); have RN := Lib.hid (Q5.out.rn.trans Q5.out.sf.size hrn); clear hsf hrn hnn hsn))
            all_goals
              go_ret
              exact ⟨_, _, _, ret_int (congrArg Prod.fst HE.out).symm, F0.out.trans Rn.refl SF.out, Rn.refl.trans F0.out.size RN.out, fun h0 => absurd ((congrArg Prod.fst HE.out).symm.trans h0) (by show ¬ ((1 : Int) = 0); decide)⟩
          | some t =>
            rw [hj] at CR hrule
            have hrule : ruleS r s' = if 64 < t.n + 1 then (6, ⟨t.ids, t.n + 1⟩) else (orE (tgE r.tg) (orE (exprE r.cond) (obE r.ob)), ⟨t.ids, t.n + 1⟩) := hrule
            have htl := idS_ids hj
            have htn : t.n = s'.n := by
              have := (idS_sub hj (t := s') ⟨fun _ h => h, Nat.le_refl _⟩).2
              rw [this]
            have htn6 : t.n ≤ 64 := by omega
            clear hj htn
            by_cases h64 : 64 < t.n + 1
            · rw [if_pos h64] at hrule
              have HE := Lib.hid (HRE.out _ hrule (by show ¬ ((6 : Int) = 0); decide))
              have z64 : (64 : Int) < (t.n : Int) + 1 := by omega
              clear hrule h64 htl
              go_wp2_with (first
                  | (go_at_call 66; refine CR.out.mono ?_; rintro e v1 ⟨A'', n'', c'', rfl, hsf, hrn, hnn, hsn⟩; have P1 := Lib.hid (hsf.ob PX.out FR.out.1 FR.out.2.1); have Y1 := Lib.hid (hsf.ob OX.out FR.out.2.2.1 FR.out.2.2.2); have Q6 := Lib.hid (Q5.out.then_ hsf hrn (hsn _ rfl)); have S2 := Lib.hid (((SnF.of HAL.out).trans Rn.refl hsf).put 1 (.int .i64 ((t.n : Int) + 1))); have d1 := Q6.out.sn.1.cell 1; have f1 := Q6.out.sn.1.frozen 1; have P2 := Lib.hid (P1.out.off FR.out.1 1 (.int .i64 ((t.n : Int) + 1))); have Y2 := Lib.hid (Y1.out.off FR.out.2.2.1 1 (.int .i64 ((t.n : Int) + 1))); have Q7 := Lib.hid (Q6.out.more); have u2 := Y2.out.cell 2; have u3 := Y2.out.cell 3; have u4 := Y2.out.cell 4; clear hsf hrn hnn hsn))
              all_goals
                go_ret
                exact ⟨_, _, _, ret_int (congrArg Prod.fst HE.out).symm, F0.out.trans Rn.refl Q7.out.sf, Rn.refl.trans F0.out.size Q7.out.rn, fun h0 => absurd ((congrArg Prod.fst HE.out).symm.trans h0) (by show ¬ ((6 : Int) = 0); decide)⟩
            rw [if_neg h64] at hrule
            have z64 : ¬ (64 : Int) < (t.n : Int) + 1 := by omega
            have HT6 := Lib.hid (show t.n + 1 ≤ 64 ∧ t.ids.length = s'.ids.length + 1 from ⟨by omega, htl⟩)
            clear h64 htl
            generalize tgE r.tg = b1 at *
            generalize exprE r.cond = b2 at *
            generalize obE r.ob = b3 at *
            by_cases h1 : b1 = 0
            case neg =>
              rw [show orE b1 (orE b2 b3) = b1 from if_pos h1] at hrule
              have HE := Lib.hid (HRE.out _ hrule h1)
              have HN1 := Lib.hid h1
              have hb1 : (b1 != 0) = true := by simpa using h1
              clear hrule h1
              go_wp2_with (first
                  | (go_at_call 66; refine CR.out.mono ?_; rintro e v1 ⟨A'', n'', c'', rfl, hsf, hrn, hnn, hsn⟩; have P1 := Lib.hid (hsf.ob PX.out FR.out.1 FR.out.2.1); have Y1 := Lib.hid (hsf.ob OX.out FR.out.2.2.1 FR.out.2.2.2); have Q6 := Lib.hid (Q5.out.then_ hsf hrn (hsn _ rfl)); have S2 := Lib.hid (((SnF.of HAL.out).trans Rn.refl hsf).put 1 (.int .i64 ((t.n : Int) + 1))); have d1 := Q6.out.sn.1.cell 1; have f1 := Q6.out.sn.1.frozen 1; have P2 := Lib.hid (P1.out.off FR.out.1 1 (.int .i64 ((t.n : Int) + 1))); have Y2 := Lib.hid (Y1.out.off FR.out.2.2.1 1 (.int .i64 ((t.n : Int) + 1))); have Q7 := Lib.hid (Q6.out.more); have u2 := Y2.out.cell 2; have u3 := Y2.out.cell 3; have u4 := Y2.out.cell 4; clear hsf hrn hnn hsn)
                  | (go_at_call 67; refine (GT.out _ S2.out).mono ?_; rintro e v2 ⟨rfl, hb⟩; have Y3 := Lib.hid (Y2.out.below hb Y2.out.lt); have P3 := Lib.hid (P2.out.below hb P2.out.lt); have S3 := Lib.hid (S2.out.trans Rn.refl (SnF.of hb)); have i3 := Y3.out.cell 3; have i4 := Y3.out.cell 4; have Q8 := Lib.hid (Q7.out.below hb); clear hb))
              all_goals
                go_ret
                exact ⟨_, _, _, ret_int (congrArg Prod.fst HE.out).symm, F0.out.trans Rn.refl Q8.out.sf, Rn.refl.trans F0.out.size Q8.out.rn, fun h0 => absurd ((congrArg Prod.fst HE.out).symm.trans h0) HN1.out⟩
            subst h1
            by_cases h1 : b2 = 0
            case neg =>
              rw [show orE 0 (orE b2 b3) = b2 from if_pos h1] at hrule
              have HE := Lib.hid (HRE.out _ hrule h1)
              have HN1 := Lib.hid h1
              have hb1 : (b2 != 0) = true := by simpa using h1
              clear hrule h1
              go_wp2_with (first
                  | (go_at_call 66; refine CR.out.mono ?_; rintro e v1 ⟨A'', n'', c'', rfl, hsf, hrn, hnn, hsn⟩; have P1 := Lib.hid (hsf.ob PX.out FR.out.1 FR.out.2.1); have Y1 := Lib.hid (hsf.ob OX.out FR.out.2.2.1 FR.out.2.2.2); have Q6 := Lib.hid (Q5.out.then_ hsf hrn (hsn _ rfl)); have S2 := Lib.hid (((SnF.of HAL.out).trans Rn.refl hsf).put 1 (.int .i64 ((t.n : Int) + 1))); have d1 := Q6.out.sn.1.cell 1; have f1 := Q6.out.sn.1.frozen 1; have P2 := Lib.hid (P1.out.off FR.out.1 1 (.int .i64 ((t.n : Int) + 1))); have Y2 := Lib.hid (Y1.out.off FR.out.2.2.1 1 (.int .i64 ((t.n : Int) + 1))); have Q7 := Lib.hid (Q6.out.more); have u2 := Y2.out.cell 2; have u3 := Y2.out.cell 3; have u4 := Y2.out.cell 4; clear hsf hrn hnn hsn)
                  | (go_at_call 67; refine (GT.out _ S2.out).mono ?_; rintro e v2 ⟨rfl, hb⟩; have Y3 := Lib.hid (Y2.out.below hb Y2.out.lt); have P3 := Lib.hid (P2.out.below hb P2.out.lt); have S3 := Lib.hid (S2.out.trans Rn.refl (SnF.of hb)); have i3 := Y3.out.cell 3; have i4 := Y3.out.cell 4; have Q8 := Lib.hid (Q7.out.below hb); clear hb)
                  | (go_at_call 6; refine (GE.out _ S3.out).mono ?_; rintro e v3 ⟨rfl, hb⟩; have Y4 := Lib.hid (Y3.out.below hb Y3.out.lt); have P4 := Lib.hid (P3.out.below hb P3.out.lt); have S4 := Lib.hid (S3.out.trans Rn.refl (SnF.of hb)); have j4 := Y4.out.cell 4; have Q9 := Lib.hid (Q8.out.below hb); clear hb))
              all_goals
                go_ret
                exact ⟨_, _, _, ret_int (congrArg Prod.fst HE.out).symm, F0.out.trans Rn.refl Q9.out.sf, Rn.refl.trans F0.out.size Q9.out.rn, fun h0 => absurd ((congrArg Prod.fst HE.out).symm.trans h0) HN1.out⟩
            subst h1
            by_cases h1 : b3 = 0
            case neg =>
              rw [show orE 0 (orE 0 b3) = b3 from rfl] at hrule
              have HE := Lib.hid (HRE.out _ hrule h1)
              have HN1 := Lib.hid h1
              have hb1 : (b3 != 0) = true := by simpa using h1
              clear hrule h1
              go_wp2_with (first
                  | (go_at_call 66; refine CR.out.mono ?_; rintro e v1 ⟨A'', n'', c'', rfl, hsf, hrn, hnn, hsn⟩; have P1 := Lib.hid (hsf.ob PX.out FR.out.1 FR.out.2.1); have Y1 := Lib.hid (hsf.ob OX.out FR.out.2.2.1 FR.out.2.2.2); have Q6 := Lib.hid (Q5.out.then_ hsf hrn (hsn _ rfl)); have S2 := Lib.hid (((SnF.of HAL.out).trans Rn.refl hsf).put 1 (.int .i64 ((t.n : Int) + 1))); have d1 := Q6.out.sn.1.cell 1; have f1 := Q6.out.sn.1.frozen 1; have P2 := Lib.hid (P1.out.off FR.out.1 1 (.int .i64 ((t.n : Int) + 1))); have Y2 := Lib.hid (Y1.out.off FR.out.2.2.1 1 (.int .i64 ((t.n : Int) + 1))); have Q7 := Lib.hid (Q6.out.more); have u2 := Y2.out.cell 2; have u3 := Y2.out.cell 3; have u4 := Y2.out.cell 4; clear hsf hrn hnn hsn)
                  | (go_at_call 67; refine (GT.out _ S2.out).mono ?_; rintro e v2 ⟨rfl, hb⟩; have Y3 := Lib.hid (Y2.out.below hb Y2.out.lt); have P3 := Lib.hid (P2.out.below hb P2.out.lt); have S3 := Lib.hid (S2.out.trans Rn.refl (SnF.of hb)); have i3 := Y3.out.cell 3; have i4 := Y3.out.cell 4; have Q8 := Lib.hid (Q7.out.below hb); clear hb)
                  | (go_at_call 6; refine (GE.out _ S3.out).mono ?_; rintro e v3 ⟨rfl, hb⟩; have Y4 := Lib.hid (Y3.out.below hb Y3.out.lt); have P4 := Lib.hid (P3.out.below hb P3.out.lt); have S4 := Lib.hid (S3.out.trans Rn.refl (SnF.of hb)); have j4 := Y4.out.cell 4; have Q9 := Lib.hid (Q8.out.below hb); clear hb)
                  | (go_at_call 68; refine (GO.out _ S4.out).mono ?_; rintro e v4 ⟨rfl, hb⟩; have P5 := Lib.hid (P4.out.below hb P4.out.lt); have QA := Lib.hid (Q9.out.below hb); clear hb))
              all_goals
                go_ret
                exact ⟨_, _, _, ret_int (congrArg Prod.fst HE.out).symm, F0.out.trans Rn.refl QA.out.sf, Rn.refl.trans F0.out.size QA.out.rn, fun h0 => absurd ((congrArg Prod.fst HE.out).symm.trans h0) HN1.out⟩
            subst h1
            have hrule : ruleS r s' = (0, ⟨t.ids, t.n + 1⟩) := hrule
            have hst := HF.out.step HX.out (by rw [hrule])
            rw [hrule] at hst
            have HSN := Lib.hid hst
            clear hrule hst
            go_wp2_with (first
                | (go_at_call 66; refine CR.out.mono ?_; rintro e v1 ⟨A'', n'', c'', rfl, hsf, hrn, hnn, hsn⟩; have P1 := Lib.hid (hsf.ob PX.out FR.out.1 FR.out.2.1); have Y1 := Lib.hid (hsf.ob OX.out FR.out.2.2.1 FR.out.2.2.2); have Q6 := Lib.hid (Q5.out.then_ hsf hrn (hsn _ rfl)); have S2 := Lib.hid (((SnF.of HAL.out).trans Rn.refl hsf).put 1 (.int .i64 ((t.n : Int) + 1))); have d1 := Q6.out.sn.1.cell 1; have f1 := Q6.out.sn.1.frozen 1; have P2 := Lib.hid (P1.out.off FR.out.1 1 (.int .i64 ((t.n : Int) + 1))); have Y2 := Lib.hid (Y1.out.off FR.out.2.2.1 1 (.int .i64 ((t.n : Int) + 1))); have Q7 := Lib.hid (Q6.out.more); have u2 := Y2.out.cell 2; have u3 := Y2.out.cell 3; have u4 := Y2.out.cell 4; clear hsf hrn hnn hsn)
                | (go_at_call 67; refine (GT.out _ S2.out).mono ?_; rintro e v2 ⟨rfl, hb⟩; have Y3 := Lib.hid (Y2.out.below hb Y2.out.lt); have P3 := Lib.hid (P2.out.below hb P2.out.lt); have S3 := Lib.hid (S2.out.trans Rn.refl (SnF.of hb)); have i3 := Y3.out.cell 3; have i4 := Y3.out.cell 4; have Q8 := Lib.hid (Q7.out.below hb); clear hb)
                | (go_at_call 6; refine (GE.out _ S3.out).mono ?_; rintro e v3 ⟨rfl, hb⟩; have Y4 := Lib.hid (Y3.out.below hb Y3.out.lt); have P4 := Lib.hid (P3.out.below hb P3.out.lt); have S4 := Lib.hid (S3.out.trans Rn.refl (SnF.of hb)); have j4 := Y4.out.cell 4; have Q9 := Lib.hid (Q8.out.below hb); clear hb)
                | (go_at_call 68; refine (GO.out _ S4.out).mono ?_; rintro e v4 ⟨rfl, hb⟩; have P5 := Lib.hid (P4.out.below hb P4.out.lt); have QA := Lib.hid (Q9.out.below hb); clear hb))
            all_goals (
              go_roundw
              case rel => exact ⟨k + 1, ⟨t.ids, t.n + 1⟩, _, _, _, by omega, by go_num, HSN.out, HT6.out.1, by have := HI.out; have := HT6.out.2; show t.ids.length ≤ _; omega, QA.out, _, P5.out⟩
              case measure => simp [intOf]; omega)

theorem sp_four : SpOk 4 := sp_step 3 (by omega) (sp_step 2 (by omega) (sp_step 1 (by omega) (sp_step 0 (by omega) sp_zero)))
set_option maxRecDepth 100000 in
set_option maxHeartbeats 1600000 in
theorem rpol_any {w : World} {R : Nat → Prop} {p : Pol} {A1 A2 A3 A4 : Option Addr} {n1 k1 n2 k2 n3 k3 n4 k4 : Nat} (h : PolIn w R p A1 n1 k1 A2 n2 k2 A3 n3 k3 A4 n4 k4) :
    Calls Tryz.prog 26 #[.agg #[.string p.id, .bool p.set, .int .i64 p.alg, .slice A1 n1 k1, .slice A2 n2 k2, .slice A3 n3 k3, .slice A4 n4 k4]] w fun e w' => e = .returned (.int .i64 (rightE p)) ∧ Below w.heap.size w w' := by
  have hb : Below w.heap.size w ((w.alloc (.cells #[.string p.id, .bool p.set, .int .i64 p.alg, .slice A1 n1 k1, .slice A2 n2 k2, .slice A3 n3 k3, .slice A4 n4 k4] 28)).alloc (.cells #[.slice none 0 0, .int .i64 0] 102)) := ((Below.refl _ _).alloc (Nat.le_refl _) _).alloc (by simp) _
  obtain ⟨⟨hid, halg⟩, t, ru, ⟨m, k⟩, o⟩ := h.low
  have hk := Kept.all hb (fun b => b < w.heap.size)
  have ho := Ob.made (w.alloc (.cells #[.string p.id, .bool p.set, .int .i64 p.alg, .slice A1 n1 k1, .slice A2 n2 k2, .slice A3 n3 k3, .slice A4 n4 k4] 28)) 102 #[.slice none 0 0, .int .i64 0]
  rw [size_al] at ho
  have hs : Sn ((w.alloc (.cells #[.string p.id, .bool p.set, .int .i64 p.alg, .slice A1 n1 k1, .slice A2 n2 k2, .slice A3 n3 k3, .slice A4 n4 k4] 28)).alloc (.cells #[.slice none 0 0, .int .i64 0] 102)) (w.heap.size + 1) none 0 0 ⟨[], 0⟩ := ⟨ho, ⟨rfl, .inl ⟨rfl, rfl⟩⟩, rfl⟩
  have hc := sp_four hs (by simp [idsB]) (Nat.zero_le _) (fun b h => Nat.lt_succ_of_lt h) hid halg (t.keep hk (fun _ h _ => h)) (ru.keep hk (fun _ h _ => h)) (k.keep hk (fun _ h _ => h)) (o.keep hk (fun _ h _ => h))
  have e5 : (5 : Int) - ((4 : Nat) : Int) = 1 := rfl
  have er : rightE p = (polS 4 p ⟨[], 0⟩).1 := by unfold rightE; rfl
  rw [e5, ← er] at hc
  generalize rightE p = r at *
  have HB := Lib.hid hb
  have HC := Lib.hid hc
  clear h hb hid halg t ru k o hk hs hc e5 er ho
  go_enter Tryz.func26, Tryz.ntmps26
  go_wp2_with (go_at_call 49; refine HC.out.mono ?_; rintro e w1 ⟨A', n', c', rfl, hsf, _, _⟩; have D1 := Lib.hid (HB.out.trans (hsf.below (Nat.le_succ _) (fun b hb => by cases hb) HB.out.size)); clear hsf)
  go_ret
  exact ⟨rfl, D1.out⟩
end Go.Proofs.YtjpkemamfccfdaaGreatDoor
