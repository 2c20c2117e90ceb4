/- Several texts in one: ParLen, Parse5. -/
import Derived.Test.YtmoglaknmlhpgaaGreatDoorOnlP
import Derived.Test.YtmoglaknmlhpgaaGreatDoorOnlQ
import Derived.Test.YtmoglaknmlhpgaaGreatDoorOnlH
/- The parser, plainly: what is left only shrinks, and what is read is such as Go has. -/
namespace Go.Proofs.YtmoglaknmlhpgaaGreatDoor
set_option linter.unusedVariables false

def Goes (L : Nat) (s s' : Pz) : Prop := s'.ok L ∧ s'.rest.length ≤ s.rest.length
section
variable {L : Nat} {s s1 s2 : Pz}
theorem Goes.refl (h : s.ok L) : Goes L s s := ⟨h, Nat.le_refl _⟩
theorem Goes.trans (h1 : Goes L s s1) (h2 : s1.ok L → Goes L s1 s2) : Goes L s s2 := ⟨(h2 h1.1).1, Nat.le_trans (h2 h1.1).2 h1.2⟩
theorem fail_go (h : s.ok L) {e p : Int} (he : e = 5 ∨ e = 6) (hp : 0 ≤ p ∧ p ≤ (L : Int)) : Goes L s (failR e p s) := ⟨h.fail he hp, by rw [failR_len e p h]; exact h.pos⟩
theorem wrong_go (h : s.ok L) : Goes L s (wrongR s) := fail_go h (.inl rfl) h.hd_ok.2.1
theorem most_go (h : s.ok L) (n l : Int) : Goes L s (mostR n l s) := ⟨h.most n l, mostR_len h n l⟩
theorem take_go (h : s.ok L) (ws : List ByteArray) : Goes L s (takeR ws s).2 := ⟨h.take ws, by have := takeR_len h ws; omega⟩
theorem must_go (h : s.ok L) (ws : List ByteArray) : Goes L s (mustR ws s).2 := ⟨h.must ws, (mustR_len h ws).1⟩
theorem name_go (h : s.ok L) : Goes L s (nameR s).2 := ⟨h.name, nameR_len h⟩
theorem next_go (h : s.ok L) (hk : s.hd.k ≠ 7) : Goes L s (nextR s) := ⟨h.next hk, by rw [nextR_len]; omega⟩
theorem attr_go (h : s.ok L) (cat : Int) : Goes L s (attrR cat s).2 := by
 have h1 : Goes L s (if cat = 0 then wrongR s else s) := by
  split
  ·exact wrong_go h
  ·exact .refl h
 exact ((h1.trans fun h => must_go h _).trans fun h => name_go h).trans fun h => take_go h _
theorem value_go (h : s.ok L) : Goes L s (valueR s).2 := by
 unfold valueR
 split
 ·exact must_go h _
 ·rename_i hk
  exact next_go h (by intro e; rw [e] at hk; exact hk rfl)
theorem match_go (h : s.ok L) : Goes L s (matchR s).2 :=
 (((take_go h _).trans fun h => attr_go h _).trans fun h => must_go h _).trans fun h => value_go h
theorem leaf_go (h : s.ok L) : Goes L s (leafR s).2 := by
 unfold leafR
 split
 ·exact (take_go h _).trans fun h => attr_go h _
 ·exact (take_go h _).trans fun h => value_go h
theorem row_go {α : Type} {one : Pz → α × Pz} {btw : ByteArray} (ho : ∀ s, s.ok L → Goes L s (one s).2) : ∀ (n : Nat) (l : List α) (s : Pz), s.ok L → Goes L s (rowR one btw n l s).2
 | 0, l, s, h => .refl h
 | n + 1, l, s, h => by
  have h1 := ((ho s h).trans fun h => most_go h ((l ++ [(one s).1]).length : Int) 8).trans fun h => take_go h [btw]
  unfold rowR
  simp only
  split
  ·exact h1
  ·exact h1.trans fun h => row_go ho n _ _ h
theorem allOf_go (h : s.ok L) : Goes L s (allOfR s).2 := row_go (fun s h => match_go h) _ _ _ h
theorem anyOf_go (h : s.ok L) : Goes L s (anyOfR s).2 :=
 ((must_go h [m_lp]).trans fun h => row_go (fun s h => allOf_go h) _ _ _ h).trans fun h => must_go h _
theorem target_go (h : s.ok L) : Goes L s (targetR s).2 := by
 unfold targetR
 split
 ·exact take_go h _
 ·exact (take_go h _).trans fun h => row_go (fun s h => anyOf_go h) _ _ _ h
theorem duties_go : ∀ (n : Nat) (l : List Dut) (s : Pz), s.ok L → Goes L s (dutiesR n l s).2
 | 0, l, s, h => .refl h
 | n + 1, l, s, h => by
  unfold dutiesR
  split
  ·exact take_go h _
  ·exact (((((take_go h _).trans fun h => must_go h _).trans fun h => must_go h _).trans fun h => name_go h).trans fun h => most_go h _ _).trans fun h => duties_go n _ _ h
theorem duts_go (h : s.ok L) : Goes L s (dutsR s).2 := duties_go _ _ _ h
theorem nod_go (h : s.ok L) (bag : Bool) {p : Int} (hp : 0 ≤ p ∧ p ≤ (L : Int)) (l : List Nod) (n : Nod) : Goes L s (nodR bag p l n s).2 := by
 unfold nodR
 simp only
 split
 ·exact (most_go h _ _).trans fun h => fail_go h (.inl rfl) hp
 ·exact most_go h _ _
theorem expr_go : ∀ (n : Nat) (l : List Nod) (bag : Bool) (s : Pz), s.ok L → s.rest.length ≤ n → Goes L s (exprR n l bag s).2 ∧ (exprR n l bag s).1.length + 2 * (exprR n l bag s).2.rest.length ≤ l.length + 2 * s.rest.length + 1
 | 0, l, bag, s, h, hn => by have := h.pos; omega
 | n + 1, l, bag, s, h, hn => by
  have ht := take_go h [m_lp]
  have hp := h.hd_ok.2.1
  unfold exprR
  split
  ·rename_i h0
   have hl := takeR_len h [m_lp]
   rw [if_neg (by omega)] at hl
   simp only [callR]
   generalize (takeR [m_lp] s).2 = s1 at *
   have hm := must_go ht.1 [w_one, w_size, w_has, w_eq, w_less, w_add, w_sub, w_mul, w_not, w_and, w_or]
   generalize mustR [w_one, w_size, w_has, w_eq, w_less, w_add, w_sub, w_mul, w_not, w_and, w_or] s1 = m at *
   obtain ⟨i, s2⟩ := m
   simp only at hm ⊢
   obtain ⟨he, hel⟩ := expr_go n l (isBag (2 + (i : Int))) s2 hm.1 (by have := hm.2; omega)
   generalize exprR n l (isBag (2 + (i : Int))) s2 = e at *
   obtain ⟨l3, s3⟩ := e
   simp only at he hel ⊢
   have key : ∀ f : List Nod × Pz, f = (if isTwo (2 + (i : Int)) = true then exprR n l3 false s3 else (l3, s3)) → Goes L s3 f.2 ∧ f.1.length + 2 * f.2.rest.length ≤ l3.length + 2 * s3.rest.length + 1 := by
    intro f hf
    split at hf
    ·subst hf
     exact expr_go n l3 false s3 he.1 (by have := hm.2; have := he.2; omega)
    ·subst hf
     exact ⟨.refl he.1, by simp only; omega⟩
   obtain ⟨hf, hfl⟩ := key _ rfl
   generalize (if isTwo (2 + (i : Int)) = true then exprR n l3 false s3 else (l3, s3)) = f at *
   obtain ⟨l4, s4⟩ := f
   simp only at hf hfl ⊢
   have hr := must_go hf.1 [m_rp]
   have hN := nod_go hr.1 bag hp l4 ⟨2 + (i : Int), zeroV, zeroA⟩
   refine ⟨⟨hN.1, ?_⟩, ?_⟩
   ·have := hN.2; have := hr.2; have := hf.2; have := he.2; have := hm.2; have := ht.2; omega
   ·have e1 : (nodR bag s.hd.p l4 ⟨2 + (i : Int), zeroV, zeroA⟩ (mustR [m_rp] s4).2).1.length = l4.length + 1 := by simp [nodR]
    have := hN.2; have := hr.2; have := hf.2; have := he.2; have := hm.2
    omega
  ·have hlf := leaf_go ht.1
   have hN := nod_go hlf.1 bag hp l (leafR (takeR [m_lp] s).2).1
   have hl := takeR_len h [m_lp]
   refine ⟨⟨hN.1, ?_⟩, ?_⟩
   ·have := hN.2; have := hlf.2; have := ht.2; omega
   ·have e1 : (nodR bag s.hd.p l (leafR (takeR [m_lp] s).2).1 (leafR (takeR [m_lp] s).2).2).1.length = l.length + 1 := by simp [nodR]
    have := hN.2; have := hlf.2
    omega
theorem cond_go (h : s.ok L) : Goes L s (condR s).2 := by
 unfold condR
 split
 ·exact take_go h _
 ·exact (take_go h _).trans fun h => (expr_go _ [] false _ h (Nat.le_refl _)).1
theorem rule_go (h : s.ok L) : Goes L s (ruleR s).2 := by
 have h1 := must_go h [w_permit, w_deny]
 have h2 := h1.trans fun h => name_go h
 have h3 := h2.trans fun h => target_go h
 have h4 := h3.trans fun h => cond_go h
 have h5 := h4.trans fun h => duts_go h
 have h6 := h5.trans fun h => must_go h [m_semi]
 unfold ruleR
 simp only
 exact h6

/-! ### What is read is such as Go has -/
theorem zeroV_ok : zeroV.ok := by decide
theorem zeroA_ok : zeroA.ok := by decide
theorem attr_ok (h : s.ok L) {cat : Int} (hc : InI cat) : (attrR cat s).1.ok := by
 have h1 : Goes L s (if cat = 0 then wrongR s else s) := by
  split
  ·exact wrong_go h
  ·exact .refl h
 exact ⟨hc, nameR_size (h1.trans fun h => must_go h [m_dot]).1⟩
theorem in_small {n : Int} (h1 : -100 ≤ n) (h2 : n ≤ 100) : InI n := by unfold InI; omega
theorem kindR_in (k : Int) : InI (kindR k) := by
 unfold kindR
 repeat' split
 all_goals exact in_small (by omega) (by omega)
theorem value_ok (h : s.ok L) : (valueR s).1.ok := by
 unfold valueR
 split
 ·have := mustR_le [w_false, w_true] s
  have : (mustR [w_false, w_true] s).1 ≤ 2 := this
  exact ⟨in_small (by show -100 ≤ (1 : Int); omega) (by show (1 : Int) ≤ 100; omega), in_small (by show -100 ≤ ((mustR [w_false, w_true] s).1 : Int) - 1; omega) (by show ((mustR [w_false, w_true] s).1 : Int) - 1 ≤ 100; omega), Nat.zero_le _⟩
 ·exact ⟨kindR_in _, h.hd_ok.2.2.1, h.hd_ok.2.2.2⟩
theorem cat_in (s : Pz) : InI ((catR s).1 : Int) := by
 have : (catR s).1 ≤ 4 := takeR_le _ _
 exact in_small (by omega) (by omega)
theorem match_ok (h : s.ok L) : (matchR s).1.ok := by
 have h1 : (catR s).2.ok L := h.take _
 have h2 := attr_go h1 ((catR s).1 : Int)
 have h3 : (mustR [m_eqm, m_lt, m_gt] (attrR ((catR s).1 : Int) (catR s).2).2).1 ≤ 3 := mustR_le _ _
 exact ⟨attr_ok h1 (cat_in s), in_small (by show -100 ≤ ((mustR [m_eqm, m_lt, m_gt] (attrR ((catR s).1 : Int) (catR s).2).2).1 : Int); omega) (by show ((mustR [m_eqm, m_lt, m_gt] (attrR ((catR s).1 : Int) (catR s).2).2).1 : Int) ≤ 100; omega), value_ok (h2.trans fun h => must_go h _).1⟩
theorem leaf_ok (h : s.ok L) : (leafR s).1.ok := by
 have h1 : (catR s).2.ok L := h.take _
 unfold leafR
 split
 ·exact ⟨in_small (by show -100 ≤ (2 : Int); omega) (by show (2 : Int) ≤ 100; omega), zeroV_ok, attr_ok h1 (cat_in s)⟩
 ·exact ⟨in_small (by show -100 ≤ (1 : Int); omega) (by show (1 : Int) ≤ 100; omega), value_ok h1, zeroA_ok⟩
end
end Go.Proofs.YtmoglaknmlhpgaaGreatDoor
/- The parser: rows of matches, AllOfs, AnyOfs. -/
namespace Go.Proofs.YtmoglaknmlhpgaaGreatDoor
set_option linter.unusedVariables false
open Go.RowKit

def restN (w : World) (g : Nat) : Nat := match w.cell? ⟨g, 0, none⟩ with | some (.slice _ n _) => n | _ => 0
theorem Rd.restN {L g : Nat} {w : World} {s : Pz} (h : Rd L w g s) : restN w g = s.rest.length := by
 obtain ⟨b, o, n, c, hob, hok, ⟨hn, _⟩, _⟩ := h.at_
 have := hob.cell 0
 unfold Go.Proofs.YtmoglaknmlhpgaaGreatDoor.restN
 rw [this]
 exact hn.symm
def MaP (w : World) (R : Nat → Prop) (vs : List Value) (m : Mat) : Prop := vs = m.cells ∧ m.ok
theorem keeps_map : Keeps MaP := fun _ _ _ _ _ _ h _ _ => h
theorem push_mat {w : World} {base n c : Nat} {A : Option Addr} {l : List Mat} {x : Mat} (h : Gr 7 MaP w base 116 A n c l) (hx : x.ok) (hn : n < 1000000) :
  ∃ A' c' w', (Builtin.append_ #[114, 114] 114 #[.slice A n c, .slice (some ⟨w.heap.size, 0, none⟩) 1 1]).run Tryz.prog (w.alloc (.cells #[.int .i64 x.a.cat, .string x.a.name, .bool x.a.must, .int .i64 x.op, .int .i64 x.v.k, .int .i64 x.v.n, .string x.v.s] 116)) = .ok (.slice A' (n + 1) c') w' ∧ Gr 7 MaP w' base 116 A' (n + 1) c' (l ++ [x]) ∧ Below base w w' := by
 obtain ⟨i, hi, hz, hs, hb⟩ := info_of matinfo
 exact Gr.push (vs := x.cells) (x := x) Tryz.underlying114 hi hz hs hb rfl (by omega) (by omega) keeps_map h ⟨rfl, hx⟩ rfl (fun _ _ _ _ h => by
  obtain ⟨rfl, _⟩ := h
  intro v hv
  simp [Mat.cells] at hv
  rcases hv with rfl | rfl | rfl | rfl | rfl | rfl | rfl <;> rfl) hn
theorem push_any3 {w : World} {base n c : Nat} {A : Option Addr} {l : Tgt} {A1 : Option Addr} {n1 c1 : Nat} {x : List (List Mat)} (h : Gr 1 AnP w base 113 A n c l) (hx : Als w (Nb base (.slice A n c)) A1 n1 c1 x) (hn : n < 1000000) :
  ∃ A' c' w', (Builtin.append_ #[22, 22] 22 #[.slice A n c, .slice (some ⟨w.heap.size, 0, none⟩) 1 1]).run Tryz.prog (w.alloc (.cells #[.slice A1 n1 c1] 113)) = .ok (.slice A' (n + 1) c') w' ∧ Gr 1 AnP w' base 113 A' (n + 1) c' (l ++ [x]) ∧ Below base w w' := by
 obtain ⟨i, hi, hz, hs, hb⟩ := info_of s1info
 exact Gr.push (vs := [.slice A1 n1 c1]) (x := x) Tryz.underlying22 hi hz hs hb rfl (by omega) (by omega) keeps_anp h ⟨A1, n1, c1, rfl, hx⟩ rfl (fun _ _ _ _ => AnP.one _ _) hn
theorem Gr.at_only {α : Type} {k : Nat} {P : World → (Nat → Prop) → List Value → α → Prop} {w w' : World} {base g : Nat} {E : TypeId} {A : Option Addr} {n c : Nat} {l : List α} (hP : Keeps P) (h : Gr k P w base E A n c l) (o : Only g w w') (hg : g < base) : Gr k P w' base E A n c l :=
 ⟨(h.1.mapP (fun vs x _ hp => hP _ _ _ _ vs x hp (⟨o.size, fun b hb hlt => o.heap hlt (by have := hb.1; omega)⟩) (fun _ h _ => h))).grown (row := some g) o (.inr (fun e => by have := (h.1.lt g e).1; omega)), Nat.le_trans h.2 o.size⟩
theorem Only.below_at {g : Nat} {w a b : World} (h : Only g w a) (k : Below w.heap.size a b) : Only g w b :=
 ⟨k.os.trans h.os, k.tape.trans h.tape, k.output.trans h.output, Nat.le_trans h.size k.size, fun i hi hn => (k.block i hi).trans (h.block i hi hn)⟩
theorem Rd.below {L g B : Nat} {w w' : World} {s : Pz} (h : Rd L w g s) (hb : Below B w w') (hg : g < B) : Rd L w' g s := h.keep fun k hk => hb.block k (by omega)
theorem rowR_succ {α : Type} {one : Pz → α × Pz} {btw : ByteArray} {n : Nat} {l : List α} {s s1 s3 : Pz} {x : α} {i : Nat} {m : Int} (h1 : one s = (x, s1)) (hm : ((l ++ [x]).length : Int) = m) (h3 : takeR [btw] (mostR m 8 s1) = (i, s3)) :
  rowR one btw (n + 1) l s = if i = 0 then (l ++ [x], s3) else rowR one btw n (l ++ [x]) s3 := by
 show (if (takeR [btw] (mostR ((l ++ [(one s).1]).length : Int) 8 (one s).2)).1 = 0 then _ else _) = _
 rw [h1]
 simp only
 rw [hm, h3]

section
variable {L g : Nat} {w : World} {s : Pz}
set_option maxHeartbeats 3200000 in
theorem prow_match (h : Rd L w g s) (btw : ByteArray) : Calls Tryz.prog 158 #[.pointer (some ⟨g, 0, none⟩), .func (.func 159) #[.pointer (some ⟨g, 0, none⟩)] #[], .string btw] w fun x w' => ∃ A n c, x = .returned (.slice A n c) ∧ Only g w w' ∧ Rd L w' g (rowR matchR btw s.rest.length [] s).2 ∧ Ms w' (fun b => w.heap.size ≤ b) A n c (rowR matchR btw s.rest.length [] s).1 := by
 have HG : Hid (g < w.heap.size) := h.lt
 have HL0 : Hid (s.rest.length ≤ 5000) := h.ok.2.2.1.1
 have HH := Lib.hid h
 obtain ⟨z, hz⟩ : ∃ z, z = rowR matchR btw s.rest.length [] s := ⟨_, rfl⟩
 have HZ := Lib.hid hz
 rw [← hz]
 clear h hz
 go_enter Tryz.func158, Tryz.ntmps158
 go_wp2
 go_loopw [7] (fun v wr => ∃ (k : Nat) (A : Option Addr) (c : Nat) (l : List Mat) (s' : Pz) (q : Nat), v = .slice A k c ∧ Only g w wr ∧ Rd L wr g s' ∧ Gr 7 MaP wr w.heap.size 116 A k c l ∧ k + s'.rest.length ≤ s.rest.length ∧ s'.rest.length ≤ q ∧ rowR matchR btw q l s' = z) (fun v wr => restN wr g)
 case atStart => exact ⟨0, none, 0, [], s, s.rest.length, rfl, Only.refl, HH.out, Gr.nil _ _ (Nat.le_refl _), by omega, Nat.le_refl _, HZ.out.symm⟩
 case round =>
  obtain ⟨k, A, c, l, s', q, rfl, ho, hr, hg, hk, hq, he⟩ := hrel
  have HO := Lib.hid ho
  have HR := Lib.hid hr
  have HGr := Lib.hid hg
  have HK := Lib.hid hk
  have hq1 := hr.ok.pos
  obtain ⟨q, rfl⟩ : ∃ q', q = q' + 1 := ⟨q - 1, by omega⟩
  obtain ⟨m, s1, e1⟩ : ∃ m t, matchR s' = (m, t) := ⟨_, _, rfl⟩
  obtain ⟨i, s3, e3⟩ : ∃ i t, takeR [btw] (mostR ((k : Int) + 1) 8 s1) = (i, t) := ⟨_, _, rfl⟩
  have hlen : ((l ++ [m]).length : Int) = (k : Int) + 1 := by rw [List.length_append]; have := hg.len; simp; omega
  have HE := Lib.hid ((rowR_succ e1 hlen e3).symm.trans he)
  have HQ := Lib.hid hq
  have hgo := match_go hr.ok
  rw [e1] at hgo
  have hgo2 := most_go hgo.1 ((k : Int) + 1) 8
  have htl := takeR_len hgo2.1 [btw]
  rw [e3] at htl
  have HTL : Hid (s3.rest.length + (if i = 0 then 0 else 1) ≤ s'.rest.length) := by
   have h1 : s1.rest.length ≤ s'.rest.length := hgo.2
   have h2 := hgo2.2
   have h3 : s3.rest.length + (if i = 0 then 0 else 1) = (mostR ((k : Int) + 1) 8 s1).rest.length := htl
   show _ ≤ _
   have h2 : (mostR ((k : Int) + 1) 8 s1).rest.length ≤ s1.rest.length := hgo2.2
   omega
  have E1 := Lib.hid e1
  have E3 := Lib.hid e3
  have hk63 : k < 1000000 := by have := HL0.out; omega
  have HRN := Lib.hid hr.restN
  have HOK := Lib.hid (show m.ok from by have := match_ok hr.ok; rw [e1] at this; exact this)
  clear ho hr hg hk hq he e1 e3 hlen hgo hgo2 htl hq1
  go_wp2_with fail
  go_at_call 159
  refine (pmatch_any HR.out).mono ?_
  rintro x u1 ⟨hx, ho, hr⟩
  obtain rfl : x = .returned (.agg #[.int .i64 m.a.cat, .string m.a.name, .bool m.a.must, .int .i64 m.op, .int .i64 m.v.k, .int .i64 m.v.n, .string m.v.s]) := by rw [hx, E1.out] <;> rfl
  rw [E1.out] at hr
  obtain ⟨A2, c2, u2, r2, g2, b2⟩ := push_mat (HGr.out.at_only keeps_map ho HG.out) HOK.out hk63
  clear hx
  have HO2 := Lib.hid ((HO.out.trans ho).below_at b2)
  have HR2 := Lib.hid (hr.below b2 HG.out)
  have R2 := Lib.hid r2
  have G2 := Lib.hid g2
  clear ho hr r2 g2 b2
  go_wp2_with (at_builtin; refine wpList_append_run (o := ⟨some 12, _, _, _, _, _⟩) rfl _ _ _ _ rfl rfl rfl R2.out ?_)
  go_at_call 89
  refine (pmost_any HR2.out ((k : Int) + 1) 8).mono ?_
  rintro x u3 ⟨rfl, ho, hr⟩
  have HO3 := Lib.hid (HO2.out.trans ho)
  have HR3 := Lib.hid hr
  have G3 := Lib.hid (G2.out.at_only keeps_map ho HG.out)
  clear ho hr
  go_wp2_with fail
  go_at_call 120
  refine (ptake_lit HR3.out [btw] #[.string btw] 1 rfl rfl (by omega) rfl).mono ?_
  rintro x u4 ⟨hx, ho, hr⟩
  obtain rfl : x = .returned (.int .i64 (i : Int)) := by rw [hx, E3.out] <;> rfl
  rw [E3.out] at hr
  have HO4 := Lib.hid (HO3.out.trans ho)
  have HR4 := Lib.hid hr
  have G4 := Lib.hid (G3.out.at_only keeps_map ho HG.out)
  clear ho hr hx
  by_cases hi : i = 0
  ·have HE2 := Lib.hid (show (l ++ [m], s3) = z from by have := HE.out; rwa [if_pos hi] at this)
   subst hi
   go_wp2_with fail
   go_ret
   rw [← HE2.out]
   exact ⟨A2, k + 1, c2, rfl, HO4.out, HR4.out, G4.out.rw keeps_map (by omega)⟩
  ·have HE2 := Lib.hid (show rowR matchR btw q (l ++ [m]) s3 = z from by have := HE.out; rwa [if_neg hi] at this)
   have HT2 : Hid (s3.rest.length + 1 ≤ s'.rest.length) := by have := HTL.out; rwa [if_neg hi] at this
   have hi2 : ((i : Int) == 0) = false := by rw [beq_eq_false_iff_ne]; omega
   go_wp2_with fail
   go_roundw
   case rel => exact ⟨k + 1, A2, c2, l ++ [m], s3, q, rfl, HO4.out, HR4.out, G4.out, by have := HT2.out; have := HK.out; omega, by have := HT2.out; have := HQ.out; omega, HE2.out⟩
   case measure => rw [HR4.out.restN, HRN.out]; have := HT2.out; omega
set_option maxHeartbeats 800000 in
theorem pallof_any (h : Rd L w g s) : Calls Tryz.prog 146 #[.pointer (some ⟨g, 0, none⟩)] w fun x w' => ∃ A n c, x = .returned (.slice A n c) ∧ Only g w w' ∧ Rd L w' g (allOfR s).2 ∧ Ms w' (fun b => w.heap.size ≤ b) A n c (allOfR s).1 := by
 have HC := Lib.hid (prow_match h m_comma)
 clear h
 go_enter Tryz.func146, Tryz.ntmps146
 go_wp2_with fail
 go_at_call 158
 refine HC.out.mono ?_
 rintro x u1 ⟨A1, n1, c1, rfl, ho, hr, ht⟩
 have HO1 := Lib.hid ho
 have HR1 := Lib.hid hr
 have HT1 := Lib.hid ht
 clear ho hr ht
 go_wp2_with fail
 go_ret
 exact ⟨A1, n1, c1, rfl, HO1.out, HR1.out, HT1.out⟩
set_option maxHeartbeats 3200000 in
theorem prow_allof (h : Rd L w g s) (btw : ByteArray) : Calls Tryz.prog 145 #[.pointer (some ⟨g, 0, none⟩), .func (.func 146) #[.pointer (some ⟨g, 0, none⟩)] #[], .string btw] w fun x w' => ∃ A n c, x = .returned (.slice A n c) ∧ Only g w w' ∧ Rd L w' g (rowR allOfR btw s.rest.length [] s).2 ∧ Als w' (fun b => w.heap.size ≤ b) A n c (rowR allOfR btw s.rest.length [] s).1 := by
 have HG : Hid (g < w.heap.size) := h.lt
 have HL0 : Hid (s.rest.length ≤ 5000) := h.ok.2.2.1.1
 have HH := Lib.hid h
 obtain ⟨z, hz⟩ : ∃ z, z = rowR allOfR btw s.rest.length [] s := ⟨_, rfl⟩
 have HZ := Lib.hid hz
 rw [← hz]
 clear h hz
 go_enter Tryz.func145, Tryz.ntmps145
 go_wp2
 go_loopw [7] (fun v wr => ∃ (k : Nat) (A : Option Addr) (c : Nat) (l : List (List Mat)) (s' : Pz) (q : Nat), v = .slice A k c ∧ Only g w wr ∧ Rd L wr g s' ∧ Gr 1 AlP wr w.heap.size 114 A k c l ∧ k + s'.rest.length ≤ s.rest.length ∧ s'.rest.length ≤ q ∧ rowR allOfR btw q l s' = z) (fun v wr => restN wr g)
 case atStart => exact ⟨0, none, 0, [], s, s.rest.length, rfl, Only.refl, HH.out, Gr.nil _ _ (Nat.le_refl _), by omega, Nat.le_refl _, HZ.out.symm⟩
 case round =>
  obtain ⟨k, A, c, l, s', q, rfl, ho, hr, hg, hk, hq, he⟩ := hrel
  have HO := Lib.hid ho
  have HR := Lib.hid hr
  have HGr := Lib.hid hg
  have HK := Lib.hid hk
  have hq1 := hr.ok.pos
  obtain ⟨q, rfl⟩ : ∃ q', q = q' + 1 := ⟨q - 1, by omega⟩
  obtain ⟨m, s1, e1⟩ : ∃ m t, allOfR s' = (m, t) := ⟨_, _, rfl⟩
  obtain ⟨i, s3, e3⟩ : ∃ i t, takeR [btw] (mostR ((k : Int) + 1) 8 s1) = (i, t) := ⟨_, _, rfl⟩
  have hlen : ((l ++ [m]).length : Int) = (k : Int) + 1 := by rw [List.length_append]; have := hg.len; simp; omega
  have HE := Lib.hid ((rowR_succ e1 hlen e3).symm.trans he)
  have HQ := Lib.hid hq
  have hgo := allOf_go hr.ok
  rw [e1] at hgo
  have hgo2 := most_go hgo.1 ((k : Int) + 1) 8
  have htl := takeR_len hgo2.1 [btw]
  rw [e3] at htl
  have HTL : Hid (s3.rest.length + (if i = 0 then 0 else 1) ≤ s'.rest.length) := by
   have h1 : s1.rest.length ≤ s'.rest.length := hgo.2
   have h2 := hgo2.2
   have h3 : s3.rest.length + (if i = 0 then 0 else 1) = (mostR ((k : Int) + 1) 8 s1).rest.length := htl
   show _ ≤ _
   have h2 : (mostR ((k : Int) + 1) 8 s1).rest.length ≤ s1.rest.length := hgo2.2
   omega
  have E1 := Lib.hid e1
  have E3 := Lib.hid e3
  have hk63 : k < 1000000 := by have := HL0.out; omega
  have HRN := Lib.hid hr.restN
  clear ho hr hg hk hq he e1 e3 hlen hgo hgo2 htl hq1
  go_wp2_with fail
  go_at_call 146
  refine (pallof_any HR.out).mono ?_
  rintro x u1 ⟨A1, n1, c1, rfl, ho, hr, ht⟩
  rw [E1.out] at hr ht
  have hx := ht.keep (Kept.refl _ _) (fun b hb _ => (HGr.out.apart b hb : Nb w.heap.size (.slice A k c) b))
  obtain ⟨A2, c2, u2, r2, g2, b2⟩ := push_all (HGr.out.at_only keeps_alp ho HG.out) hx hk63
  have HO2 := Lib.hid ((HO.out.trans ho).below_at b2)
  have HR2 := Lib.hid (hr.below b2 HG.out)
  have R2 := Lib.hid r2
  have G2 := Lib.hid g2
  clear ho hr r2 g2 b2 hx ht
  go_wp2_with (at_builtin; refine wpList_append_run (o := ⟨some 12, _, _, _, _, _⟩) rfl _ _ _ _ rfl rfl rfl R2.out ?_)
  go_at_call 89
  refine (pmost_any HR2.out ((k : Int) + 1) 8).mono ?_
  rintro x u3 ⟨rfl, ho, hr⟩
  have HO3 := Lib.hid (HO2.out.trans ho)
  have HR3 := Lib.hid hr
  have G3 := Lib.hid (G2.out.at_only keeps_alp ho HG.out)
  clear ho hr
  go_wp2_with fail
  go_at_call 120
  refine (ptake_lit HR3.out [btw] #[.string btw] 1 rfl rfl (by omega) rfl).mono ?_
  rintro x u4 ⟨hx, ho, hr⟩
  obtain rfl : x = .returned (.int .i64 (i : Int)) := by rw [hx, E3.out] <;> rfl
  rw [E3.out] at hr
  have HO4 := Lib.hid (HO3.out.trans ho)
  have HR4 := Lib.hid hr
  have G4 := Lib.hid (G3.out.at_only keeps_alp ho HG.out)
  clear ho hr hx
  by_cases hi : i = 0
  ·have HE2 := Lib.hid (show (l ++ [m], s3) = z from by have := HE.out; rwa [if_pos hi] at this)
   subst hi
   go_wp2_with fail
   go_ret
   rw [← HE2.out]
   exact ⟨A2, k + 1, c2, rfl, HO4.out, HR4.out, G4.out.rw keeps_alp (by omega)⟩
  ·have HE2 := Lib.hid (show rowR allOfR btw q (l ++ [m]) s3 = z from by have := HE.out; rwa [if_neg hi] at this)
   have HT2 : Hid (s3.rest.length + 1 ≤ s'.rest.length) := by have := HTL.out; rwa [if_neg hi] at this
   have hi2 : ((i : Int) == 0) = false := by rw [beq_eq_false_iff_ne]; omega
   go_wp2_with fail
   go_roundw
   case rel => exact ⟨k + 1, A2, c2, l ++ [m], s3, q, rfl, HO4.out, HR4.out, G4.out, by have := HT2.out; have := HK.out; omega, by have := HT2.out; have := HQ.out; omega, HE2.out⟩
   case measure => rw [HR4.out.restN, HRN.out]; have := HT2.out; omega
set_option maxHeartbeats 800000 in
theorem panyof_any (h : Rd L w g s) : Calls Tryz.prog 122 #[.pointer (some ⟨g, 0, none⟩)] w fun x w' => ∃ A n c, x = .returned (.slice A n c) ∧ Only g w w' ∧ Rd L w' g (anyOfR s).2 ∧ Als w' (fun b => w.heap.size ≤ b) A n c (anyOfR s).1 := by
 have HG : Hid (g < w.heap.size) := h.lt
 have HR0 := Lib.hid h
 obtain ⟨i, s1, e1⟩ : ∃ i t, mustR [m_lp] s = (i, t) := ⟨_, _, rfl⟩
 obtain ⟨l, s2, e2⟩ : ∃ i t, rowR allOfR w_or s1.rest.length [] s1 = (i, t) := ⟨_, _, rfl⟩
 obtain ⟨j, s3, e3⟩ : ∃ i t, mustR [m_rp] s2 = (i, t) := ⟨_, _, rfl⟩
 have HE : Hid (anyOfR s = (l, s3)) := by show _ = _; unfold anyOfR; simp only [e1, e2, e3]
 rw [HE.out]
 have E1 := Lib.hid e1
 have E2 := Lib.hid e2
 have E3 := Lib.hid e3
 clear h e1 e2 e3
 go_enter Tryz.func122, Tryz.ntmps122
 go_wp2_with fail
 go_at_call 90
 refine (pmust_lit HR0.out [m_lp] #[.string ⟨#[40]⟩] 1 rfl rfl (by omega) rfl).mono ?_
 rintro x u1 ⟨rfl, ho, hr⟩
 rw [E1.out] at hr
 have HO1 := Lib.hid ho
 have HR1 := Lib.hid hr
 clear ho hr
 go_wp2_with fail
 go_at_call 145
 refine (prow_allof HR1.out w_or).mono ?_
 rintro x u2 ⟨A1, n1, c1, rfl, ho, hr, ht⟩
 rw [E2.out] at hr ht
 have HO2 := Lib.hid (HO1.out.trans ho)
 have HR2 := Lib.hid hr
 have HT2 := Lib.hid (ht.keep (Kept.refl _ _) (R' := fun b => w.heap.size ≤ b) (fun b hb _ => Nat.le_trans HO1.out.size hb))
 clear ho hr ht
 go_wp2_with fail
 go_at_call 90
 refine (pmust_lit HR2.out [m_rp] #[.string ⟨#[41]⟩] 1 rfl rfl (by omega) rfl).mono ?_
 rintro x u3 ⟨rfl, ho, hr⟩
 rw [E3.out] at hr
 have HO3 := Lib.hid (HO2.out.trans ho)
 have HR3 := Lib.hid hr
 have HT3 := Lib.hid (HT2.out.keep (⟨ho.size, fun b hb hlt => ho.heap hlt (by have := HG.out; have hb : w.heap.size ≤ b := hb; omega)⟩) (fun _ h _ => h))
 clear ho hr
 go_wp2_with fail
 go_ret
 exact ⟨A1, n1, c1, rfl, HO3.out, HR3.out, HT3.out⟩
set_option maxHeartbeats 3200000 in
theorem prow_anyof (h : Rd L w g s) (btw : ByteArray) : Calls Tryz.prog 121 #[.pointer (some ⟨g, 0, none⟩), .func (.func 122) #[.pointer (some ⟨g, 0, none⟩)] #[], .string btw] w fun x w' => ∃ A n c, x = .returned (.slice A n c) ∧ Only g w w' ∧ Rd L w' g (rowR anyOfR btw s.rest.length [] s).2 ∧ Tg w' (fun b => w.heap.size ≤ b) A n c (rowR anyOfR btw s.rest.length [] s).1 := by
 have HG : Hid (g < w.heap.size) := h.lt
 have HL0 : Hid (s.rest.length ≤ 5000) := h.ok.2.2.1.1
 have HH := Lib.hid h
 obtain ⟨z, hz⟩ : ∃ z, z = rowR anyOfR btw s.rest.length [] s := ⟨_, rfl⟩
 have HZ := Lib.hid hz
 rw [← hz]
 clear h hz
 go_enter Tryz.func121, Tryz.ntmps121
 go_wp2
 go_loopw [7] (fun v wr => ∃ (k : Nat) (A : Option Addr) (c : Nat) (l : List (List (List Mat))) (s' : Pz) (q : Nat), v = .slice A k c ∧ Only g w wr ∧ Rd L wr g s' ∧ Gr 1 AnP wr w.heap.size 113 A k c l ∧ k + s'.rest.length ≤ s.rest.length ∧ s'.rest.length ≤ q ∧ rowR anyOfR btw q l s' = z) (fun v wr => restN wr g)
 case atStart => exact ⟨0, none, 0, [], s, s.rest.length, rfl, Only.refl, HH.out, Gr.nil _ _ (Nat.le_refl _), by omega, Nat.le_refl _, HZ.out.symm⟩
 case round =>
  obtain ⟨k, A, c, l, s', q, rfl, ho, hr, hg, hk, hq, he⟩ := hrel
  have HO := Lib.hid ho
  have HR := Lib.hid hr
  have HGr := Lib.hid hg
  have HK := Lib.hid hk
  have hq1 := hr.ok.pos
  obtain ⟨q, rfl⟩ : ∃ q', q = q' + 1 := ⟨q - 1, by omega⟩
  obtain ⟨m, s1, e1⟩ : ∃ m t, anyOfR s' = (m, t) := ⟨_, _, rfl⟩
  obtain ⟨i, s3, e3⟩ : ∃ i t, takeR [btw] (mostR ((k : Int) + 1) 8 s1) = (i, t) := ⟨_, _, rfl⟩
  have hlen : ((l ++ [m]).length : Int) = (k : Int) + 1 := by rw [List.length_append]; have := hg.len; simp; omega
  have HE := Lib.hid ((rowR_succ e1 hlen e3).symm.trans he)
  have HQ := Lib.hid hq
  have hgo := anyOf_go hr.ok
  rw [e1] at hgo
  have hgo2 := most_go hgo.1 ((k : Int) + 1) 8
  have htl := takeR_len hgo2.1 [btw]
  rw [e3] at htl
  have HTL : Hid (s3.rest.length + (if i = 0 then 0 else 1) ≤ s'.rest.length) := by
   have h1 : s1.rest.length ≤ s'.rest.length := hgo.2
   have h2 := hgo2.2
   have h3 : s3.rest.length + (if i = 0 then 0 else 1) = (mostR ((k : Int) + 1) 8 s1).rest.length := htl
   show _ ≤ _
   have h2 : (mostR ((k : Int) + 1) 8 s1).rest.length ≤ s1.rest.length := hgo2.2
   omega
  have E1 := Lib.hid e1
  have E3 := Lib.hid e3
  have hk63 : k < 1000000 := by have := HL0.out; omega
  have HRN := Lib.hid hr.restN
  clear ho hr hg hk hq he e1 e3 hlen hgo hgo2 htl hq1
  go_wp2_with fail
  go_at_call 122
  refine (panyof_any HR.out).mono ?_
  rintro x u1 ⟨A1, n1, c1, rfl, ho, hr, ht⟩
  rw [E1.out] at hr ht
  have hx := ht.keep (Kept.refl _ _) (fun b hb _ => (HGr.out.apart b hb : Nb w.heap.size (.slice A k c) b))
  obtain ⟨A2, c2, u2, r2, g2, b2⟩ := push_any3 (HGr.out.at_only keeps_anp ho HG.out) hx hk63
  have HO2 := Lib.hid ((HO.out.trans ho).below_at b2)
  have HR2 := Lib.hid (hr.below b2 HG.out)
  have R2 := Lib.hid r2
  have G2 := Lib.hid g2
  clear ho hr r2 g2 b2 hx ht
  go_wp2_with (at_builtin; refine wpList_append_run (o := ⟨some 12, _, _, _, _, _⟩) rfl _ _ _ _ rfl rfl rfl R2.out ?_)
  go_at_call 89
  refine (pmost_any HR2.out ((k : Int) + 1) 8).mono ?_
  rintro x u3 ⟨rfl, ho, hr⟩
  have HO3 := Lib.hid (HO2.out.trans ho)
  have HR3 := Lib.hid hr
  have G3 := Lib.hid (G2.out.at_only keeps_anp ho HG.out)
  clear ho hr
  go_wp2_with fail
  go_at_call 120
  refine (ptake_lit HR3.out [btw] #[.string btw] 1 rfl rfl (by omega) rfl).mono ?_
  rintro x u4 ⟨hx, ho, hr⟩
  obtain rfl : x = .returned (.int .i64 (i : Int)) := by rw [hx, E3.out] <;> rfl
  rw [E3.out] at hr
  have HO4 := Lib.hid (HO3.out.trans ho)
  have HR4 := Lib.hid hr
  have G4 := Lib.hid (G3.out.at_only keeps_anp ho HG.out)
  clear ho hr hx
  by_cases hi : i = 0
  ·have HE2 := Lib.hid (show (l ++ [m], s3) = z from by have := HE.out; rwa [if_pos hi] at this)
   subst hi
   go_wp2_with fail
   go_ret
   rw [← HE2.out]
   exact ⟨A2, k + 1, c2, rfl, HO4.out, HR4.out, G4.out.rw keeps_anp (by omega)⟩
  ·have HE2 := Lib.hid (show rowR anyOfR btw q (l ++ [m]) s3 = z from by have := HE.out; rwa [if_neg hi] at this)
   have HT2 : Hid (s3.rest.length + 1 ≤ s'.rest.length) := by have := HTL.out; rwa [if_neg hi] at this
   have hi2 : ((i : Int) == 0) = false := by rw [beq_eq_false_iff_ne]; omega
   go_wp2_with fail
   go_roundw
   case rel => exact ⟨k + 1, A2, c2, l ++ [m], s3, q, rfl, HO4.out, HR4.out, G4.out, by have := HT2.out; have := HK.out; omega, by have := HT2.out; have := HQ.out; omega, HE2.out⟩
   case measure => rw [HR4.out.restN, HRN.out]; have := HT2.out; omega
set_option maxHeartbeats 800000 in
theorem ptarget_any (h : Rd L w g s) : Calls Tryz.prog 92 #[.pointer (some ⟨g, 0, none⟩)] w fun x w' => ∃ A n c, x = .returned (.slice A n c) ∧ Only g w w' ∧ Rd L w' g (targetR s).2 ∧ Tg w' (fun b => w.heap.size ≤ b) A n c (targetR s).1 := by
 have HR0 := Lib.hid h
 obtain ⟨i, s1, e1⟩ : ∃ i t, takeR [w_when] s = (i, t) := ⟨_, _, rfl⟩
 have E1 := Lib.hid e1
 by_cases hi : i = 0
 ·have HE : Hid (targetR s = ([], s1)) := by show _ = _; unfold targetR; rw [e1, if_pos hi]
  rw [HE.out]
  subst hi
  clear h e1
  go_enter Tryz.func92, Tryz.ntmps92
  go_wp2_with fail
  go_at_call 120
  refine (ptake_lit HR0.out [w_when] #[.string ⟨#[119, 104, 101, 110]⟩] 1 rfl rfl (by omega) rfl).mono ?_
  rintro x u1 ⟨hx, ho, hr⟩
  obtain rfl : x = .returned (.int .i64 ((0 : Nat) : Int)) := by rw [hx, E1.out] <;> rfl
  rw [E1.out] at hr
  have HO1 := Lib.hid ho
  have HR1 := Lib.hid hr
  clear ho hr hx
  go_wp2_with fail
  go_ret
  exact ⟨none, 0, 0, rfl, HO1.out, HR1.out, Rw.nil_ _ _ _ _⟩
 ·have HE : Hid (targetR s = rowR anyOfR w_and s1.rest.length [] s1) := by show _ = _; unfold targetR; rw [e1, if_neg hi]
  rw [HE.out]
  have hi2 : ((i : Int) == 0) = false := by rw [beq_eq_false_iff_ne]; omega
  clear h e1
  go_enter Tryz.func92, Tryz.ntmps92
  go_wp2_with fail
  go_at_call 120
  refine (ptake_lit HR0.out [w_when] #[.string ⟨#[119, 104, 101, 110]⟩] 1 rfl rfl (by omega) rfl).mono ?_
  rintro x u1 ⟨hx, ho, hr⟩
  obtain rfl : x = .returned (.int .i64 (i : Int)) := by rw [hx, E1.out] <;> rfl
  rw [E1.out] at hr
  have HO1 := Lib.hid ho
  have HR1 := Lib.hid hr
  clear ho hr hx
  go_wp2_with fail
  go_at_call 121
  refine (prow_anyof HR1.out w_and).mono ?_
  rintro x u2 ⟨A1, n1, c1, rfl, ho, hr, ht⟩
  have HO2 := Lib.hid (HO1.out.trans ho)
  have HR2 := Lib.hid hr
  have HT2 := Lib.hid (ht.keep (Kept.refl _ _) (R' := fun b => w.heap.size ≤ b) (fun b hb _ => Nat.le_trans HO1.out.size hb))
  clear ho hr ht
  go_wp2_with fail
  go_ret
  exact ⟨A1, n1, c1, rfl, HO2.out, HR2.out, HT2.out⟩
end
end Go.Proofs.YtmoglaknmlhpgaaGreatDoor
