/- Several texts in one: Parse5, Parse6, Parse7, Parse8, Parse9. -/
import Derived.Test.YtadjfkgnoklmiaaGreatVrsC
import Derived.Test.YtadjfkgnoklmiaaGreatVrsB
/- The parser: rows of matches, AllOfs, AnyOfs. -/
namespace Go.Proofs.YtadjfkgnoklmiaaGreat
set_option linter.unusedVariables false
open Go.RowKit

def restN (w : World) (g : Nat) : Nat := match w.cell? ⟨g, 0, none⟩ with | some (.slice _ n _) => n | _ => 0
theorem Rd.restN {L g : Nat} {w : World} {s : Pz} (h : Rd L w g s) : restN w g = s.rest.length := by
  obtain ⟨b, o, n, c, hob, hok, ⟨hn, _⟩, _⟩ := h.at_
  have := hob.cell 0
  unfold Go.Proofs.YtadjfkgnoklmiaaGreat.restN
  rw [this]
  exact hn.symm
def MaP (w : World) (R : Nat → Prop) (vs : List Value) (m : Mat) : Prop := vs = m.cells ∧ m.ok
theorem keeps_map : Keeps MaP := fun _ _ _ _ _ _ h _ _ => h
theorem push_mat {w : World} {base n c : Nat} {A : Option Addr} {l : List Mat} {x : Mat} (h : Gr 7 MaP w base 42 A n c l) (hx : x.ok) (hn : n < 1000000) :
    ∃ A' c' w', (Builtin.append_ #[55, 55] 55 #[.slice A n c, .slice (some ⟨w.heap.size, 0, none⟩) 1 1]).run Tryz.prog (w.alloc (.cells #[.int .i64 x.a.cat, .string x.a.name, .bool x.a.must, .int .i64 x.op, .int .i64 x.v.k, .int .i64 x.v.n, .string x.v.s] 42)) = .ok (.slice A' (n + 1) c') w' ∧ Gr 7 MaP w' base 42 A' (n + 1) c' (l ++ [x]) ∧ Below base w w' := by
  obtain ⟨i, hi, hz, hs, hb⟩ := info_of matinfo
  exact Gr.push (vs := x.cells) (x := x) Tryz.underlying55 hi hz hs hb rfl (by omega) (by omega) keeps_map h ⟨rfl, hx⟩ rfl (fun _ _ _ _ h => by
    obtain ⟨rfl, _⟩ := h
    intro v hv
    simp [Mat.cells] at hv
    rcases hv with rfl | rfl | rfl | rfl | rfl | rfl | rfl <;> rfl) hn
theorem push_any3 {w : World} {base n c : Nat} {A : Option Addr} {l : Tgt} {A1 : Option Addr} {n1 c1 : Nat} {x : List (List Mat)} (h : Gr 1 AnP w base 56 A n c l) (hx : Als w (Nb base (.slice A n c)) A1 n1 c1 x) (hn : n < 1000000) :
    ∃ A' c' w', (Builtin.append_ #[22, 22] 22 #[.slice A n c, .slice (some ⟨w.heap.size, 0, none⟩) 1 1]).run Tryz.prog (w.alloc (.cells #[.slice A1 n1 c1] 56)) = .ok (.slice A' (n + 1) c') w' ∧ Gr 1 AnP w' base 56 A' (n + 1) c' (l ++ [x]) ∧ Below base w w' := by
  obtain ⟨i, hi, hz, hs, hb⟩ := info_of s1info
  exact Gr.push (vs := [.slice A1 n1 c1]) (x := x) Tryz.underlying22 hi hz hs hb rfl (by omega) (by omega) keeps_anp h ⟨A1, n1, c1, rfl, hx⟩ rfl (fun _ _ _ _ => AnP.one _ _) hn
theorem Gr.at_only {α : Type} {k : Nat} {P : World → (Nat → Prop) → List Value → α → Prop} {w w' : World} {base g : Nat} {E : TypeId} {A : Option Addr} {n c : Nat} {l : List α} (hP : Keeps P) (h : Gr k P w base E A n c l) (o : Only g w w') (hg : g < base) : Gr k P w' base E A n c l :=
  ⟨(h.1.mapP (fun vs x _ hp => hP _ _ _ _ vs x hp (⟨o.size, fun b hb hlt => o.heap hlt (by have := hb.1; omega)⟩) (fun _ h _ => h))).grown (row := some g) o (.inr (fun e => by have := (h.1.lt g e).1; omega)), Nat.le_trans h.2 o.size⟩
theorem Only.below_at {g : Nat} {w a b : World} (h : Only g w a) (k : Below w.heap.size a b) : Only g w b :=
  ⟨k.os.trans h.os, k.tape.trans h.tape, k.output.trans h.output, Nat.le_trans h.size k.size, fun i hi hn => (k.block i hi).trans (h.block i hi hn)⟩
theorem Rd.below {L g B : Nat} {w w' : World} {s : Pz} (h : Rd L w g s) (hb : Below B w w') (hg : g < B) : Rd L w' g s := h.keep fun k hk => hb.block k (by omega)
theorem rowR_succ {α : Type} {one : Pz → α × Pz} {btw : ByteArray} {n : Nat} {l : List α} {s s1 s3 : Pz} {x : α} {i : Nat} {m : Int} (h1 : one s = (x, s1)) (hm : ((l ++ [x]).length : Int) = m) (h3 : takeR [btw] (mostR m 8 s1) = (i, s3)) :
    rowR one btw (n + 1) l s = if i = 0 then (l ++ [x], s3) else rowR one btw n (l ++ [x]) s3 := by
  show (if (takeR [btw] (mostR ((l ++ [(one s).1]).length : Int) 8 (one s).2)).1 = 0 then _ else _) = _
  rw [h1]
  simp only
  rw [hm, h3]

section
variable {L g : Nat} {w : World} {s : Pz}
set_option maxHeartbeats 3200000 in
theorem prow_match (h : Rd L w g s) (btw : ByteArray) : Calls Tryz.prog 155 #[.pointer (some ⟨g, 0, none⟩), .func (.func 156) #[.pointer (some ⟨g, 0, none⟩)] #[], .string btw] w fun x w' => ∃ A n c, x = .returned (.slice A n c) ∧ Only g w w' ∧ Rd L w' g (rowR matchR btw s.rest.length [] s).2 ∧ Ms w' (fun b => w.heap.size ≤ b) A n c (rowR matchR btw s.rest.length [] s).1 := by
  have HG : Hid (g < w.heap.size) := h.lt
  have HL0 : Hid (s.rest.length ≤ 5000) := h.ok.2.2.1.1
  have HH := Lib.hid h
  obtain ⟨z, hz⟩ : ∃ z, z = rowR matchR btw s.rest.length [] s := ⟨_, rfl⟩
  have HZ := Lib.hid hz
  rw [← hz]
  clear h hz
  go_enter Tryz.func155, Tryz.ntmps155
  go_wp2
  go_loopw [7] (fun v wr => ∃ (k : Nat) (A : Option Addr) (c : Nat) (l : List Mat) (s' : Pz) (q : Nat), v = .slice A k c ∧ Only g w wr ∧ Rd L wr g s' ∧ Gr 7 MaP wr w.heap.size 42 A k c l ∧ k + s'.rest.length ≤ s.rest.length ∧ s'.rest.length ≤ q ∧ rowR matchR btw q l s' = z) (fun v wr => restN wr g)
  case atStart => exact ⟨0, none, 0, [], s, s.rest.length, rfl, Only.refl, HH.out, Gr.nil _ _ (Nat.le_refl _), by omega, Nat.le_refl _, HZ.out.symm⟩
  case round =>
    obtain ⟨k, A, c, l, s', q, rfl, ho, hr, hg, hk, hq, he⟩ := hrel
    have HO := Lib.hid ho
    have HR := Lib.hid hr
    have HGr := Lib.hid hg
    have HK := Lib.hid hk
    have hq1 := hr.ok.pos
    obtain ⟨q, rfl⟩ : ∃ q', q = q' + 1 := ⟨q - 1, by omega⟩
    obtain ⟨m, s1, e1⟩ : ∃ m t, matchR s' = (m, t) := ⟨_, _, rfl⟩
    obtain ⟨i, s3, e3⟩ : ∃ i t, takeR [btw] (mostR ((k : Int) + 1) 8 s1) = (i, t) := ⟨_, _, rfl⟩
    have hlen : ((l ++ [m]).length : Int) = (k : Int) + 1 := by rw [List.length_append]; have := hg.len; simp; omega
    have HE := Lib.hid ((rowR_succ e1 hlen e3).symm.trans he)
    have HQ := Lib.hid hq
    have hgo := match_go hr.ok
    rw [e1] at hgo
    have hgo2 := most_go hgo.1 ((k : Int) + 1) 8
    have htl := takeR_len hgo2.1 [btw]
    rw [e3] at htl
    have HTL : Hid (s3.rest.length + (if i = 0 then 0 else 1) ≤ s'.rest.length) := by
      have h1 : s1.rest.length ≤ s'.rest.length := hgo.2
      have h2 := hgo2.2
      have h3 : s3.rest.length + (if i = 0 then 0 else 1) = (mostR ((k : Int) + 1) 8 s1).rest.length := htl
      show _ ≤ _
      have h2 : (mostR ((k : Int) + 1) 8 s1).rest.length ≤ s1.rest.length := hgo2.2
      omega
    have E1 := Lib.hid e1
    have E3 := Lib.hid e3
    have hk63 : k < 1000000 := by have := HL0.out; omega
    have HRN := Lib.hid hr.restN
    have HOK := Lib.hid (show m.ok from by have := match_ok hr.ok; rw [e1] at this; exact this)
    clear ho hr hg hk hq he e1 e3 hlen hgo hgo2 htl hq1
    go_wp2_with fail
    go_at_call 156
    refine (pmatch_any HR.out).mono ?_
    rintro x u1 ⟨hx, ho, hr⟩
    obtain rfl : x = .returned (.agg #[.int .i64 m.a.cat, .string m.a.name, .bool m.a.must, .int .i64 m.op, .int .i64 m.v.k, .int .i64 m.v.n, .string m.v.s]) := by rw [hx, E1.out] <;> rfl
    rw [E1.out] at hr
    obtain ⟨A2, c2, u2, r2, g2, b2⟩ := push_mat (HGr.out.at_only keeps_map ho HG.out) HOK.out hk63
    clear hx
    have HO2 := Lib.hid ((HO.out.trans ho).below_at b2)
    have HR2 := Lib.hid (hr.below b2 HG.out)
    have R2 := Lib.hid r2
    have G2 := Lib.hid g2
    clear ho hr r2 g2 b2
    go_wp2_with (at_builtin; refine wpList_append_run (o := ⟨some 12, _, _, _, _, _⟩) rfl _ _ _ _ rfl rfl rfl R2.out ?_)
    go_at_call 73
    refine (pmost_any HR2.out ((k : Int) + 1) 8).mono ?_
    rintro x u3 ⟨rfl, ho, hr⟩
    have HO3 := Lib.hid (HO2.out.trans ho)
    have HR3 := Lib.hid hr
    have G3 := Lib.hid (G2.out.at_only keeps_map ho HG.out)
    clear ho hr
    go_wp2_with fail
    go_at_call 113
    refine (ptake_lit HR3.out [btw] #[.string btw] 1 rfl rfl (by omega) rfl).mono ?_
    rintro x u4 ⟨hx, ho, hr⟩
    obtain rfl : x = .returned (.int .i64 (i : Int)) := by rw [hx, E3.out] <;> rfl
    rw [E3.out] at hr
    have HO4 := Lib.hid (HO3.out.trans ho)
    have HR4 := Lib.hid hr
    have G4 := Lib.hid (G3.out.at_only keeps_map ho HG.out)
    clear ho hr hx
    by_cases hi : i = 0
    · have HE2 := Lib.hid (show (l ++ [m], s3) = z from by have := HE.out; rwa [if_pos hi] at this)
      subst hi
      go_wp2_with fail
      go_ret
      rw [← HE2.out]
      exact ⟨A2, k + 1, c2, rfl, HO4.out, HR4.out, G4.out.rw keeps_map (by omega)⟩
    · have HE2 := Lib.hid (show rowR matchR btw q (l ++ [m]) s3 = z from by have := HE.out; rwa [if_neg hi] at this)
      have HT2 : Hid (s3.rest.length + 1 ≤ s'.rest.length) := by have := HTL.out; rwa [if_neg hi] at this
      have hi2 : ((i : Int) == 0) = false := by rw [beq_eq_false_iff_ne]; omega
      go_wp2_with fail
      go_roundw
      case rel => exact ⟨k + 1, A2, c2, l ++ [m], s3, q, rfl, HO4.out, HR4.out, G4.out, by have := HT2.out; have := HK.out; omega, by have := HT2.out; have := HQ.out; omega, HE2.out⟩
      case measure => rw [HR4.out.restN, HRN.out]; have := HT2.out; omega
set_option maxHeartbeats 800000 in
theorem pallof_any (h : Rd L w g s) : Calls Tryz.prog 146 #[.pointer (some ⟨g, 0, none⟩)] w fun x w' => ∃ A n c, x = .returned (.slice A n c) ∧ Only g w w' ∧ Rd L w' g (allOfR s).2 ∧ Ms w' (fun b => w.heap.size ≤ b) A n c (allOfR s).1 := by
  have HC := Lib.hid (prow_match h m_comma)
  clear h
  go_enter Tryz.func146, Tryz.ntmps146
  go_wp2_with fail
  go_at_call 155
  refine HC.out.mono ?_
  rintro x u1 ⟨A1, n1, c1, rfl, ho, hr, ht⟩
  have HO1 := Lib.hid ho
  have HR1 := Lib.hid hr
  have HT1 := Lib.hid ht
  clear ho hr ht
  go_wp2_with fail
  go_ret
  exact ⟨A1, n1, c1, rfl, HO1.out, HR1.out, HT1.out⟩
set_option maxHeartbeats 3200000 in
theorem prow_allof (h : Rd L w g s) (btw : ByteArray) : Calls Tryz.prog 145 #[.pointer (some ⟨g, 0, none⟩), .func (.func 146) #[.pointer (some ⟨g, 0, none⟩)] #[], .string btw] w fun x w' => ∃ A n c, x = .returned (.slice A n c) ∧ Only g w w' ∧ Rd L w' g (rowR allOfR btw s.rest.length [] s).2 ∧ Als w' (fun b => w.heap.size ≤ b) A n c (rowR allOfR btw s.rest.length [] s).1 := by
  have HG : Hid (g < w.heap.size) := h.lt
  have HL0 : Hid (s.rest.length ≤ 5000) := h.ok.2.2.1.1
  have HH := Lib.hid h
  obtain ⟨z, hz⟩ : ∃ z, z = rowR allOfR btw s.rest.length [] s := ⟨_, rfl⟩
  have HZ := Lib.hid hz
  rw [← hz]
  clear h hz
  go_enter Tryz.func145, Tryz.ntmps145
  go_wp2
  go_loopw [7] (fun v wr => ∃ (k : Nat) (A : Option Addr) (c : Nat) (l : List (List Mat)) (s' : Pz) (q : Nat), v = .slice A k c ∧ Only g w wr ∧ Rd L wr g s' ∧ Gr 1 AlP wr w.heap.size 55 A k c l ∧ k + s'.rest.length ≤ s.rest.length ∧ s'.rest.length ≤ q ∧ rowR allOfR btw q l s' = z) (fun v wr => restN wr g)
  case atStart => exact ⟨0, none, 0, [], s, s.rest.length, rfl, Only.refl, HH.out, Gr.nil _ _ (Nat.le_refl _), by omega, Nat.le_refl _, HZ.out.symm⟩
  case round =>
    obtain ⟨k, A, c, l, s', q, rfl, ho, hr, hg, hk, hq, he⟩ := hrel
    have HO := Lib.hid ho
    have HR := Lib.hid hr
    have HGr := Lib.hid hg
    have HK := Lib.hid hk
    have hq1 := hr.ok.pos
    obtain ⟨q, rfl⟩ : ∃ q', q = q' + 1 := ⟨q - 1, by omega⟩
    obtain ⟨m, s1, e1⟩ : ∃ m t, allOfR s' = (m, t) := ⟨_, _, rfl⟩
    obtain ⟨i, s3, e3⟩ : ∃ i t, takeR [btw] (mostR ((k : Int) + 1) 8 s1) = (i, t) := ⟨_, _, rfl⟩
    have hlen : ((l ++ [m]).length : Int) = (k : Int) + 1 := by rw [List.length_append]; have := hg.len; simp; omega
    have HE := Lib.hid ((rowR_succ e1 hlen e3).symm.trans he)
    have HQ := Lib.hid hq
    have hgo := allOf_go hr.ok
    rw [e1] at hgo
    have hgo2 := most_go hgo.1 ((k : Int) + 1) 8
    have htl := takeR_len hgo2.1 [btw]
    rw [e3] at htl
    have HTL : Hid (s3.rest.length + (if i = 0 then 0 else 1) ≤ s'.rest.length) := by
      have h1 : s1.rest.length ≤ s'.rest.length := hgo.2
      have h2 := hgo2.2
      have h3 : s3.rest.length + (if i = 0 then 0 else 1) = (mostR ((k : Int) + 1) 8 s1).rest.length := htl
      show _ ≤ _
      have h2 : (mostR ((k : Int) + 1) 8 s1).rest.length ≤ s1.rest.length := hgo2.2
      omega
    have E1 := Lib.hid e1
    have E3 := Lib.hid e3
    have hk63 : k < 1000000 := by have := HL0.out; omega
    have HRN := Lib.hid hr.restN
    clear ho hr hg hk hq he e1 e3 hlen hgo hgo2 htl hq1
    go_wp2_with fail
    go_at_call 146
    refine (pallof_any HR.out).mono ?_
    rintro x u1 ⟨A1, n1, c1, rfl, ho, hr, ht⟩
    rw [E1.out] at hr ht
    have hx := ht.keep (Kept.refl _ _) (fun b hb _ => (HGr.out.apart b hb : Nb w.heap.size (.slice A k c) b))
    obtain ⟨A2, c2, u2, r2, g2, b2⟩ := push_all (HGr.out.at_only keeps_alp ho HG.out) hx hk63
    have HO2 := Lib.hid ((HO.out.trans ho).below_at b2)
    have HR2 := Lib.hid (hr.below b2 HG.out)
    have R2 := Lib.hid r2
    have G2 := Lib.hid g2
    clear ho hr r2 g2 b2 hx ht
    go_wp2_with (at_builtin; refine wpList_append_run (o := ⟨some 12, _, _, _, _, _⟩) rfl _ _ _ _ rfl rfl rfl R2.out ?_)
    go_at_call 73
    refine (pmost_any HR2.out ((k : Int) + 1) 8).mono ?_
    rintro x u3 ⟨rfl, ho, hr⟩
    have HO3 := Lib.hid (HO2.out.trans ho)
    have HR3 := Lib.hid hr
    have G3 := Lib.hid (G2.out.at_only keeps_alp ho HG.out)
    clear ho hr
    go_wp2_with fail
    go_at_call 113
    refine (ptake_lit HR3.out [btw] #[.string btw] 1 rfl rfl (by omega) rfl).mono ?_
    rintro x u4 ⟨hx, ho, hr⟩
    obtain rfl : x = .returned (.int .i64 (i : Int)) := by rw [hx, E3.out] <;> rfl
    rw [E3.out] at hr
    have HO4 := Lib.hid (HO3.out.trans ho)
    have HR4 := Lib.hid hr
    have G4 := Lib.hid (G3.out.at_only keeps_alp ho HG.out)
    clear ho hr hx
    by_cases hi : i = 0
    · have HE2 := Lib.hid (show (l ++ [m], s3) = z from by have := HE.out; rwa [if_pos hi] at this)
      subst hi
      go_wp2_with fail
      go_ret
      rw [← HE2.out]
      exact ⟨A2, k + 1, c2, rfl, HO4.out, HR4.out, G4.out.rw keeps_alp (by omega)⟩
    · have HE2 := Lib.hid (show rowR allOfR btw q (l ++ [m]) s3 = z from by have := HE.out; rwa [if_neg hi] at this)
      have HT2 : Hid (s3.rest.length + 1 ≤ s'.rest.length) := by have := HTL.out; rwa [if_neg hi] at this
      have hi2 : ((i : Int) == 0) = false := by rw [beq_eq_false_iff_ne]; omega
      go_wp2_with fail
      go_roundw
      case rel => exact ⟨k + 1, A2, c2, l ++ [m], s3, q, rfl, HO4.out, HR4.out, G4.out, by have := HT2.out; have := HK.out; omega, by have := HT2.out; have := HQ.out; omega, HE2.out⟩
      case measure => rw [HR4.out.restN, HRN.out]; have := HT2.out; omega
set_option maxHeartbeats 800000 in
theorem panyof_any (h : Rd L w g s) : Calls Tryz.prog 115 #[.pointer (some ⟨g, 0, none⟩)] w fun x w' => ∃ A n c, x = .returned (.slice A n c) ∧ Only g w w' ∧ Rd L w' g (anyOfR s).2 ∧ Als w' (fun b => w.heap.size ≤ b) A n c (anyOfR s).1 := by
  have HG : Hid (g < w.heap.size) := h.lt
  have HR0 := Lib.hid h
  obtain ⟨i, s1, e1⟩ : ∃ i t, mustR [m_lp] s = (i, t) := ⟨_, _, rfl⟩
  obtain ⟨l, s2, e2⟩ : ∃ i t, rowR allOfR w_or s1.rest.length [] s1 = (i, t) := ⟨_, _, rfl⟩
  obtain ⟨j, s3, e3⟩ : ∃ i t, mustR [m_rp] s2 = (i, t) := ⟨_, _, rfl⟩
  have HE : Hid (anyOfR s = (l, s3)) := by show _ = _; unfold anyOfR; simp only [e1, e2, e3]
  rw [HE.out]
  have E1 := Lib.hid e1
  have E2 := Lib.hid e2
  have E3 := Lib.hid e3
  clear h e1 e2 e3
  go_enter Tryz.func115, Tryz.ntmps115
  go_wp2_with fail
  go_at_call 74
  refine (pmust_lit HR0.out [m_lp] #[.string ⟨#[40]⟩] 1 rfl rfl (by omega) rfl).mono ?_
  rintro x u1 ⟨rfl, ho, hr⟩
  rw [E1.out] at hr
  have HO1 := Lib.hid ho
  have HR1 := Lib.hid hr
  clear ho hr
  go_wp2_with fail
  go_at_call 145
  refine (prow_allof HR1.out w_or).mono ?_
  rintro x u2 ⟨A1, n1, c1, rfl, ho, hr, ht⟩
  rw [E2.out] at hr ht
  have HO2 := Lib.hid (HO1.out.trans ho)
  have HR2 := Lib.hid hr
  have HT2 := Lib.hid (ht.keep (Kept.refl _ _) (R' := fun b => w.heap.size ≤ b) (fun b hb _ => Nat.le_trans HO1.out.size hb))
  clear ho hr ht
  go_wp2_with fail
  go_at_call 74
  refine (pmust_lit HR2.out [m_rp] #[.string ⟨#[41]⟩] 1 rfl rfl (by omega) rfl).mono ?_
  rintro x u3 ⟨rfl, ho, hr⟩
  rw [E3.out] at hr
  have HO3 := Lib.hid (HO2.out.trans ho)
  have HR3 := Lib.hid hr
  have HT3 := Lib.hid (HT2.out.keep (⟨ho.size, fun b hb hlt => ho.heap hlt (by have := HG.out; have hb : w.heap.size ≤ b := hb; omega)⟩) (fun _ h _ => h))
  clear ho hr
  go_wp2_with fail
  go_ret
  exact ⟨A1, n1, c1, rfl, HO3.out, HR3.out, HT3.out⟩
set_option maxHeartbeats 3200000 in
theorem prow_anyof (h : Rd L w g s) (btw : ByteArray) : Calls Tryz.prog 114 #[.pointer (some ⟨g, 0, none⟩), .func (.func 115) #[.pointer (some ⟨g, 0, none⟩)] #[], .string btw] w fun x w' => ∃ A n c, x = .returned (.slice A n c) ∧ Only g w w' ∧ Rd L w' g (rowR anyOfR btw s.rest.length [] s).2 ∧ Tg w' (fun b => w.heap.size ≤ b) A n c (rowR anyOfR btw s.rest.length [] s).1 := by
  have HG : Hid (g < w.heap.size) := h.lt
  have HL0 : Hid (s.rest.length ≤ 5000) := h.ok.2.2.1.1
  have HH := Lib.hid h
  obtain ⟨z, hz⟩ : ∃ z, z = rowR anyOfR btw s.rest.length [] s := ⟨_, rfl⟩
  have HZ := Lib.hid hz
  rw [← hz]
  clear h hz
  go_enter Tryz.func114, Tryz.ntmps114
  go_wp2
  go_loopw [7] (fun v wr => ∃ (k : Nat) (A : Option Addr) (c : Nat) (l : List (List (List Mat))) (s' : Pz) (q : Nat), v = .slice A k c ∧ Only g w wr ∧ Rd L wr g s' ∧ Gr 1 AnP wr w.heap.size 56 A k c l ∧ k + s'.rest.length ≤ s.rest.length ∧ s'.rest.length ≤ q ∧ rowR anyOfR btw q l s' = z) (fun v wr => restN wr g)
  case atStart => exact ⟨0, none, 0, [], s, s.rest.length, rfl, Only.refl, HH.out, Gr.nil _ _ (Nat.le_refl _), by omega, Nat.le_refl _, HZ.out.symm⟩
  case round =>
    obtain ⟨k, A, c, l, s', q, rfl, ho, hr, hg, hk, hq, he⟩ := hrel
    have HO := Lib.hid ho
    have HR := Lib.hid hr
    have HGr := Lib.hid hg
    have HK := Lib.hid hk
    have hq1 := hr.ok.pos
    obtain ⟨q, rfl⟩ : ∃ q', q = q' + 1 := ⟨q - 1, by omega⟩
    obtain ⟨m, s1, e1⟩ : ∃ m t, anyOfR s' = (m, t) := ⟨_, _, rfl⟩
    obtain ⟨i, s3, e3⟩ : ∃ i t, takeR [btw] (mostR ((k : Int) + 1) 8 s1) = (i, t) := ⟨_, _, rfl⟩
    have hlen : ((l ++ [m]).length : Int) = (k : Int) + 1 := by rw [List.length_append]; have := hg.len; simp; omega
    have HE := Lib.hid ((rowR_succ e1 hlen e3).symm.trans he)
    have HQ := Lib.hid hq
    have hgo := anyOf_go hr.ok
    rw [e1] at hgo
    have hgo2 := most_go hgo.1 ((k : Int) + 1) 8
    have htl := takeR_len hgo2.1 [btw]
    rw [e3] at htl
    have HTL : Hid (s3.rest.length + (if i = 0 then 0 else 1) ≤ s'.rest.length) := by
      have h1 : s1.rest.length ≤ s'.rest.length := hgo.2
      have h2 := hgo2.2
      have h3 : s3.rest.length + (if i = 0 then 0 else 1) = (mostR ((k : Int) + 1) 8 s1).rest.length := htl
      show _ ≤ _
      have h2 : (mostR ((k : Int) + 1) 8 s1).rest.length ≤ s1.rest.length := hgo2.2
      omega
    have E1 := Lib.hid e1
    have E3 := Lib.hid e3
    have hk63 : k < 1000000 := by have := HL0.out; omega
    have HRN := Lib.hid hr.restN
    clear ho hr hg hk hq he e1 e3 hlen hgo hgo2 htl hq1
    go_wp2_with fail
    go_at_call 115
    refine (panyof_any HR.out).mono ?_
    rintro x u1 ⟨A1, n1, c1, rfl, ho, hr, ht⟩
    rw [E1.out] at hr ht
    have hx := ht.keep (Kept.refl _ _) (fun b hb _ => (HGr.out.apart b hb : Nb w.heap.size (.slice A k c) b))
    obtain ⟨A2, c2, u2, r2, g2, b2⟩ := push_any3 (HGr.out.at_only keeps_anp ho HG.out) hx hk63
    have HO2 := Lib.hid ((HO.out.trans ho).below_at b2)
    have HR2 := Lib.hid (hr.below b2 HG.out)
    have R2 := Lib.hid r2
    have G2 := Lib.hid g2
    clear ho hr r2 g2 b2 hx ht
    go_wp2_with (at_builtin; refine wpList_append_run (o := ⟨some 12, _, _, _, _, _⟩) rfl _ _ _ _ rfl rfl rfl R2.out ?_)
    go_at_call 73
    refine (pmost_any HR2.out ((k : Int) + 1) 8).mono ?_
    rintro x u3 ⟨rfl, ho, hr⟩
    have HO3 := Lib.hid (HO2.out.trans ho)
    have HR3 := Lib.hid hr
    have G3 := Lib.hid (G2.out.at_only keeps_anp ho HG.out)
    clear ho hr
    go_wp2_with fail
    go_at_call 113
    refine (ptake_lit HR3.out [btw] #[.string btw] 1 rfl rfl (by omega) rfl).mono ?_
    rintro x u4 ⟨hx, ho, hr⟩
    obtain rfl : x = .returned (.int .i64 (i : Int)) := by rw [hx, E3.out] <;> rfl
    rw [E3.out] at hr
    have HO4 := Lib.hid (HO3.out.trans ho)
    have HR4 := Lib.hid hr
    have G4 := Lib.hid (G3.out.at_only keeps_anp ho HG.out)
    clear ho hr hx
    by_cases hi : i = 0
    · have HE2 := Lib.hid (show (l ++ [m], s3) = z from by have := HE.out; rwa [if_pos hi] at this)
      subst hi
      go_wp2_with fail
      go_ret
      rw [← HE2.out]
      exact ⟨A2, k + 1, c2, rfl, HO4.out, HR4.out, G4.out.rw keeps_anp (by omega)⟩
    · have HE2 := Lib.hid (show rowR anyOfR btw q (l ++ [m]) s3 = z from by have := HE.out; rwa [if_neg hi] at this)
      have HT2 : Hid (s3.rest.length + 1 ≤ s'.rest.length) := by have := HTL.out; rwa [if_neg hi] at this
      have hi2 : ((i : Int) == 0) = false := by rw [beq_eq_false_iff_ne]; omega
      go_wp2_with fail
      go_roundw
      case rel => exact ⟨k + 1, A2, c2, l ++ [m], s3, q, rfl, HO4.out, HR4.out, G4.out, by have := HT2.out; have := HK.out; omega, by have := HT2.out; have := HQ.out; omega, HE2.out⟩
      case measure => rw [HR4.out.restN, HRN.out]; have := HT2.out; omega
set_option maxHeartbeats 800000 in
theorem ptarget_any (h : Rd L w g s) : Calls Tryz.prog 76 #[.pointer (some ⟨g, 0, none⟩)] w fun x w' => ∃ A n c, x = .returned (.slice A n c) ∧ Only g w w' ∧ Rd L w' g (targetR s).2 ∧ Tg w' (fun b => w.heap.size ≤ b) A n c (targetR s).1 := by
  have HR0 := Lib.hid h
  obtain ⟨i, s1, e1⟩ : ∃ i t, takeR [w_when] s = (i, t) := ⟨_, _, rfl⟩
  have E1 := Lib.hid e1
  by_cases hi : i = 0
  · have HE : Hid (targetR s = ([], s1)) := by show _ = _; unfold targetR; rw [e1, if_pos hi]
    rw [HE.out]
    subst hi
    clear h e1
    go_enter Tryz.func76, Tryz.ntmps76
    go_wp2_with fail
    go_at_call 113
    refine (ptake_lit HR0.out [w_when] #[.string ⟨#[119, 104, 101, 110]⟩] 1 rfl rfl (by omega) rfl).mono ?_
    rintro x u1 ⟨hx, ho, hr⟩
    obtain rfl : x = .returned (.int .i64 ((0 : Nat) : Int)) := by rw [hx, E1.out] <;> rfl
    rw [E1.out] at hr
    have HO1 := Lib.hid ho
    have HR1 := Lib.hid hr
    clear ho hr hx
    go_wp2_with fail
    go_ret
    exact ⟨none, 0, 0, rfl, HO1.out, HR1.out, Rw.nil_ _ _ _ _⟩
  · have HE : Hid (targetR s = rowR anyOfR w_and s1.rest.length [] s1) := by show _ = _; unfold targetR; rw [e1, if_neg hi]
    rw [HE.out]
    have hi2 : ((i : Int) == 0) = false := by rw [beq_eq_false_iff_ne]; omega
    clear h e1
    go_enter Tryz.func76, Tryz.ntmps76
    go_wp2_with fail
    go_at_call 113
    refine (ptake_lit HR0.out [w_when] #[.string ⟨#[119, 104, 101, 110]⟩] 1 rfl rfl (by omega) rfl).mono ?_
    rintro x u1 ⟨hx, ho, hr⟩
    obtain rfl : x = .returned (.int .i64 (i : Int)) := by rw [hx, E1.out] <;> rfl
    rw [E1.out] at hr
    have HO1 := Lib.hid ho
    have HR1 := Lib.hid hr
    clear ho hr hx
    go_wp2_with fail
    go_at_call 114
    refine (prow_anyof HR1.out w_and).mono ?_
    rintro x u2 ⟨A1, n1, c1, rfl, ho, hr, ht⟩
    have HO2 := Lib.hid (HO1.out.trans ho)
    have HR2 := Lib.hid hr
    have HT2 := Lib.hid (ht.keep (Kept.refl _ _) (R' := fun b => w.heap.size ≤ b) (fun b hb _ => Nat.le_trans HO1.out.size hb))
    clear ho hr ht
    go_wp2_with fail
    go_ret
    exact ⟨A1, n1, c1, rfl, HO2.out, HR2.out, HT2.out⟩
end
end Go.Proofs.YtadjfkgnoklmiaaGreat
/- The parser: duties. -/
namespace Go.Proofs.YtadjfkgnoklmiaaGreat
set_option linter.unusedVariables false
open Go.RowKit

def DuP (w : World) (R : Nat → Prop) (vs : List Value) (m : Dut) : Prop := vs = m.cells ∧ m.ok
theorem keeps_dup : Keeps DuP := fun _ _ _ _ _ _ h _ _ => h
theorem dutinfo9 : (Tryz.prog.info? 80).map (fun i => (i.zero, i.size, i.bytes)) = some (some (.agg #[.int .i64 0, .int .i64 0, .string ⟨#[]⟩]), 3, 32) := by kernel_rfl
theorem push_dut9 {w : World} {base n c : Nat} {A : Option Addr} {l : List Dut} {x : Dut} (h : Gr 3 DuP w base 80 A n c l) (hx : x.ok) (hn : n < 1000000) {b : Nat} (hbk : w.heap.size = b) :
    ∃ A' c' w', (Builtin.append_ #[26, 26] 26 #[.slice A n c, .slice (some ⟨b, 0, none⟩) 1 1]).run Tryz.prog (w.alloc (.cells #[.int .i64 x.on, .int .i64 x.kind, .string x.arg] 80)) = .ok (.slice A' (n + 1) c') w' ∧ Gr 3 DuP w' base 80 A' (n + 1) c' (l ++ [x]) ∧ Below base w w' := by
  subst hbk
  obtain ⟨i, hi, hz, hs, hb⟩ := info_of dutinfo9
  exact Gr.push (vs := x.cells) (x := x) Tryz.underlying26 hi hz hs hb rfl (by omega) (by omega) keeps_dup h ⟨rfl, hx⟩ rfl (fun _ _ _ _ h => by
    obtain ⟨rfl, _⟩ := h
    intro v hv
    simp [Dut.cells] at hv
    rcases hv with rfl | rfl | rfl <;> rfl) hn
theorem dutiesR_stop {n : Nat} {l : List Dut} {s s1 : Pz} (h : takeR [w_on] s = (0, s1)) : dutiesR (n + 1) l s = (l, s1) := by
  unfold dutiesR
  rw [h, if_pos rfl]
theorem dutiesR_succ {n i j k : Nat} {l : List Dut} {s s1 s2 s3 s4 s5 : Pz} {nm : ByteArray} {m : Int} (h : takeR [w_on] s = (i, s1)) (hi : i ≠ 0) (h2 : mustR [w_permit, w_deny] s1 = (j, s2)) (h3 : mustR [w_log, w_redact, w_review, w_notify] s2 = (k, s3)) (h4 : nameR s3 = (nm, s4))
    (hm : ((l ++ [(⟨(j : Int), (k : Int), nm⟩ : Dut)]).length : Int) = m) (h5 : mostR m 8 s4 = s5) : dutiesR (n + 1) l s = dutiesR n (l ++ [⟨(j : Int), (k : Int), nm⟩]) s5 := by
  conv => lhs; unfold dutiesR
  rw [h, if_neg hi]
  simp only [h2, h3, h4]
  rw [hm, h5]

section
variable {L g : Nat} {w : World} {s : Pz}
set_option maxHeartbeats 3200000 in
theorem pduts_any (h : Rd L w g s) : Calls Tryz.prog 79 #[.pointer (some ⟨g, 0, none⟩)] w fun x w' => ∃ A n c, x = .returned (.slice A n c) ∧ Only g w w' ∧ Rd L w' g (dutsR s).2 ∧ Dus w' (fun b => w.heap.size ≤ b) A n c (dutsR s).1 := by
  have HG0 : Hid (g < w.heap.size) := h.lt
  have HL0 : Hid (s.rest.length ≤ 5000) := h.ok.2.2.1.1
  have HH := Lib.hid h
  obtain ⟨z, hz⟩ : ∃ z, z = dutsR s := ⟨_, rfl⟩
  have HZ : Hid (z = dutiesR s.rest.length [] s) := hz
  rw [← hz]
  clear h hz
  go_enter Tryz.func79, Tryz.ntmps79
  go_wp2
  go_loopw [3] (fun v wr => ∃ (k : Nat) (A : Option Addr) (c : Nat) (l : List Dut) (s' : Pz) (q : Nat), v = .slice A k c ∧ Only g w wr ∧ Rd L wr g s' ∧ Gr 3 DuP wr w.heap.size 80 A k c l ∧ k + s'.rest.length ≤ s.rest.length ∧ s'.rest.length ≤ q ∧ dutiesR q l s' = z) (fun v wr => restN wr g)
  case atStart => exact ⟨0, none, 0, [], s, s.rest.length, rfl, Only.refl, HH.out, Gr.nil _ _ (Nat.le_refl _), by omega, Nat.le_refl _, HZ.out.symm⟩
  case round =>
    obtain ⟨k, A, c, l, s', q, rfl, ho, hr, hg, hk, hq, he⟩ := hrel
    have HOw := Lib.hid ho
    have HR0 := Lib.hid hr
    have HGr := Lib.hid hg
    have HK := Lib.hid hk
    have HQ := Lib.hid hq
    have HG : Hid (g < wr.heap.size) := hr.lt
    have hq1 := hr.ok.pos
    obtain ⟨q, rfl⟩ : ∃ q', q = q' + 1 := ⟨q - 1, by omega⟩
    have HO0 := Lib.hid (Only.refl (r := g) (w := wr))
    have HRN := Lib.hid hr.restN
    obtain ⟨i, s1, e1⟩ : ∃ i t, takeR [w_on] s' = (i, t) := ⟨_, _, rfl⟩
    have E1 := Lib.hid e1
    by_cases hi : i = 0
    · subst hi
      have HE := Lib.hid ((dutiesR_stop e1).symm.trans he)
      clear ho hr hg hk hq he e1 hq1
      go_wp2_with fail
      go_at_call 113
      refine (ptake_lit HR0.out [w_on] #[.string ⟨#[111, 110]⟩] 1 rfl rfl (by omega) rfl).mono ?_
      rintro x u1 ⟨hx, ho, hr⟩
      obtain rfl : x = .returned (.int .i64 ((0 : Nat) : Int)) := by rw [hx, E1.out] <;> rfl
      rw [E1.out] at hr
      have HO1 := Lib.hid ho
      have HR1 := Lib.hid hr
      clear ho hr hx
      go_wp2_with fail
      go_ret
      rw [← HE.out]
      exact ⟨A, k, c, rfl, HOw.out.trans HO1.out, HR1.out, (HGr.out.at_only keeps_dup HO1.out HG0.out).rw keeps_dup (by have := HL0.out; have := HK.out; omega)⟩
    · obtain ⟨j, s2, e2⟩ : ∃ i t, mustR [w_permit, w_deny] s1 = (i, t) := ⟨_, _, rfl⟩
      obtain ⟨n, s3, e3⟩ : ∃ i t, mustR [w_log, w_redact, w_review, w_notify] s2 = (i, t) := ⟨_, _, rfl⟩
      obtain ⟨nm, s4, e4⟩ : ∃ i t, nameR s3 = (i, t) := ⟨_, _, rfl⟩
      have hlen : ((l ++ [(⟨(j : Int), (n : Int), nm⟩ : Dut)]).length : Int) = (k : Int) + 1 := by rw [List.length_append]; have := hg.len; simp; omega
      have HE := Lib.hid ((dutiesR_succ e1 hi e2 e3 e4 hlen rfl).symm.trans he)
      have E2 := Lib.hid e2
      have E3 := Lib.hid e3
      have E4 := Lib.hid e4
      have g1 := take_go hr.ok [w_on]
      have hl1 := takeR_len hr.ok [w_on]
      rw [e1] at g1 hl1
      have hl1 : s1.rest.length + 1 = s'.rest.length := by
        have h3 : s1.rest.length + (if i = 0 then 0 else 1) = s'.rest.length := hl1
        rwa [if_neg hi] at h3
      have g2 := must_go g1.1 [w_permit, w_deny]
      rw [e2] at g2
      have g3 := must_go g2.1 [w_log, w_redact, w_review, w_notify]
      rw [e3] at g3
      have g4 := name_go g3.1
      have hnm := nameR_size g3.1
      rw [e4] at g4 hnm
      have g5 := most_go g4.1 ((k : Int) + 1) 8
      have HTL : Hid ((mostR ((k : Int) + 1) 8 s4).rest.length + 1 ≤ s'.rest.length) := by
        show _ ≤ _
        have a2 : s2.rest.length ≤ s1.rest.length := g2.2
        have a3 : s3.rest.length ≤ s2.rest.length := g3.2
        have a4 : s4.rest.length ≤ s3.rest.length := g4.2
        have a5 : (mostR ((k : Int) + 1) 8 s4).rest.length ≤ s4.rest.length := g5.2
        omega
      have hj : j ≤ 2 := by have := mustR_le [w_permit, w_deny] s1; rw [e2] at this; exact this
      have hn : n ≤ 4 := by have := mustR_le [w_log, w_redact, w_review, w_notify] s2; rw [e3] at this; exact this
      have HOK : Hid ((⟨(j : Int), (n : Int), nm⟩ : Dut).ok) := Lib.hid ⟨in_small (by show -100 ≤ (j : Int); omega) (by show (j : Int) ≤ 100; omega), in_small (by show -100 ≤ (n : Int); omega) (by show (n : Int) ≤ 100; omega), hnm⟩
      have hk63 : k < 1000000 := by have := HL0.out; omega
      have hi2 : 0 < i := by omega
      clear ho hr hg hk hq he e1 e2 e3 e4 hlen g1 g2 g3 g4 g5 hl1 hnm hj hn hq1
      go_wp2_with fail
      go_at_call 113
      refine (ptake_lit HR0.out [w_on] #[.string ⟨#[111, 110]⟩] 1 rfl rfl (by omega) rfl).mono ?_
      rintro x u1 ⟨hx, ho, hr⟩
      obtain rfl : x = .returned (.int .i64 (i : Int)) := by rw [hx, E1.out] <;> rfl
      rw [E1.out] at hr
      clear hx
      have HO1 := Lib.hid (HO0.out.trans ho)
      have HR1 := Lib.hid hr
      clear ho hr
      have HSo : Hid (g < u1.heap.size ∧ wr.heap.size ≤ u1.heap.size) := ⟨HR1.out.lt, HO1.out.size⟩
      have HO2 := Lib.hid (HO1.out.al (.cells #[.int .i64 0, .int .i64 0, .string ⟨#[]⟩] 80))
      have HR2 := Lib.hid (HR1.out.alloc (.cells #[.int .i64 0, .int .i64 0, .string ⟨#[]⟩] 80))
      have HBo_2 := Lib.hid (Ob.made (u1) 80 #[.int .i64 0, .int .i64 0, .string ⟨#[]⟩])
      go_wp2_with fail
      go_at_call 74
      refine (pmust_lit HR2.out [w_permit, w_deny] #[.string ⟨#[112, 101, 114, 109, 105, 116]⟩, .string ⟨#[100, 101, 110, 121]⟩] 2 rfl rfl (by omega) (by first | rfl | (simp; done) | (simp [World.setCell]; done))).mono ?_
      rintro x u3 ⟨hx, ho, hr⟩
      obtain rfl : x = .returned (.int .i64 (j : Int)) := by rw [hx, E2.out] <;> rfl
      rw [E2.out] at hr
      clear hx
      have HO3 := Lib.hid (HO2.out.trans ho)
      have HR3 := Lib.hid hr
      have HBo_3 := Lib.hid (HBo_2.out.keep (ho.heap HBo_2.out.lt (by have := HG.out; have := HSo.out; omega)))
      clear ho hr
      have c4 := HBo_3.out.cell 0
      have f4 := HBo_3.out.frozen 0
      have HO4 := Lib.hid (HO3.out.new (r := u1.heap.size) (by have := HG.out; have := HSo.out; omega) 0 (.int .i64 (j : Int)))
      have HR4 := Lib.hid (HR3.out.set (r := u1.heap.size) (by have := HG.out; have := HSo.out; omega) 0 (.int .i64 (j : Int)))
      have HBo_4 : Hid (Ob (u3.setCell ⟨u1.heap.size, 0, none⟩ (.int .i64 (j : Int))) (u1.heap.size) 80 #[.int .i64 (j : Int), .int .i64 0, .string ⟨#[]⟩]) := Lib.hid (by have := HBo_3.out.put 0 (.int .i64 (j : Int)); simpa using this)
      go_wp2_with fail
      go_at_call 74
      refine (pmust_lit HR4.out [w_log, w_redact, w_review, w_notify] #[.string ⟨#[108, 111, 103]⟩, .string ⟨#[114, 101, 100, 97, 99, 116]⟩, .string ⟨#[114, 101, 118, 105, 101, 119]⟩, .string ⟨#[110, 111, 116, 105, 102, 121]⟩] 4 rfl rfl (by omega) (by first | rfl | (simp; done) | (simp [World.setCell]; done))).mono ?_
      rintro x u5 ⟨hx, ho, hr⟩
      obtain rfl : x = .returned (.int .i64 (n : Int)) := by rw [hx, E3.out] <;> rfl
      rw [E3.out] at hr
      clear hx
      have HO5 := Lib.hid (HO4.out.trans ho)
      have HR5 := Lib.hid hr
      have HBo_5 := Lib.hid (HBo_4.out.keep (ho.heap HBo_4.out.lt (by have := HG.out; have := HSo.out; omega)))
      clear ho hr
      have c6 := HBo_5.out.cell 1
      have f6 := HBo_5.out.frozen 1
      have HO6 := Lib.hid (HO5.out.new (r := u1.heap.size) (by have := HG.out; have := HSo.out; omega) 1 (.int .i64 (n : Int)))
      have HR6 := Lib.hid (HR5.out.set (r := u1.heap.size) (by have := HG.out; have := HSo.out; omega) 1 (.int .i64 (n : Int)))
      have HBo_6 : Hid (Ob (u5.setCell ⟨u1.heap.size, 1, none⟩ (.int .i64 (n : Int))) (u1.heap.size) 80 #[.int .i64 (j : Int), .int .i64 (n : Int), .string ⟨#[]⟩]) := Lib.hid (by have := HBo_5.out.put 1 (.int .i64 (n : Int)); simpa using this)
      go_wp2_with fail
      go_at_call 75
      refine (pname_any HR6.out).mono ?_
      rintro x u7 ⟨hx, ho, hr⟩
      obtain rfl : x = .returned (.string nm) := by rw [hx, E4.out] <;> rfl
      rw [E4.out] at hr
      clear hx
      have HO7 := Lib.hid (HO6.out.trans ho)
      have HR7 := Lib.hid hr
      have HBo_7 := Lib.hid (HBo_6.out.keep (ho.heap HBo_6.out.lt (by have := HG.out; have := HSo.out; omega)))
      clear ho hr
      have c8 := HBo_7.out.cell 2
      have f8 := HBo_7.out.frozen 2
      have HO8 := Lib.hid (HO7.out.new (r := u1.heap.size) (by have := HG.out; have := HSo.out; omega) 2 (.string nm))
      have HR8 := Lib.hid (HR7.out.set (r := u1.heap.size) (by have := HG.out; have := HSo.out; omega) 2 (.string nm))
      have HBo_8 : Hid (Ob (u7.setCell ⟨u1.heap.size, 2, none⟩ (.string nm)) (u1.heap.size) 80 #[.int .i64 (j : Int), .int .i64 (n : Int), .string nm]) := Lib.hid (by have := HBo_7.out.put 2 (.string nm); simpa using this)
      have c9_0 := HBo_8.out.cell 0
      have c9_1 := HBo_8.out.cell 1
      have c9_2 := HBo_8.out.cell 2
      have hgr := HGr.out.at_only keeps_dup HO8.out HG0.out
      obtain ⟨A2, c2, v2, r2, g2, b2⟩ := push_dut9 (x := ⟨(j : Int), (n : Int), nm⟩) hgr HOK.out hk63 (b := u7.heap.size) (by first | rfl | (simp; done) | (simp [World.setCell]; done))
      have HO2w := Lib.hid (((HOw.out.trans HO8.out)).below_at b2)
      have HR2w := Lib.hid (HR8.out.below b2 HG0.out)
      have R2 := Lib.hid r2
      have G2 := Lib.hid g2
      clear hgr r2 g2 b2
      go_wp2_with (at_builtin; refine wpList_append_run (o := ⟨some 23, _, _, _, _, _⟩) rfl _ _ _ _ rfl rfl rfl R2.out ?_)
      go_at_call 73
      refine (pmost_any HR2w.out ((k : Int) + 1) 8).mono ?_
      rintro x u9 ⟨rfl, ho, hr⟩
      have HO3 := Lib.hid (HO2w.out.trans ho)
      have HR3 := Lib.hid hr
      have G3 := Lib.hid (G2.out.at_only keeps_dup ho HG0.out)
      clear ho hr
      go_wp2_with fail
      go_roundw
      case rel => exact ⟨k + 1, A2, c2, _, _, q, rfl, HO3.out, HR3.out, G3.out, by have := HTL.out; have := HK.out; omega, by have := HTL.out; have := HQ.out; omega, HE.out⟩
      case measure => rw [HR3.out.restN, HRN.out]; have := HTL.out; omega
end
end Go.Proofs.YtadjfkgnoklmiaaGreat
/- The parser: expressions. -/
namespace Go.Proofs.YtadjfkgnoklmiaaGreat
set_option linter.unusedVariables false
open Go.RowKit

def NoP (w : World) (R : Nat → Prop) (vs : List Value) (m : Nod) : Prop := vs = m.cells ∧ m.ok
theorem keeps_nop : Keeps NoP := fun _ _ _ _ _ _ h _ _ => h
theorem nodinfo9 : (Tryz.prog.info? 72).map (fun i => (i.zero, i.size, i.bytes)) = some (some (.agg #[.int .i64 0, .int .i64 0, .int .i64 0, .string ⟨#[]⟩, .int .i64 0, .string ⟨#[]⟩, .bool false]), 7, 72) := by kernel_rfl
def Fram (g : Nat) (v : Value) (w w' : World) : Prop := w'.os = w.os ∧ w'.tape = w.tape ∧ w'.output = w.output ∧ w.heap.size ≤ w'.heap.size ∧ ∀ b, b < w.heap.size → b ≠ g → some b ≠ v.ownBlock → w'.heap[b]? = w.heap[b]?
def Ownn (v v' : Value) (w : World) : Prop := v'.ownBlock = v.ownBlock ∨ ∃ b, v'.ownBlock = some b ∧ w.heap.size ≤ b
section
variable {g : Nat} {v v1 v2 : Value} {w w1 w2 : World}
theorem Fram.size (h : Fram g v w w1) : w.heap.size ≤ w1.heap.size := h.2.2.2.1
theorem Fram.heap (h : Fram g v w w1) {b : Nat} (hb : b < w.heap.size) (hg : b ≠ g) (hv : some b ≠ v.ownBlock) : w1.heap[b]? = w.heap[b]? := h.2.2.2.2 b hb hg hv
theorem Fram.refl : Fram g v w w := ⟨rfl, rfl, rfl, Nat.le_refl _, fun _ _ _ _ => rfl⟩
theorem Fram.of_only (h : Only g w w1) : Fram g v w w1 := ⟨h.os, h.tape, h.output, h.size, fun b hb hg _ => h.heap hb hg⟩
theorem Ownn.refl : Ownn v v w := .inl rfl
theorem Ownn.trans (h1 : Ownn v v1 w) (h2 : Ownn v1 v2 w1) (hs : w.heap.size ≤ w1.heap.size) : Ownn v v2 w := by
  rcases h2 with h2 | ⟨b, h2, hb⟩
  · unfold Ownn
    rw [h2]
    exact h1
  · exact .inr ⟨b, h2, by omega⟩
theorem Ownn.not (h : Ownn v v1 w) {b : Nat} (hb : b < w.heap.size) (hv : some b ≠ v.ownBlock) : some b ≠ v1.ownBlock := by
  rcases h with h | ⟨c, h, hc⟩
  · rw [h]; exact hv
  · rw [h]
    intro e
    injection e with e
    omega
theorem Fram.trans (h1 : Fram g v w w1) (ho : Ownn v v1 w) (h2 : Fram g v1 w1 w2) : Fram g v w w2 :=
  ⟨h2.1.trans h1.1, h2.2.1.trans h1.2.1, h2.2.2.1.trans h1.2.2.1, Nat.le_trans h1.size h2.size, fun b hb hg hv => (h2.heap (Nat.lt_of_lt_of_le hb h1.size) hg (ho.not hb hv)).trans (h1.heap hb hg hv)⟩
theorem Fram.only (h1 : Fram g v w w1) (h2 : Only g w1 w2) : Fram g v w w2 :=
  ⟨h2.os.trans h1.1, h2.tape.trans h1.2.1, h2.output.trans h1.2.2.1, Nat.le_trans h1.size h2.size, fun b hb hg hv => (h2.heap (Nat.lt_of_lt_of_le hb h1.size) hg).trans (h1.heap hb hg hv)⟩
theorem Fram.new (h1 : Fram g v w w1) {r : Nat} (hr : w.heap.size ≤ r) (i : Nat) (u : Value) : Fram g v w (w1.setCell ⟨r, i, none⟩ u) :=
  ⟨h1.1, h1.2.1, h1.2.2.1, by have := h1.size; simpa [World.setCell] using this, fun b hb hg hv => (Below.heap_setCell w1 ⟨r, i, none⟩ u b (show b ≠ r by omega)).trans (h1.heap hb hg hv)⟩
theorem Fram.ob {t : TypeId} {cs : Array Value} {r : Nat} (h : Fram g v w w1) (hb : Ob w r t cs) (hg : r ≠ g) (hv : some r ≠ v.ownBlock) : Ob w1 r t cs := hb.keep (h.heap hb.lt hg hv)
theorem Gr.own_lt {α : Type} {k : Nat} {P : World → (Nat → Prop) → List Value → α → Prop} {w : World} {base : Nat} {E : TypeId} {A : Option Addr} {n c : Nat} {l : List α} (h : Gr k P w base E A n c l) {b : Nat} (hb : w.heap.size ≤ b) : some b ≠ (Value.slice A n c).ownBlock := fun e => by
  have := (h.1.lt b e.symm).2
  omega
end
theorem Gr.set {w : World} {base : Nat} {A : Option Addr} {n c : Nat} {l : List Nod} (h : Gr 7 NoP w base 72 A n c l) {r : Nat} (hv : some r ≠ (Value.slice A n c).ownBlock) (i : Nat) (u : Value) : Gr 7 NoP (w.setCell ⟨r, i, none⟩ u) base 72 A n c l := by
  have o : Only r w (w.setCell ⟨r, i, none⟩ u) := Only.refl.setCell (p := ⟨r, i, none⟩) rfl u
  exact ⟨h.1.grown (row := some r) o (.inr (fun e => hv e.symm)), Nat.le_trans h.2 o.size⟩
theorem push_nod {w : World} {base n c : Nat} {A : Option Addr} {l : List Nod} {op vk vn ac : Int} {vs an : ByteArray} {am : Bool} (h : Gr 7 NoP w base 72 A n c l) (hx : (⟨op, ⟨vk, vn, vs⟩, ⟨ac, an, am⟩⟩ : Nod).ok) (hn : n < 1000000) {b : Nat} (hbk : w.heap.size = b) (g : Nat) :
    ∃ A' c' w', (Builtin.append_ #[43, 43] 43 #[.slice A n c, .slice (some ⟨b, 0, none⟩) 1 1]).run Tryz.prog (w.alloc (.cells #[.int .i64 op, .int .i64 vk, .int .i64 vn, .string vs, .int .i64 ac, .string an, .bool am] 72)) = .ok (.slice A' (n + 1) c') w' ∧ Gr 7 NoP w' base 72 A' (n + 1) c' (l ++ [⟨op, ⟨vk, vn, vs⟩, ⟨ac, an, am⟩⟩]) ∧ Below base w w' ∧
      Fram g (.slice A n c) w w' ∧ Ownn (.slice A n c) (.slice A' (n + 1) c') w := by
  subst hbk
  obtain ⟨x, hxe⟩ : ∃ x : Nod, x = ⟨op, ⟨vk, vn, vs⟩, ⟨ac, an, am⟩⟩ := ⟨_, rfl⟩
  rw [← hxe] at hx
  have hcells : x.cells = [.int .i64 op, .int .i64 vk, .int .i64 vn, .string vs, .int .i64 ac, .string an, .bool am] := by rw [hxe]; rfl
  obtain ⟨i, hi, hz, hs, hb⟩ := info_of nodinfo9
  have hbase := h.2
  have a1 : Below w.heap.size w (w.alloc (.cells x.cells.toArray 72)) := (Below.refl _ _).alloc (Nat.le_refl _) _
  have h' := Gr.below keeps_nop h a1
  have hlit : Rw 7 (NoP (w.alloc (.cells x.cells.toArray 72)) (Nb base (.slice A n c))) (w.alloc (.cells x.cells.toArray 72)) (fun _ => True) (some ⟨w.heap.size, 0, none⟩) 1 1 [x] := by
    have := Rw.lit (k := 7) (P := NoP (w.alloc (.cells x.cells.toArray 72)) (Nb base (.slice A n c))) (R := fun _ => True) w 72 (fun _ => x.cells) [x] (n := 1) rfl (by omega) trivial (fun _ _ => rfl) (fun y hy => by simp at hy; subst hy; exact ⟨rfl, hx⟩)
    simpa using this
  obtain ⟨A', c', w', hrun, hown, hbel, hg, hob⟩ := Ow.app (ty := 43) Tryz.underlying43 hi hz hs hb rfl (by omega) (by omega) h'.1 hlit (fun _ _ h => by
    obtain ⟨rfl, _⟩ := h
    intro v hv
    simp [Nod.cells] at hv
    rcases hv with rfl | rfl | rfl | rfl | rfl | rfl | rfl <;> rfl) (by omega) h'.2
  rw [hcells] at hrun
  rw [← hxe]
  refine ⟨A', c', w', hrun, ⟨hown.mapP fun vs x _ hp => hp, Nat.le_trans h'.2 hbel.size⟩, (a1.mono hbase).trans hbel, ⟨hg.os.trans rfl, hg.tape.trans rfl, hg.output.trans rfl, Nat.le_trans a1.size hg.size, fun b hb _ hv => (hg.block b (Nat.lt_of_lt_of_le hb a1.size) hv).trans (a1.block b hb)⟩, ?_⟩
  rcases hob with e | e
  · exact .inl e
  · exact .inr ⟨_, e, a1.size⟩

def EOk (L g n : Nat) : Prop := ∀ (w : World) (s : Pz) (l : List Nod) (bag : Bool) (base : Nat) (A : Option Addr) (k c : Nat), Rd L w g s → g < base → Gr 7 NoP w base 72 A k c l → s.rest.length ≤ n → k + 2 * s.rest.length ≤ 900000 →
  Calls Tryz.prog 157 #[.pointer (some ⟨g, 0, none⟩), .slice A k c, .bool bag] w fun x w' => ∃ A' k' c', x = .returned (.slice A' k' c') ∧ Fram g (.slice A k c) w w' ∧ Ownn (.slice A k c) (.slice A' k' c') w ∧ Rd L w' g (exprR n l bag s).2 ∧ Gr 7 NoP w' base 72 A' k' c' (exprR n l bag s).1
def COk (L g n : Nat) : Prop := ∀ (w : World) (s : Pz) (l : List Nod) (base : Nat) (A : Option Addr) (k c : Nat), Rd L w g s → g < base → Gr 7 NoP w base 72 A k c l → s.rest.length ≤ n → k + 2 * s.rest.length ≤ 899998 →
  Calls Tryz.prog 166 #[.pointer (some ⟨g, 0, none⟩), .slice A k c] w fun x w' => ∃ A' k' c', x = .returned (.tuple #[.slice A' k' c', .int .i64 (callR (exprR n) l s).2.1]) ∧ Fram g (.slice A k c) w w' ∧ Ownn (.slice A k c) (.slice A' k' c') w ∧ Rd L w' g (callR (exprR n) l s).2.2 ∧ Gr 7 NoP w' base 72 A' k' c' (callR (exprR n) l s).1 ∧ k' + 2 * (callR (exprR n) l s).2.2.rest.length ≤ k + 2 * s.rest.length + 2

section
variable {L g : Nat}
set_option maxHeartbeats 6400000 in
theorem call_step (n : Nat) (ih : EOk L g n) : COk L g n := by
  intro w s l base A k c h hgb hgr hn hk
  have HIH := Lib.hid ih
  have HR0 := Lib.hid h
  have HGB := Lib.hid hgb
  have HG0 := Lib.hid hgr
  have hgl := hgr.len
  obtain ⟨i, s1, e1⟩ : ∃ i t, mustR [w_one, w_size, w_has, w_eq, w_less, w_add, w_sub, w_mul, w_not, w_and, w_or] s = (i, t) := ⟨_, _, rfl⟩
  have hi : i ≤ 11 := by have := mustR_le [w_one, w_size, w_has, w_eq, w_less, w_add, w_sub, w_mul, w_not, w_and, w_or] s; rw [e1] at this; exact this
  have g1 := must_go h.ok [w_one, w_size, w_has, w_eq, w_less, w_add, w_sub, w_mul, w_not, w_and, w_or]
  rw [e1] at g1
  have g1l : s1.rest.length ≤ s.rest.length := g1.2
  obtain ⟨l2, s2, e2⟩ : ∃ a t, exprR n l (isBag (2 + (i : Int))) s1 = (a, t) := ⟨_, _, rfl⟩
  have g2 := expr_go n l (isBag (2 + (i : Int))) s1 g1.1 (by omega)
  rw [e2] at g2
  obtain ⟨⟨g2o, g2l⟩, g2c⟩ := g2
  simp only at g2l g2c g2o
  obtain ⟨l3, s3, e3⟩ : ∃ a t, (if isTwo (2 + (i : Int)) = true then exprR n l2 false s2 else (l2, s2)) = (a, t) := ⟨_, _, rfl⟩
  obtain ⟨j, s4, e4⟩ : ∃ a t, mustR [m_rp] s3 = (a, t) := ⟨_, _, rfl⟩
  have HE : Hid (callR (exprR n) l s = (l3, 2 + (i : Int), s4)) := by
    show _ = _
    unfold callR
    simp only [e1, e2, e3, e4]
  rw [HE.out]
  have HN : Hid (s1.rest.length ≤ n ∧ s2.rest.length ≤ n ∧ k + 2 * s1.rest.length ≤ 900000 ∧ l2.length + 2 * s2.rest.length ≤ k + 2 * s.rest.length + 1 ∧ k + 2 * s.rest.length ≤ 899998 ∧ l.length = k ∧ s2.rest.length ≤ s.rest.length) := ⟨by omega, by omega, by omega, by omega, hk, hgl, by omega⟩
  have E1 := Lib.hid e1
  have E2 := Lib.hid e2
  have E4 := Lib.hid e4
  have G2O := Lib.hid g2o
  have HI := Lib.hid hi
  have hcs : i = 1 ∨ i = 2 ∨ i = 3 ∨ i = 9 ∨ (i ≠ 1 ∧ i ≠ 2 ∧ i ≠ 3 ∧ i ≠ 9) := by omega
  rcases hcs with rfl | rfl | rfl | rfl | ⟨hi1, hi2, hi3, hi9⟩
  · have E2 : Hid (exprR n l true s1 = (l2, s2)) := E2
    obtain ⟨rfl, rfl⟩ : l2 = l3 ∧ s2 = s3 := by have e3 : (l2, s2) = (l3, s3) := e3; exact ⟨congrArg Prod.fst e3, congrArg Prod.snd e3⟩
    have HN3 : Hid (s2.ok L) := G2O
    have h4 := must_go HN3.out [m_rp]
    rw [E4.out] at h4
    have HN4 : Hid (s4.rest.length ≤ s2.rest.length) := h4.2
    clear h hgb hgr hn hk hi e1 e2 e3 e4 g1 g1l g2o g2l g2c ih hgl h4
    go_enter Tryz.func166, Tryz.ntmps166
    go_wp2_with fail
    go_at_call 74
    refine (pmust_lit HR0.out [w_one, w_size, w_has, w_eq, w_less, w_add, w_sub, w_mul, w_not, w_and, w_or] #[.string ⟨#[111, 110, 101]⟩, .string ⟨#[115, 105, 122, 101]⟩, .string ⟨#[104, 97, 115]⟩, .string ⟨#[101, 113]⟩, .string ⟨#[108, 101, 115, 115]⟩, .string ⟨#[97, 100, 100]⟩, .string ⟨#[115, 117, 98]⟩, .string ⟨#[109, 117, 108]⟩, .string ⟨#[110, 111, 116]⟩, .string ⟨#[97, 110, 100]⟩, .string ⟨#[111, 114]⟩] 11 rfl rfl (by omega) rfl).mono ?_
    rintro x u1 ⟨hx, ho, hr⟩
    obtain rfl : x = .returned (.int .i64 ((1 : Nat) : Int)) := by rw [hx, E1.out] <;> rfl
    rw [E1.out] at hr
    have F1 := Lib.hid (Fram.of_only (v := .slice A k c) ho)
    have HR1 := Lib.hid hr
    have G1 := Lib.hid (HG0.out.at_only keeps_nop ho HGB.out)
    clear hx ho hr
    go_wp2_with fail
    go_at_call 157
    refine (HIH.out _ s1 l true base A k c HR1.out HGB.out G1.out HN.out.1 HN.out.2.2.1).mono ?_
    rintro x u2 ⟨A2, k2, c2, rfl, hf, hw, hr, hg⟩
    rw [E2.out] at hr hg
    have F2 := Lib.hid (F1.out.trans Ownn.refl hf)
    have W2 := Lib.hid (Ownn.trans (w := w) Ownn.refl hw F1.out.size)
    have HR2 := Lib.hid hr
    have G2 := Lib.hid hg
    have HL2 := Lib.hid hg.len
    clear hf hw hr hg
    go_wp2_with fail
    go_at_call 74
    refine (pmust_lit HR2.out [m_rp] #[.string ⟨#[41]⟩] 1 rfl rfl (by omega) rfl).mono ?_
    rintro x u4 ⟨rfl, ho, hr⟩
    rw [E4.out] at hr
    have F4 := Lib.hid (F2.out.only ho)
    have HR4 := Lib.hid hr
    have G4 := Lib.hid (G2.out.at_only keeps_nop ho HGB.out)
    clear ho hr
    go_wp2_with fail
    go_ret2
    refine ⟨A2, k2, c2, by rfl, F4.out, W2.out, HR4.out, G4.out, ?_⟩
    have h1 := HN.out; have h2 := HL2.out; have h4 := HN4.out; show k2 + 2 * s4.rest.length ≤ _; omega
  · have E2 : Hid (exprR n l true s1 = (l2, s2)) := E2
    obtain ⟨rfl, rfl⟩ : l2 = l3 ∧ s2 = s3 := by have e3 : (l2, s2) = (l3, s3) := e3; exact ⟨congrArg Prod.fst e3, congrArg Prod.snd e3⟩
    have HN3 : Hid (s2.ok L) := G2O
    have h4 := must_go HN3.out [m_rp]
    rw [E4.out] at h4
    have HN4 : Hid (s4.rest.length ≤ s2.rest.length) := h4.2
    clear h hgb hgr hn hk hi e1 e2 e3 e4 g1 g1l g2o g2l g2c ih hgl h4
    go_enter Tryz.func166, Tryz.ntmps166
    go_wp2_with fail
    go_at_call 74
    refine (pmust_lit HR0.out [w_one, w_size, w_has, w_eq, w_less, w_add, w_sub, w_mul, w_not, w_and, w_or] #[.string ⟨#[111, 110, 101]⟩, .string ⟨#[115, 105, 122, 101]⟩, .string ⟨#[104, 97, 115]⟩, .string ⟨#[101, 113]⟩, .string ⟨#[108, 101, 115, 115]⟩, .string ⟨#[97, 100, 100]⟩, .string ⟨#[115, 117, 98]⟩, .string ⟨#[109, 117, 108]⟩, .string ⟨#[110, 111, 116]⟩, .string ⟨#[97, 110, 100]⟩, .string ⟨#[111, 114]⟩] 11 rfl rfl (by omega) rfl).mono ?_
    rintro x u1 ⟨hx, ho, hr⟩
    obtain rfl : x = .returned (.int .i64 ((2 : Nat) : Int)) := by rw [hx, E1.out] <;> rfl
    rw [E1.out] at hr
    have F1 := Lib.hid (Fram.of_only (v := .slice A k c) ho)
    have HR1 := Lib.hid hr
    have G1 := Lib.hid (HG0.out.at_only keeps_nop ho HGB.out)
    clear hx ho hr
    go_wp2_with fail
    go_at_call 157
    refine (HIH.out _ s1 l true base A k c HR1.out HGB.out G1.out HN.out.1 HN.out.2.2.1).mono ?_
    rintro x u2 ⟨A2, k2, c2, rfl, hf, hw, hr, hg⟩
    rw [E2.out] at hr hg
    have F2 := Lib.hid (F1.out.trans Ownn.refl hf)
    have W2 := Lib.hid (Ownn.trans (w := w) Ownn.refl hw F1.out.size)
    have HR2 := Lib.hid hr
    have G2 := Lib.hid hg
    have HL2 := Lib.hid hg.len
    clear hf hw hr hg
    go_wp2_with fail
    go_at_call 74
    refine (pmust_lit HR2.out [m_rp] #[.string ⟨#[41]⟩] 1 rfl rfl (by omega) rfl).mono ?_
    rintro x u4 ⟨rfl, ho, hr⟩
    rw [E4.out] at hr
    have F4 := Lib.hid (F2.out.only ho)
    have HR4 := Lib.hid hr
    have G4 := Lib.hid (G2.out.at_only keeps_nop ho HGB.out)
    clear ho hr
    go_wp2_with fail
    go_ret2
    refine ⟨A2, k2, c2, by rfl, F4.out, W2.out, HR4.out, G4.out, ?_⟩
    have h1 := HN.out; have h2 := HL2.out; have h4 := HN4.out; show k2 + 2 * s4.rest.length ≤ _; omega
  · have E2 : Hid (exprR n l true s1 = (l2, s2)) := E2
    have e3 : exprR n l2 false s2 = (l3, s3) := e3
    have g3 := expr_go n l2 false s2 G2O.out HN.out.2.1
    rw [e3] at g3
    obtain ⟨⟨g3o, g3l⟩, g3c⟩ := g3
    have HN3 : Hid (l3.length + 2 * s3.rest.length ≤ l2.length + 2 * s2.rest.length + 1 ∧ s3.ok L) := ⟨g3c, g3o⟩
    have E3 := Lib.hid e3
    clear g3o g3l g3c
    have h4 := must_go HN3.out.2 [m_rp]
    rw [E4.out] at h4
    have HN4 : Hid (s4.rest.length ≤ s3.rest.length) := h4.2
    clear h hgb hgr hn hk hi e1 e2 e3 e4 g1 g1l g2o g2l g2c ih hgl h4
    go_enter Tryz.func166, Tryz.ntmps166
    go_wp2_with fail
    go_at_call 74
    refine (pmust_lit HR0.out [w_one, w_size, w_has, w_eq, w_less, w_add, w_sub, w_mul, w_not, w_and, w_or] #[.string ⟨#[111, 110, 101]⟩, .string ⟨#[115, 105, 122, 101]⟩, .string ⟨#[104, 97, 115]⟩, .string ⟨#[101, 113]⟩, .string ⟨#[108, 101, 115, 115]⟩, .string ⟨#[97, 100, 100]⟩, .string ⟨#[115, 117, 98]⟩, .string ⟨#[109, 117, 108]⟩, .string ⟨#[110, 111, 116]⟩, .string ⟨#[97, 110, 100]⟩, .string ⟨#[111, 114]⟩] 11 rfl rfl (by omega) rfl).mono ?_
    rintro x u1 ⟨hx, ho, hr⟩
    obtain rfl : x = .returned (.int .i64 ((3 : Nat) : Int)) := by rw [hx, E1.out] <;> rfl
    rw [E1.out] at hr
    have F1 := Lib.hid (Fram.of_only (v := .slice A k c) ho)
    have HR1 := Lib.hid hr
    have G1 := Lib.hid (HG0.out.at_only keeps_nop ho HGB.out)
    clear hx ho hr
    go_wp2_with fail
    go_at_call 157
    refine (HIH.out _ s1 l true base A k c HR1.out HGB.out G1.out HN.out.1 HN.out.2.2.1).mono ?_
    rintro x u2 ⟨A2, k2, c2, rfl, hf, hw, hr, hg⟩
    rw [E2.out] at hr hg
    have F2 := Lib.hid (F1.out.trans Ownn.refl hf)
    have W2 := Lib.hid (Ownn.trans (w := w) Ownn.refl hw F1.out.size)
    have HR2 := Lib.hid hr
    have G2 := Lib.hid hg
    have HL2 := Lib.hid hg.len
    clear hf hw hr hg
    go_wp2_with fail
    go_at_call 157
    refine (HIH.out _ s2 l2 false base A2 k2 c2 HR2.out HGB.out G2.out HN.out.2.1 (by have := HN.out; have := HL2.out; have : l2.length = k2 := HL2.out; show k2 + 2 * s2.rest.length ≤ 900000; omega)).mono ?_
    rintro x u3 ⟨A3, k3, c3, rfl, hf, hw, hr, hg⟩
    rw [E3.out] at hr hg
    have F3 := Lib.hid (F2.out.trans W2.out hf)
    have W3 := Lib.hid (Ownn.trans W2.out hw F2.out.size)
    have HR3 := Lib.hid hr
    have G3 := Lib.hid hg
    have HL3 := Lib.hid hg.len
    clear hf hw hr hg
    go_wp2_with fail
    go_at_call 74
    refine (pmust_lit HR3.out [m_rp] #[.string ⟨#[41]⟩] 1 rfl rfl (by omega) rfl).mono ?_
    rintro x u4 ⟨rfl, ho, hr⟩
    rw [E4.out] at hr
    have F4 := Lib.hid (F3.out.only ho)
    have HR4 := Lib.hid hr
    have G4 := Lib.hid (G3.out.at_only keeps_nop ho HGB.out)
    clear ho hr
    go_wp2_with fail
    go_ret2
    refine ⟨A3, k3, c3, by rfl, F4.out, W3.out, HR4.out, G4.out, ?_⟩
    have h1 := HN.out; have h2 := HL3.out; have h3 := HN3.out.1; have h4 := HN4.out; show k3 + 2 * s4.rest.length ≤ _; omega
  · have E2 : Hid (exprR n l false s1 = (l2, s2)) := E2
    obtain ⟨rfl, rfl⟩ : l2 = l3 ∧ s2 = s3 := by have e3 : (l2, s2) = (l3, s3) := e3; exact ⟨congrArg Prod.fst e3, congrArg Prod.snd e3⟩
    have HN3 : Hid (s2.ok L) := G2O
    have h4 := must_go HN3.out [m_rp]
    rw [E4.out] at h4
    have HN4 : Hid (s4.rest.length ≤ s2.rest.length) := h4.2
    clear h hgb hgr hn hk hi e1 e2 e3 e4 g1 g1l g2o g2l g2c ih hgl h4
    go_enter Tryz.func166, Tryz.ntmps166
    go_wp2_with fail
    go_at_call 74
    refine (pmust_lit HR0.out [w_one, w_size, w_has, w_eq, w_less, w_add, w_sub, w_mul, w_not, w_and, w_or] #[.string ⟨#[111, 110, 101]⟩, .string ⟨#[115, 105, 122, 101]⟩, .string ⟨#[104, 97, 115]⟩, .string ⟨#[101, 113]⟩, .string ⟨#[108, 101, 115, 115]⟩, .string ⟨#[97, 100, 100]⟩, .string ⟨#[115, 117, 98]⟩, .string ⟨#[109, 117, 108]⟩, .string ⟨#[110, 111, 116]⟩, .string ⟨#[97, 110, 100]⟩, .string ⟨#[111, 114]⟩] 11 rfl rfl (by omega) rfl).mono ?_
    rintro x u1 ⟨hx, ho, hr⟩
    obtain rfl : x = .returned (.int .i64 ((9 : Nat) : Int)) := by rw [hx, E1.out] <;> rfl
    rw [E1.out] at hr
    have F1 := Lib.hid (Fram.of_only (v := .slice A k c) ho)
    have HR1 := Lib.hid hr
    have G1 := Lib.hid (HG0.out.at_only keeps_nop ho HGB.out)
    clear hx ho hr
    go_wp2_with fail
    go_at_call 157
    refine (HIH.out _ s1 l false base A k c HR1.out HGB.out G1.out HN.out.1 HN.out.2.2.1).mono ?_
    rintro x u2 ⟨A2, k2, c2, rfl, hf, hw, hr, hg⟩
    rw [E2.out] at hr hg
    have F2 := Lib.hid (F1.out.trans Ownn.refl hf)
    have W2 := Lib.hid (Ownn.trans (w := w) Ownn.refl hw F1.out.size)
    have HR2 := Lib.hid hr
    have G2 := Lib.hid hg
    have HL2 := Lib.hid hg.len
    clear hf hw hr hg
    go_wp2_with fail
    go_at_call 74
    refine (pmust_lit HR2.out [m_rp] #[.string ⟨#[41]⟩] 1 rfl rfl (by omega) rfl).mono ?_
    rintro x u4 ⟨rfl, ho, hr⟩
    rw [E4.out] at hr
    have F4 := Lib.hid (F2.out.only ho)
    have HR4 := Lib.hid hr
    have G4 := Lib.hid (G2.out.at_only keeps_nop ho HGB.out)
    clear ho hr
    go_wp2_with fail
    go_ret2
    refine ⟨A2, k2, c2, by rfl, F4.out, W2.out, HR4.out, G4.out, ?_⟩
    have h1 := HN.out; have h2 := HL2.out; have h4 := HN4.out; show k2 + 2 * s4.rest.length ≤ _; omega
  · have q3 : ((2 + (i : Int)) == 3) = false := by rw [beq_eq_false_iff_ne]; omega
    have q4 : ((2 + (i : Int)) == 4) = false := by rw [beq_eq_false_iff_ne]; omega
    have q5 : ((2 + (i : Int)) == 5) = false := by rw [beq_eq_false_iff_ne]; omega
    have q11 : ((2 + (i : Int)) == 11) = false := by rw [beq_eq_false_iff_ne]; omega
    have p3 : ((2 + (i : Int)) != 3) = true := by rw [bne_iff_ne]; omega
    have p4 : ((2 + (i : Int)) != 4) = true := by rw [bne_iff_ne]; omega
    have p11 : ((2 + (i : Int)) != 11) = true := by rw [bne_iff_ne]; omega
    have hwr : IntKind.i64.wrap (2 + (i : Int)) = 2 + (i : Int) := IntWalk.i64_in _ (by omega)
    have hbag : isBag (2 + (i : Int)) = false := by simp [isBag]; omega
    have htwo : isTwo (2 + (i : Int)) = true := by simp [isTwo]; omega
    rw [hbag] at E2
    rw [if_pos htwo] at e3
    clear hbag htwo hi1 hi2 hi3 hi9
    have g3 := expr_go n l2 false s2 G2O.out HN.out.2.1
    rw [e3] at g3
    obtain ⟨⟨g3o, g3l⟩, g3c⟩ := g3
    have HN3 : Hid (l3.length + 2 * s3.rest.length ≤ l2.length + 2 * s2.rest.length + 1 ∧ s3.ok L) := ⟨g3c, g3o⟩
    have E3 := Lib.hid e3
    clear g3o g3l g3c
    have h4 := must_go HN3.out.2 [m_rp]
    rw [E4.out] at h4
    have HN4 : Hid (s4.rest.length ≤ s3.rest.length) := h4.2
    clear h hgb hgr hn hk hi e1 e2 e3 e4 g1 g1l g2o g2l g2c ih hgl h4
    go_enter Tryz.func166, Tryz.ntmps166
    go_wp2_with fail
    go_at_call 74
    refine (pmust_lit HR0.out [w_one, w_size, w_has, w_eq, w_less, w_add, w_sub, w_mul, w_not, w_and, w_or] #[.string ⟨#[111, 110, 101]⟩, .string ⟨#[115, 105, 122, 101]⟩, .string ⟨#[104, 97, 115]⟩, .string ⟨#[101, 113]⟩, .string ⟨#[108, 101, 115, 115]⟩, .string ⟨#[97, 100, 100]⟩, .string ⟨#[115, 117, 98]⟩, .string ⟨#[109, 117, 108]⟩, .string ⟨#[110, 111, 116]⟩, .string ⟨#[97, 110, 100]⟩, .string ⟨#[111, 114]⟩] 11 rfl rfl (by omega) rfl).mono ?_
    rintro x u1 ⟨hx, ho, hr⟩
    obtain rfl : x = .returned (.int .i64 ((i : Nat) : Int)) := by rw [hx, E1.out] <;> rfl
    rw [E1.out] at hr
    have F1 := Lib.hid (Fram.of_only (v := .slice A k c) ho)
    have HR1 := Lib.hid hr
    have G1 := Lib.hid (HG0.out.at_only keeps_nop ho HGB.out)
    clear hx ho hr
    go_wp2_with fail
    go_at_call 157
    refine (HIH.out _ s1 l false base A k c HR1.out HGB.out G1.out HN.out.1 HN.out.2.2.1).mono ?_
    rintro x u2 ⟨A2, k2, c2, rfl, hf, hw, hr, hg⟩
    rw [E2.out] at hr hg
    have F2 := Lib.hid (F1.out.trans Ownn.refl hf)
    have W2 := Lib.hid (Ownn.trans (w := w) Ownn.refl hw F1.out.size)
    have HR2 := Lib.hid hr
    have G2 := Lib.hid hg
    have HL2 := Lib.hid hg.len
    clear hf hw hr hg
    go_wp2_with fail
    go_at_call 157
    refine (HIH.out _ s2 l2 false base A2 k2 c2 HR2.out HGB.out G2.out HN.out.2.1 (by have := HN.out; have := HL2.out; have : l2.length = k2 := HL2.out; show k2 + 2 * s2.rest.length ≤ 900000; omega)).mono ?_
    rintro x u3 ⟨A3, k3, c3, rfl, hf, hw, hr, hg⟩
    rw [E3.out] at hr hg
    have F3 := Lib.hid (F2.out.trans W2.out hf)
    have W3 := Lib.hid (Ownn.trans W2.out hw F2.out.size)
    have HR3 := Lib.hid hr
    have G3 := Lib.hid hg
    have HL3 := Lib.hid hg.len
    clear hf hw hr hg
    go_wp2_with fail
    go_at_call 74
    refine (pmust_lit HR3.out [m_rp] #[.string ⟨#[41]⟩] 1 rfl rfl (by omega) rfl).mono ?_
    rintro x u4 ⟨rfl, ho, hr⟩
    rw [E4.out] at hr
    have F4 := Lib.hid (F3.out.only ho)
    have HR4 := Lib.hid hr
    have G4 := Lib.hid (G3.out.at_only keeps_nop ho HGB.out)
    clear ho hr
    go_wp2_with fail
    go_ret2
    refine ⟨A3, k3, c3, by rfl, F4.out, W3.out, HR4.out, G4.out, ?_⟩
    have h1 := HN.out; have h2 := HL3.out; have h3 := HN3.out.1; have h4 := HN4.out; show k3 + 2 * s4.rest.length ≤ _; omega
end
end Go.Proofs.YtadjfkgnoklmiaaGreat
/- The parser: expressions, by steps. -/
namespace Go.Proofs.YtadjfkgnoklmiaaGreat
set_option linter.unusedVariables false
open Go.RowKit
section
variable {L g : Nat}
theorem heap_setc (w : World) (p : Addr) (v : Value) : (w.setCell p v).heap.size = w.heap.size := by simp [World.setCell]
theorem callR_op (ex : List Nod → Bool → Pz → List Nod × Pz) (l : List Nod) (s : Pz) : InI (callR ex l s).2.1 := by
  have := mustR_le [w_one, w_size, w_has, w_eq, w_less, w_add, w_sub, w_mul, w_not, w_and, w_or] s
  have h : (callR ex l s).2.1 = 2 + ((mustR [w_one, w_size, w_has, w_eq, w_less, w_add, w_sub, w_mul, w_not, w_and, w_or] s).1 : Int) := rfl
  rw [h]
  have h2 : (mustR [w_one, w_size, w_has, w_eq, w_less, w_add, w_sub, w_mul, w_not, w_and, w_or] s).1 ≤ 11 := this
  exact in_small (by omega) (by omega)
theorem nodR_bad {bag : Bool} {p m op vk vn ac : Int} {vs an : ByteArray} {am : Bool} {l : List Nod} {s : Pz} (hm : ((l ++ [(⟨op, ⟨vk, vn, vs⟩, ⟨ac, an, am⟩⟩ : Nod)]).length : Int) = m) (h : (bag != decide (op = 2)) = true) : nodR bag p l ⟨op, ⟨vk, vn, vs⟩, ⟨ac, an, am⟩⟩ s = (l ++ [⟨op, ⟨vk, vn, vs⟩, ⟨ac, an, am⟩⟩], failR 5 p (mostR m 32 s)) := by
  unfold nodR
  simp only [h, if_true, hm]
theorem nodR_good {bag : Bool} {p m op vk vn ac : Int} {vs an : ByteArray} {am : Bool} {l : List Nod} {s : Pz} (hm : ((l ++ [(⟨op, ⟨vk, vn, vs⟩, ⟨ac, an, am⟩⟩ : Nod)]).length : Int) = m) (h : (bag != decide (op = 2)) = false) : nodR bag p l ⟨op, ⟨vk, vn, vs⟩, ⟨ac, an, am⟩⟩ s = (l ++ [⟨op, ⟨vk, vn, vs⟩, ⟨ac, an, am⟩⟩], mostR m 32 s) := by
  unfold nodR
  simp only [h, Bool.false_eq_true, if_false, hm]
set_option maxHeartbeats 12800000 in
theorem expr_step (n : Nat) (ih : EOk L g n) : EOk L g (n + 1) := by
  intro w s l bag base A k c h hgb hgr hn hk
  have HIC := Lib.hid (call_step n ih)
  have HR0 := Lib.hid h
  have HR1 := Lib.hid (h.alloc (.cells #[.int .i64 0, .int .i64 0, .int .i64 0, .string ⟨#[]⟩, .int .i64 0, .string ⟨#[]⟩, .bool false] 72))
  have HGL : Hid (g < w.heap.size) := h.lt
  have HGB := Lib.hid hgb
  have HP := Lib.hid h.ok.hd_ok.2.1
  have G0 := Lib.hid (hgr.below keeps_nop ((Below.refl w.heap.size w).alloc (Nat.le_refl _) (.cells #[.int .i64 0, .int .i64 0, .int .i64 0, .string ⟨#[]⟩, .int .i64 0, .string ⟨#[]⟩, .bool false] 72)))
  have F0 := Lib.hid (Fram.of_only (v := .slice A k c) ((Only.refl (r := g) (w := w)).al (.cells #[.int .i64 0, .int .i64 0, .int .i64 0, .string ⟨#[]⟩, .int .i64 0, .string ⟨#[]⟩, .bool false] 72)))
  have B0 := Lib.hid (Ob.made w 72 #[.int .i64 0, .int .i64 0, .int .i64 0, .string ⟨#[]⟩, .int .i64 0, .string ⟨#[]⟩, .bool false])
  have HV := Lib.hid (hgr.own_lt (Nat.le_refl _))
  have hgl := hgr.len
  obtain ⟨i, s1, e1⟩ : ∃ i t, takeR [m_lp] s = (i, t) := ⟨_, _, rfl⟩
  have g1 := take_go h.ok [m_lp]
  have g1l := takeR_len h.ok [m_lp]
  rw [e1] at g1 g1l
  have g1l : s1.rest.length + (if i = 0 then 0 else 1) = s.rest.length := g1l
  have E1 := Lib.hid e1
  by_cases hi : 0 < i
  · have hi2 : decide ((0 : Int) < (i : Int)) = true := decide_eq_true (by omega)
    rw [if_neg (by omega)] at g1l
    obtain ⟨l2, op, s2, e2⟩ : ∃ a b d, callR (exprR n) l s1 = (a, b, d) := ⟨_, _, _, rfl⟩
    have hop := callR_op (exprR n) l s1
    rw [e2] at hop
    have HOK : Hid ((⟨op, ⟨0, 0, ⟨#[]⟩⟩, ⟨0, ⟨#[]⟩, false⟩⟩ : Nod).ok) := Lib.hid ⟨hop, zeroV_ok, zeroA_ok⟩
    have HE : Hid (exprR (n + 1) l bag s = nodR bag s.hd.p l2 ⟨op, ⟨0, 0, ⟨#[]⟩⟩, ⟨0, ⟨#[]⟩, false⟩⟩ s2) := by show _ = _; rw [exprR, e1, if_pos hi]; simp only [e2]; rfl
    have HN : Hid (s1.rest.length ≤ n ∧ k + 2 * s1.rest.length ≤ 899998) := ⟨by omega, by omega⟩
    have E2 := Lib.hid e2
    clear h hgb hgr hn hk e1 e2 g1 g1l ih hgl hop
    go_enter Tryz.func157, Tryz.ntmps157
    go_wp2_with fail
    go_at_call 112
    refine (phere_any HR0.out).mono ?_
    rintro x u0 ⟨rfl, rfl⟩
    go_wp2_with fail
    go_at_call 113
    refine (ptake_lit HR1.out [m_lp] #[.string ⟨#[40]⟩] 1 rfl rfl (by omega) (by first | rfl | (simp; done) | (simp [World.setCell]; done))).mono ?_
    rintro x u1 ⟨hx, ho, hr⟩
    obtain rfl : x = .returned (.int .i64 (i : Int)) := by rw [hx, E1.out] <;> rfl
    rw [E1.out] at hr
    have F1 := Lib.hid (F0.out.only ho)
    have HR2 := Lib.hid hr
    have G1 := Lib.hid (G0.out.at_only keeps_nop ho HGB.out)
    have B1 := Lib.hid (B0.out.keep (ho.heap B0.out.lt (by have := HGL.out; omega)))
    clear hx ho hr
    go_wp2_with fail
    go_at_call 166
    refine (HIC.out _ s1 l base A k c HR2.out HGB.out G1.out HN.out.1 HN.out.2).mono ?_
    rintro x u2 ⟨A2, k2, c2, hx, hf, hw, hr, hg, hl⟩
    rw [E2.out] at hx hr hg hl
    obtain rfl : x = .returned (.tuple #[.slice A2 k2 c2, .int .i64 op]) := hx
    have HK2 : Hid (k2 ≤ 900000) := by have := HN.out.2; show k2 ≤ 900000; have hl : k2 + 2 * s2.rest.length ≤ k + 2 * s1.rest.length + 2 := hl; omega
    have F2 := Lib.hid (F1.out.trans Ownn.refl hf)
    have W2 := Lib.hid (Ownn.trans (w := w) Ownn.refl hw F1.out.size)
    have HVc := Lib.hid (Ownn.not hw B1.out.lt HV.out)
    have B2 := Lib.hid (hf.ob B1.out (by have := HGL.out; omega) HV.out)
    have z0 := B2.out.cell 0
    have zf := B2.out.frozen 0
    have F3 := Lib.hid (F2.out.new (Nat.le_refl _) 0 (.int .i64 op))
    have HR3 := Lib.hid ((show Rd L u2 g s2 from hr).set HGL.out 0 (.int .i64 op))
    have G3 := Lib.hid ((show Gr 7 NoP u2 base 72 A2 k2 c2 l2 from hg).set HVc.out 0 (.int .i64 op))
    have B3 : Hid (Ob (u2.setCell ⟨w.heap.size, 0, none⟩ (.int .i64 op)) w.heap.size 72 #[.int .i64 op, .int .i64 0, .int .i64 0, .string ⟨#[]⟩, .int .i64 0, .string ⟨#[]⟩, .bool false]) := Lib.hid (by have := B2.out.put 0 (.int .i64 op); simpa using this)
    have y0 := B3.out.cell 0
    have y1 := B3.out.cell 1
    have y2 := B3.out.cell 2
    have y3 := B3.out.cell 3
    have y4 := B3.out.cell 4
    have y5 := B3.out.cell 5
    have y6 := B3.out.cell 6
    clear hf hw hr hg hl
    obtain ⟨w8, hw8⟩ : ∃ x, x = (u2.setCell ⟨w.heap.size, 0, none⟩ (.int .i64 op)) := ⟨_, rfl⟩
    rw [← hw8] at F3 HR3 G3 B3
    have hsz : w8.heap.size = u2.heap.size := by rw [hw8]; simp only [heap_setc]
    have hgl2 := G3.out.len
    have hlen : ((l2 ++ [(⟨op, ⟨0, 0, ⟨#[]⟩⟩, ⟨0, ⟨#[]⟩, false⟩⟩ : Nod)]).length : Int) = (k2 : Int) + 1 := by rw [List.length_append]; simp; omega
    have HLEN := Lib.hid hlen
    have hk63 : k2 < 1000000 := by have := HK2.out; omega
    obtain ⟨A5, c5, v5, r5, g5, b5, f5, o5⟩ := push_nod G3.out HOK.out hk63 (b := u2.heap.size) hsz g
    have F5 := Lib.hid (F3.out.trans W2.out f5)
    have W5 := Lib.hid (Ownn.trans W2.out o5 F3.out.size)
    have HV5 := Lib.hid (Ownn.not (w := w8) o5 B3.out.lt HVc.out)
    have B5 := Lib.hid (f5.ob B3.out (by have := HGL.out; show w.heap.size ≠ g; omega) HVc.out)
    have HR5 := Lib.hid (HR3.out.below b5 HGB.out)
    have R5 := Lib.hid r5
    have G5 := Lib.hid g5
    clear r5 g5 b5 f5 o5 hlen hgl2 hsz F3 HR3 G3 B3
    subst hw8
    go_wp2_with (at_builtin; refine wpList_append_run (o := ⟨some 27, _, _, _, _, _⟩) rfl _ _ _ _ rfl rfl rfl R5.out ?_)
    go_at_call 73
    refine (pmost_any HR5.out ((k2 : Int) + 1) 32).mono ?_
    rintro x u6 ⟨rfl, ho, hr⟩
    have F6 := Lib.hid (F5.out.only ho)
    have HR6 := Lib.hid hr
    have G6 := Lib.hid (G5.out.at_only keeps_nop ho HGB.out)
    have B6 := Lib.hid (B5.out.keep (ho.heap B5.out.lt (by have := HGL.out; omega)))
    have y0 := B6.out.cell 0
    clear ho hr
    cases bag
    · by_cases hop : op = 2
      · have HX := Lib.hid (nodR_bad (bag := false) (p := s.hd.p) (s := s2) HLEN.out (by rw [hop]; rfl))
        have hop2 : (op == 2) = true := by rw [hop]; rfl
        clear hop
        go_wp2_with fail
        go_at_call 111
        refine (pfail_any HR6.out (e := 5) (.inl rfl) HP.out).mono ?_
        rintro x u7 ⟨rfl, ho, hr⟩
        have F7 := Lib.hid (F6.out.only ho)
        have HR7 := Lib.hid hr
        have G7 := Lib.hid (G6.out.at_only keeps_nop ho HGB.out)
        clear ho hr
        go_wp2_with fail
        go_ret
        rw [HE.out, HX.out]
        exact ⟨A5, _, c5, rfl, F7.out, W5.out, HR7.out, G7.out⟩
      · have HX := Lib.hid (nodR_good (bag := false) (p := s.hd.p) (s := s2) HLEN.out (by rw [decide_eq_false hop]; rfl))
        have hop2 : (op == 2) = false := by rw [beq_eq_false_iff_ne]; exact hop
        clear hop
        go_wp2_with fail
        go_ret
        rw [HE.out, HX.out]
        exact ⟨A5, _, c5, rfl, F6.out, W5.out, HR6.out, G6.out⟩
    · by_cases hop : op = 2
      · have HX := Lib.hid (nodR_good (bag := true) (p := s.hd.p) (s := s2) HLEN.out (by rw [hop]; rfl))
        have hop2 : (op == 2) = true := by rw [hop]; rfl
        clear hop
        go_wp2_with fail
        go_ret
        rw [HE.out, HX.out]
        exact ⟨A5, _, c5, rfl, F6.out, W5.out, HR6.out, G6.out⟩
      · have HX := Lib.hid (nodR_bad (bag := true) (p := s.hd.p) (s := s2) HLEN.out (by rw [decide_eq_false hop]; rfl))
        have hop2 : (op == 2) = false := by rw [beq_eq_false_iff_ne]; exact hop
        clear hop
        go_wp2_with fail
        go_at_call 111
        refine (pfail_any HR6.out (e := 5) (.inl rfl) HP.out).mono ?_
        rintro x u7 ⟨rfl, ho, hr⟩
        have F7 := Lib.hid (F6.out.only ho)
        have HR7 := Lib.hid hr
        have G7 := Lib.hid (G6.out.at_only keeps_nop ho HGB.out)
        clear ho hr
        go_wp2_with fail
        go_ret
        rw [HE.out, HX.out]
        exact ⟨A5, _, c5, rfl, F7.out, W5.out, HR7.out, G7.out⟩
  · obtain rfl : i = 0 := by omega
    obtain ⟨⟨op, ⟨vk, vn, vs⟩, ⟨ac, an, am⟩⟩, s2, e2⟩ : ∃ a t, leafR s1 = (a, t) := ⟨_, _, rfl⟩
    have hok := leaf_ok g1.1
    rw [e2] at hok
    have HOK := Lib.hid hok
    have HE : Hid (exprR (n + 1) l bag s = nodR bag s.hd.p l ⟨op, ⟨vk, vn, vs⟩, ⟨ac, an, am⟩⟩ s2) := by show _ = _; rw [exprR, e1, if_neg hi]; simp only [e2]
    have HK2 : Hid (k ≤ 900000) := by show k ≤ 900000; omega
    have E2 := Lib.hid e2
    have HVc := HV
    clear h hgb hgr hn hk e1 e2 g1 g1l ih hgl hok hi
    go_enter Tryz.func157, Tryz.ntmps157
    go_wp2_with fail
    go_at_call 112
    refine (phere_any HR0.out).mono ?_
    rintro x u0 ⟨rfl, rfl⟩
    go_wp2_with fail
    go_at_call 113
    refine (ptake_lit HR1.out [m_lp] #[.string ⟨#[40]⟩] 1 rfl rfl (by omega) (by first | rfl | (simp; done) | (simp [World.setCell]; done))).mono ?_
    rintro x u1 ⟨hx, ho, hr⟩
    obtain rfl : x = .returned (.int .i64 ((0 : Nat) : Int)) := by rw [hx, E1.out] <;> rfl
    rw [E1.out] at hr
    have F1 := Lib.hid (F0.out.only ho)
    have HR2 := Lib.hid hr
    have G1 := Lib.hid (G0.out.at_only keeps_nop ho HGB.out)
    have B1 := Lib.hid (B0.out.keep (ho.heap B0.out.lt (by have := HGL.out; omega)))
    clear hx ho hr
    go_wp2_with fail
    go_at_call 167
    refine (pleaf_any HR2.out).mono ?_
    rintro x u2 ⟨hx, ho, hr⟩
    obtain rfl : x = .returned (.agg #[.int .i64 op, .int .i64 vk, .int .i64 vn, .string vs, .int .i64 ac, .string an, .bool am]) := by rw [hx, E2.out] <;> rfl
    rw [E2.out] at hr
    have F2 := Lib.hid (F1.out.only ho)
    have G2 := Lib.hid (G1.out.at_only keeps_nop ho HGB.out)
    have B2 := Lib.hid (B1.out.keep (ho.heap B1.out.lt (by have := HGL.out; omega)))
    have W2 : Hid (Ownn (.slice A k c) (.slice A k c) w) := Ownn.refl
    have HRa0 := Lib.hid hr
    have Fa0 := F2
    have Ga0 := G2
    have Ba0 := B2
    have p0 := Ba0.out.cell 0
    have pf0 := Ba0.out.frozen 0
    have Fa1 := Lib.hid (Fa0.out.new (Nat.le_refl _) 0 (.int .i64 op))
    have HRa1 := Lib.hid (HRa0.out.set HGL.out 0 (.int .i64 op))
    have Ga1 := Lib.hid (Ga0.out.set HVc.out 0 (.int .i64 op))
    have Ba1 : Hid (Ob (u2.setCell ⟨w.heap.size, 0, none⟩ (.int .i64 op)) w.heap.size 72 #[.int .i64 op, .int .i64 0, .int .i64 0, .string ⟨#[]⟩, .int .i64 0, .string ⟨#[]⟩, .bool false]) := Lib.hid (by have := Ba0.out.put 0 (.int .i64 op); simpa using this)
    have p1 := Ba1.out.cell 1
    have pf1 := Ba1.out.frozen 1
    have Fa2 := Lib.hid (Fa1.out.new (Nat.le_refl _) 1 (.int .i64 vk))
    have HRa2 := Lib.hid (HRa1.out.set HGL.out 1 (.int .i64 vk))
    have Ga2 := Lib.hid (Ga1.out.set HVc.out 1 (.int .i64 vk))
    have Ba2 : Hid (Ob ((u2.setCell ⟨w.heap.size, 0, none⟩ (.int .i64 op)).setCell ⟨w.heap.size, 1, none⟩ (.int .i64 vk)) w.heap.size 72 #[.int .i64 op, .int .i64 vk, .int .i64 0, .string ⟨#[]⟩, .int .i64 0, .string ⟨#[]⟩, .bool false]) := Lib.hid (by have := Ba1.out.put 1 (.int .i64 vk); simpa using this)
    have p2 := Ba2.out.cell 2
    have pf2 := Ba2.out.frozen 2
    have Fa3 := Lib.hid (Fa2.out.new (Nat.le_refl _) 2 (.int .i64 vn))
    have HRa3 := Lib.hid (HRa2.out.set HGL.out 2 (.int .i64 vn))
    have Ga3 := Lib.hid (Ga2.out.set HVc.out 2 (.int .i64 vn))
    have Ba3 : Hid (Ob (((u2.setCell ⟨w.heap.size, 0, none⟩ (.int .i64 op)).setCell ⟨w.heap.size, 1, none⟩ (.int .i64 vk)).setCell ⟨w.heap.size, 2, none⟩ (.int .i64 vn)) w.heap.size 72 #[.int .i64 op, .int .i64 vk, .int .i64 vn, .string ⟨#[]⟩, .int .i64 0, .string ⟨#[]⟩, .bool false]) := Lib.hid (by have := Ba2.out.put 2 (.int .i64 vn); simpa using this)
    have p3 := Ba3.out.cell 3
    have pf3 := Ba3.out.frozen 3
    have Fa4 := Lib.hid (Fa3.out.new (Nat.le_refl _) 3 (.string vs))
    have HRa4 := Lib.hid (HRa3.out.set HGL.out 3 (.string vs))
    have Ga4 := Lib.hid (Ga3.out.set HVc.out 3 (.string vs))
    have Ba4 : Hid (Ob ((((u2.setCell ⟨w.heap.size, 0, none⟩ (.int .i64 op)).setCell ⟨w.heap.size, 1, none⟩ (.int .i64 vk)).setCell ⟨w.heap.size, 2, none⟩ (.int .i64 vn)).setCell ⟨w.heap.size, 3, none⟩ (.string vs)) w.heap.size 72 #[.int .i64 op, .int .i64 vk, .int .i64 vn, .string vs, .int .i64 0, .string ⟨#[]⟩, .bool false]) := Lib.hid (by have := Ba3.out.put 3 (.string vs); simpa using this)
    have p4 := Ba4.out.cell 4
    have pf4 := Ba4.out.frozen 4
    have Fa5 := Lib.hid (Fa4.out.new (Nat.le_refl _) 4 (.int .i64 ac))
    have HRa5 := Lib.hid (HRa4.out.set HGL.out 4 (.int .i64 ac))
    have Ga5 := Lib.hid (Ga4.out.set HVc.out 4 (.int .i64 ac))
    have Ba5 : Hid (Ob (((((u2.setCell ⟨w.heap.size, 0, none⟩ (.int .i64 op)).setCell ⟨w.heap.size, 1, none⟩ (.int .i64 vk)).setCell ⟨w.heap.size, 2, none⟩ (.int .i64 vn)).setCell ⟨w.heap.size, 3, none⟩ (.string vs)).setCell ⟨w.heap.size, 4, none⟩ (.int .i64 ac)) w.heap.size 72 #[.int .i64 op, .int .i64 vk, .int .i64 vn, .string vs, .int .i64 ac, .string ⟨#[]⟩, .bool false]) := Lib.hid (by have := Ba4.out.put 4 (.int .i64 ac); simpa using this)
    have p5 := Ba5.out.cell 5
    have pf5 := Ba5.out.frozen 5
    have Fa6 := Lib.hid (Fa5.out.new (Nat.le_refl _) 5 (.string an))
    have HRa6 := Lib.hid (HRa5.out.set HGL.out 5 (.string an))
    have Ga6 := Lib.hid (Ga5.out.set HVc.out 5 (.string an))
    have Ba6 : Hid (Ob ((((((u2.setCell ⟨w.heap.size, 0, none⟩ (.int .i64 op)).setCell ⟨w.heap.size, 1, none⟩ (.int .i64 vk)).setCell ⟨w.heap.size, 2, none⟩ (.int .i64 vn)).setCell ⟨w.heap.size, 3, none⟩ (.string vs)).setCell ⟨w.heap.size, 4, none⟩ (.int .i64 ac)).setCell ⟨w.heap.size, 5, none⟩ (.string an)) w.heap.size 72 #[.int .i64 op, .int .i64 vk, .int .i64 vn, .string vs, .int .i64 ac, .string an, .bool false]) := Lib.hid (by have := Ba5.out.put 5 (.string an); simpa using this)
    have p6 := Ba6.out.cell 6
    have pf6 := Ba6.out.frozen 6
    have Fa7 := Lib.hid (Fa6.out.new (Nat.le_refl _) 6 (.bool am))
    have HRa7 := Lib.hid (HRa6.out.set HGL.out 6 (.bool am))
    have Ga7 := Lib.hid (Ga6.out.set HVc.out 6 (.bool am))
    have Ba7 : Hid (Ob (((((((u2.setCell ⟨w.heap.size, 0, none⟩ (.int .i64 op)).setCell ⟨w.heap.size, 1, none⟩ (.int .i64 vk)).setCell ⟨w.heap.size, 2, none⟩ (.int .i64 vn)).setCell ⟨w.heap.size, 3, none⟩ (.string vs)).setCell ⟨w.heap.size, 4, none⟩ (.int .i64 ac)).setCell ⟨w.heap.size, 5, none⟩ (.string an)).setCell ⟨w.heap.size, 6, none⟩ (.bool am)) w.heap.size 72 #[.int .i64 op, .int .i64 vk, .int .i64 vn, .string vs, .int .i64 ac, .string an, .bool am]) := Lib.hid (by have := Ba6.out.put 6 (.bool am); simpa using this)
    have y0 := Ba7.out.cell 0
    have y1 := Ba7.out.cell 1
    have y2 := Ba7.out.cell 2
    have y3 := Ba7.out.cell 3
    have y4 := Ba7.out.cell 4
    have y5 := Ba7.out.cell 5
    have y6 := Ba7.out.cell 6
    clear hx ho hr
    obtain ⟨w8, hw8⟩ : ∃ x, x = (((((((u2.setCell ⟨w.heap.size, 0, none⟩ (.int .i64 op)).setCell ⟨w.heap.size, 1, none⟩ (.int .i64 vk)).setCell ⟨w.heap.size, 2, none⟩ (.int .i64 vn)).setCell ⟨w.heap.size, 3, none⟩ (.string vs)).setCell ⟨w.heap.size, 4, none⟩ (.int .i64 ac)).setCell ⟨w.heap.size, 5, none⟩ (.string an)).setCell ⟨w.heap.size, 6, none⟩ (.bool am)) := ⟨_, rfl⟩
    rw [← hw8] at Fa7 HRa7 Ga7 Ba7
    have hsz : w8.heap.size = u2.heap.size := by rw [hw8]; simp only [heap_setc]
    have hgl2 := Ga7.out.len
    have hlen : ((l ++ [(⟨op, ⟨vk, vn, vs⟩, ⟨ac, an, am⟩⟩ : Nod)]).length : Int) = (k : Int) + 1 := by rw [List.length_append]; simp; omega
    have HLEN := Lib.hid hlen
    have hk63 : k < 1000000 := by have := HK2.out; omega
    obtain ⟨A5, c5, v5, r5, g5, b5, f5, o5⟩ := push_nod Ga7.out HOK.out hk63 (b := u2.heap.size) hsz g
    have F5 := Lib.hid (Fa7.out.trans W2.out f5)
    have W5 := Lib.hid (Ownn.trans W2.out o5 Fa7.out.size)
    have HV5 := Lib.hid (Ownn.not (w := w8) o5 Ba7.out.lt HVc.out)
    have B5 := Lib.hid (f5.ob Ba7.out (by have := HGL.out; show w.heap.size ≠ g; omega) HVc.out)
    have HR5 := Lib.hid (HRa7.out.below b5 HGB.out)
    have R5 := Lib.hid r5
    have G5 := Lib.hid g5
    clear r5 g5 b5 f5 o5 hlen hgl2 hsz Fa7 HRa7 Ga7 Ba7
    subst hw8
    go_wp2_with (at_builtin; refine wpList_append_run (o := ⟨some 27, _, _, _, _, _⟩) rfl _ _ _ _ rfl rfl rfl R5.out ?_)
    go_at_call 73
    refine (pmost_any HR5.out ((k : Int) + 1) 32).mono ?_
    rintro x u6 ⟨rfl, ho, hr⟩
    have F6 := Lib.hid (F5.out.only ho)
    have HR6 := Lib.hid hr
    have G6 := Lib.hid (G5.out.at_only keeps_nop ho HGB.out)
    have B6 := Lib.hid (B5.out.keep (ho.heap B5.out.lt (by have := HGL.out; omega)))
    have y0 := B6.out.cell 0
    clear ho hr
    cases bag
    · by_cases hop : op = 2
      · have HX := Lib.hid (nodR_bad (bag := false) (p := s.hd.p) (s := s2) HLEN.out (by rw [hop]; rfl))
        have hop2 : (op == 2) = true := by rw [hop]; rfl
        clear hop
        go_wp2_with fail
        go_at_call 111
        refine (pfail_any HR6.out (e := 5) (.inl rfl) HP.out).mono ?_
        rintro x u7 ⟨rfl, ho, hr⟩
        have F7 := Lib.hid (F6.out.only ho)
        have HR7 := Lib.hid hr
        have G7 := Lib.hid (G6.out.at_only keeps_nop ho HGB.out)
        clear ho hr
        go_wp2_with fail
        go_ret
        rw [HE.out, HX.out]
        exact ⟨A5, _, c5, rfl, F7.out, W5.out, HR7.out, G7.out⟩
      · have HX := Lib.hid (nodR_good (bag := false) (p := s.hd.p) (s := s2) HLEN.out (by rw [decide_eq_false hop]; rfl))
        have hop2 : (op == 2) = false := by rw [beq_eq_false_iff_ne]; exact hop
        clear hop
        go_wp2_with fail
        go_ret
        rw [HE.out, HX.out]
        exact ⟨A5, _, c5, rfl, F6.out, W5.out, HR6.out, G6.out⟩
    · by_cases hop : op = 2
      · have HX := Lib.hid (nodR_good (bag := true) (p := s.hd.p) (s := s2) HLEN.out (by rw [hop]; rfl))
        have hop2 : (op == 2) = true := by rw [hop]; rfl
        clear hop
        go_wp2_with fail
        go_ret
        rw [HE.out, HX.out]
        exact ⟨A5, _, c5, rfl, F6.out, W5.out, HR6.out, G6.out⟩
      · have HX := Lib.hid (nodR_bad (bag := true) (p := s.hd.p) (s := s2) HLEN.out (by rw [decide_eq_false hop]; rfl))
        have hop2 : (op == 2) = false := by rw [beq_eq_false_iff_ne]; exact hop
        clear hop
        go_wp2_with fail
        go_at_call 111
        refine (pfail_any HR6.out (e := 5) (.inl rfl) HP.out).mono ?_
        rintro x u7 ⟨rfl, ho, hr⟩
        have F7 := Lib.hid (F6.out.only ho)
        have HR7 := Lib.hid hr
        have G7 := Lib.hid (G6.out.at_only keeps_nop ho HGB.out)
        clear ho hr
        go_wp2_with fail
        go_ret
        rw [HE.out, HX.out]
        exact ⟨A5, _, c5, rfl, F7.out, W5.out, HR7.out, G7.out⟩
theorem expr_all : ∀ n, EOk L g n
  | 0 => fun w s l bag base A k c h _ _ hn _ => by have := h.ok.pos; omega
  | n + 1 => expr_step n (expr_all n)
set_option maxHeartbeats 800000 in
theorem pcond_any {w : World} {s : Pz} (h : Rd L w g s) : Calls Tryz.prog 148 #[.pointer (some ⟨g, 0, none⟩)] w fun x w' => ∃ A n c, x = .returned (.slice A n c) ∧ Only g w w' ∧ Rd L w' g (condR s).2 ∧ Nds w' (fun b => w.heap.size ≤ b) A n c (condR s).1 := by
  have HR0 := Lib.hid h
  obtain ⟨i, s1, e1⟩ : ∃ i t, takeR [w_if] s = (i, t) := ⟨_, _, rfl⟩
  have E1 := Lib.hid e1
  have hl0 : s.rest.length ≤ 5000 := h.ok.2.2.1.1
  have hgo := take_go h.ok [w_if]
  rw [e1] at hgo
  by_cases hi : i = 0
  · have HE : Hid (condR s = ([], s1)) := by show _ = _; unfold condR; rw [e1, if_pos hi]
    rw [HE.out]
    subst hi
    clear h e1 hgo
    go_enter Tryz.func148, Tryz.ntmps148
    go_wp2_with fail
    go_at_call 113
    refine (ptake_lit HR0.out [w_if] #[.string ⟨#[105, 102]⟩] 1 rfl rfl (by omega) rfl).mono ?_
    rintro x u1 ⟨hx, ho, hr⟩
    obtain rfl : x = .returned (.int .i64 ((0 : Nat) : Int)) := by rw [hx, E1.out] <;> rfl
    rw [E1.out] at hr
    have HO1 := Lib.hid ho
    have HR1 := Lib.hid hr
    clear ho hr hx
    go_wp2_with fail
    go_ret
    exact ⟨none, 0, 0, rfl, HO1.out, HR1.out, Rw.nil_ _ _ _ _⟩
  · have HE : Hid (condR s = exprR s1.rest.length [] false s1) := by show _ = _; unfold condR; rw [e1, if_neg hi]
    rw [HE.out]
    have HLE : Hid (s1.rest.length ≤ 5000 ∧ (exprR s1.rest.length [] false s1).1.length ≤ 20000) := by
      have h1 : s1.rest.length ≤ s.rest.length := hgo.2
      have h2 := (expr_go s1.rest.length [] false s1 hgo.1 (Nat.le_refl _)).2
      simp only [List.length_nil] at h2
      exact ⟨by omega, by omega⟩
    have hi2 : ((i : Int) == 0) = false := by rw [beq_eq_false_iff_ne]; omega
    have HGL : Hid (g < w.heap.size) := h.lt
    clear h e1 hgo
    go_enter Tryz.func148, Tryz.ntmps148
    go_wp2_with fail
    go_at_call 113
    refine (ptake_lit HR0.out [w_if] #[.string ⟨#[105, 102]⟩] 1 rfl rfl (by omega) rfl).mono ?_
    rintro x u1 ⟨hx, ho, hr⟩
    obtain rfl : x = .returned (.int .i64 (i : Int)) := by rw [hx, E1.out] <;> rfl
    rw [E1.out] at hr
    have HO1 := Lib.hid ho
    have HR1 := Lib.hid hr
    clear ho hr hx
    go_wp2_with fail
    go_at_call 157
    refine (expr_all s1.rest.length u1 s1 [] false w.heap.size none 0 0 HR1.out HGL.out (Gr.nil _ _ HO1.out.size) (Nat.le_refl _) (by have := HLE.out; omega)).mono ?_
    rintro x u2 ⟨A2, k2, c2, rfl, hf, hw, hr, hg⟩
    have HO2 : Hid (Only g w u2) := ⟨hf.1.trans HO1.out.os, hf.2.1.trans HO1.out.tape, hf.2.2.1.trans HO1.out.output, Nat.le_trans HO1.out.size hf.size, fun b hb hne => (hf.heap (Nat.lt_of_lt_of_le hb HO1.out.size) (fun e => hne (by rw [e])) (by simp [Value.ownBlock])).trans (HO1.out.block b hb hne)⟩
    have HR2 := Lib.hid hr
    have HG2 := Lib.hid hg
    have HL2 := Lib.hid hg.len
    clear hf hw hr hg
    go_wp2_with fail
    go_ret
    exact ⟨A2, k2, c2, rfl, HO2.out, HR2.out, HG2.out.rw keeps_nop (by have := HL2.out; have := HLE.out; omega)⟩
end
end Go.Proofs.YtadjfkgnoklmiaaGreat
/- The parser: rules. -/
namespace Go.Proofs.YtadjfkgnoklmiaaGreat
set_option linter.unusedVariables false
open Go.RowKit

theorem rule_ret {fn : Func} {t : Tmp} {tmps : Array Value} {w : World} {g : Nat} {cs : Array Value} (h : fn.results = #[.cell t 58]) (hp : tmps.getD t undef = .pointer (some ⟨g, 0, none⟩)) (hg : Ob w g 58 cs) (h3 : cs.size = 5) :
    (results fn tmps).run Tryz.prog w = .ok (.agg cs) w := results_cell_row h tmps w g _ _ (0, 0) _ hp hg Tryz.underlying58 rfl (by rw [h3]; kernel_rfl)
theorem ruleR_eq {s s1 s2 s3 s4 s5 s6 : Pz} {i j : Nat} {nm : ByteArray} {t : Tgt} {c : List Nod} {o : List Dut} (h1 : mustR [w_permit, w_deny] s = (i, s1)) (h2 : nameR s1 = (nm, s2)) (h3 : targetR s2 = (t, s3)) (h4 : condR s3 = (c, s4)) (h5 : dutsR s4 = (o, s5)) (h6 : mustR [m_semi] s5 = (j, s6)) :
    ruleR s = (⟨nm, decide (i = 2), t, c, o⟩, s6) := by
  unfold ruleR
  simp only [h1, h2, h3, h4, h5, h6]
section
variable {L g : Nat} {w : World} {s : Pz}
set_option maxHeartbeats 3200000 in
theorem prule_any (h : Rd L w g s) : Calls Tryz.prog 117 #[.pointer (some ⟨g, 0, none⟩)] w fun x w' => ∃ A1 n1 c1 A2 n2 c2 A3 n3 c3, x = .returned (.agg #[.string (ruleR s).1.id, .bool (ruleR s).1.deny, .slice A1 n1 c1, .slice A2 n2 c2, .slice A3 n3 c3]) ∧ Only g w w' ∧ Rd L w' g (ruleR s).2 ∧
    (Tg w' (fun b => w.heap.size ≤ b) A1 n1 c1 (ruleR s).1.tg ∧ Nds w' (fun b => w.heap.size ≤ b) A2 n2 c2 (ruleR s).1.cond ∧ Dus w' (fun b => w.heap.size ≤ b) A3 n3 c3 (ruleR s).1.ob ∧ (ruleR s).1.id.size ≤ maxLen) := by
  obtain ⟨i, s1, e1⟩ : ∃ x y, mustR [w_permit, w_deny] s = (x, y) := ⟨_, _, rfl⟩
  obtain ⟨nm, s2, e2⟩ : ∃ x y, nameR s1 = (x, y) := ⟨_, _, rfl⟩
  obtain ⟨tt, s3, e3⟩ : ∃ x y, targetR s2 = (x, y) := ⟨_, _, rfl⟩
  obtain ⟨cc, s4, e4⟩ : ∃ x y, condR s3 = (x, y) := ⟨_, _, rfl⟩
  obtain ⟨dd, s5, e5⟩ : ∃ x y, dutsR s4 = (x, y) := ⟨_, _, rfl⟩
  obtain ⟨j, s6, e6⟩ : ∃ x y, mustR [m_semi] s5 = (x, y) := ⟨_, _, rfl⟩
  rw [ruleR_eq e1 e2 e3 e4 e5 e6]
  have HNM : Hid (nm.size ≤ maxLen) := by have h1 := h.ok.must [w_permit, w_deny]; rw [e1] at h1; have := nameR_size h1; rw [e2] at this; exact this
  have E1 := Lib.hid e1
  have E2 := Lib.hid e2
  have E3 := Lib.hid e3
  have E4 := Lib.hid e4
  have E5 := Lib.hid e5
  have E6 := Lib.hid e6
  have hq := eq2 i
  have HG : Hid (g < w.heap.size) := h.lt
  have HBr_1 : Hid (Ob (w.alloc (.cells #[.string ⟨#[]⟩, .bool false, .slice none 0 0, .slice none 0 0, .slice none 0 0] 58)) (w.heap.size) 58 #[.string ⟨#[]⟩, .bool false, .slice none 0 0, .slice none 0 0, .slice none 0 0]) := Lib.hid (by have := Ob.made w 58 #[.string ⟨#[]⟩, .bool false, .slice none 0 0, .slice none 0 0, .slice none 0 0]; simpa using this)
  have HBr_2 := Lib.hid (HBr_1.out.keep (Below.heap_alloc (w.alloc (.cells #[.string ⟨#[]⟩, .bool false, .slice none 0 0, .slice none 0 0, .slice none 0 0] 58)) (.cells #[.string ⟨#[]⟩, .bool false, .slice none 0 0, .slice none 0 0, .slice none 0 0] 58) _ HBr_1.out.lt))
  have HBu_2 : Hid (Ob ((w.alloc (.cells #[.string ⟨#[]⟩, .bool false, .slice none 0 0, .slice none 0 0, .slice none 0 0] 58)).alloc (.cells #[.string ⟨#[]⟩, .bool false, .slice none 0 0, .slice none 0 0, .slice none 0 0] 58)) (w.heap.size + 1) 58 #[.string ⟨#[]⟩, .bool false, .slice none 0 0, .slice none 0 0, .slice none 0 0]) := Lib.hid (by have := Ob.made (w.alloc (.cells #[.string ⟨#[]⟩, .bool false, .slice none 0 0, .slice none 0 0, .slice none 0 0] 58)) 58 #[.string ⟨#[]⟩, .bool false, .slice none 0 0, .slice none 0 0, .slice none 0 0]; simpa using this)
  have HR0 := Lib.hid ((h.alloc (.cells #[.string ⟨#[]⟩, .bool false, .slice none 0 0, .slice none 0 0, .slice none 0 0] 58)).alloc (.cells #[.string ⟨#[]⟩, .bool false, .slice none 0 0, .slice none 0 0, .slice none 0 0] 58))
  have HO0 := Lib.hid (((Only.refl (r := g) (w := w)).al (.cells #[.string ⟨#[]⟩, .bool false, .slice none 0 0, .slice none 0 0, .slice none 0 0] 58)).al (.cells #[.string ⟨#[]⟩, .bool false, .slice none 0 0, .slice none 0 0, .slice none 0 0] 58))
  clear h e1 e2 e3 e4 e5 e6
  go_enter Tryz.func117, Tryz.ntmps117
  go_wp2_with fail
  go_at_call 74
  refine (pmust_lit HR0.out [w_permit, w_deny] #[.string ⟨#[112, 101, 114, 109, 105, 116]⟩, .string ⟨#[100, 101, 110, 121]⟩] 2 rfl rfl (by omega) (by first | rfl | (simp; done) | (simp [World.setCell]; done))).mono ?_
  rintro x u3 ⟨hx, ho, hr⟩
  obtain rfl : x = .returned (.int .i64 (i : Int)) := by rw [hx, E1.out] <;> rfl
  rw [E1.out] at hr
  clear hx
  have HO3 := Lib.hid (HO0.out.trans ho)
  have HR3 := Lib.hid hr
  have HBr_3 := Lib.hid (HBr_2.out.keep (ho.heap HBr_2.out.lt (by have := HG.out; omega)))
  have HBu_3 := Lib.hid (HBu_2.out.keep (ho.heap HBu_2.out.lt (by have := HG.out; omega)))
  clear ho hr
  have c4 := HBu_3.out.cell 1
  have f4 := HBu_3.out.frozen 1
  have HO4 := Lib.hid (HO3.out.new (r := w.heap.size + 1) (by have := HG.out; omega) 1 (.bool (decide (i = 2))))
  have HR4 := Lib.hid (HR3.out.set (r := w.heap.size + 1) (by have := HG.out; omega) 1 (.bool (decide (i = 2))))
  have HBr_4 := Lib.hid (HBr_3.out.keep (Below.heap_setCell u3 ⟨w.heap.size + 1, 1, none⟩ (.bool (decide (i = 2))) _ (by show w.heap.size ≠ w.heap.size + 1; have := HG.out; omega)))
  have HBu_4 : Hid (Ob (u3.setCell ⟨w.heap.size + 1, 1, none⟩ (.bool (decide (i = 2)))) (w.heap.size + 1) 58 #[.string ⟨#[]⟩, .bool (decide (i = 2)), .slice none 0 0, .slice none 0 0, .slice none 0 0]) := Lib.hid (by have := HBu_3.out.put 1 (.bool (decide (i = 2))); simpa using this)
  go_wp2_with fail
  go_at_call 75
  refine (pname_any HR4.out).mono ?_
  rintro x u5 ⟨hx, ho, hr⟩
  obtain rfl : x = .returned (.string nm) := by rw [hx, E2.out] <;> rfl
  rw [E2.out] at hr
  clear hx
  have HO5 := Lib.hid (HO4.out.trans ho)
  have HR5 := Lib.hid hr
  have HBr_5 := Lib.hid (HBr_4.out.keep (ho.heap HBr_4.out.lt (by have := HG.out; omega)))
  have HBu_5 := Lib.hid (HBu_4.out.keep (ho.heap HBu_4.out.lt (by have := HG.out; omega)))
  clear ho hr
  have c6 := HBu_5.out.cell 0
  have f6 := HBu_5.out.frozen 0
  have HO6 := Lib.hid (HO5.out.new (r := w.heap.size + 1) (by have := HG.out; omega) 0 (.string nm))
  have HR6 := Lib.hid (HR5.out.set (r := w.heap.size + 1) (by have := HG.out; omega) 0 (.string nm))
  have HBr_6 := Lib.hid (HBr_5.out.keep (Below.heap_setCell u5 ⟨w.heap.size + 1, 0, none⟩ (.string nm) _ (by show w.heap.size ≠ w.heap.size + 1; have := HG.out; omega)))
  have HBu_6 : Hid (Ob (u5.setCell ⟨w.heap.size + 1, 0, none⟩ (.string nm)) (w.heap.size + 1) 58 #[.string nm, .bool (decide (i = 2)), .slice none 0 0, .slice none 0 0, .slice none 0 0]) := Lib.hid (by have := HBu_5.out.put 0 (.string nm); simpa using this)
  go_wp2_with fail
  go_at_call 76
  refine (ptarget_any HR6.out).mono ?_
  rintro x u7 ⟨A1, n1, c1, rfl, ho, hr, ht1⟩
  rw [E3.out] at hr ht1
  have HO7 := Lib.hid (HO6.out.trans ho)
  have HR7 := Lib.hid hr
  have HBr_7 := Lib.hid (HBr_6.out.keep (ho.heap HBr_6.out.lt (by have := HG.out; omega)))
  have HBu_7 := Lib.hid (HBu_6.out.keep (ho.heap HBu_6.out.lt (by have := HG.out; omega)))
  have HTt1_7 := Lib.hid (ht1.keep (Kept.refl _ _) (R' := fun b => w.heap.size + 2 ≤ b) (fun b hb _ => by have hb : ((u5.setCell ⟨w.heap.size + 1, 0, none⟩ (.string nm))).heap.size ≤ b := hb; have := HBu_6.out.lt; show w.heap.size + 2 ≤ b; omega))
  clear ho hr ht1
  have c8 := HBu_7.out.cell 2
  have f8 := HBu_7.out.frozen 2
  have HO8 := Lib.hid (HO7.out.new (r := w.heap.size + 1) (by have := HG.out; omega) 2 (.slice A1 n1 c1))
  have HR8 := Lib.hid (HR7.out.set (r := w.heap.size + 1) (by have := HG.out; omega) 2 (.slice A1 n1 c1))
  have HBr_8 := Lib.hid (HBr_7.out.keep (Below.heap_setCell u7 ⟨w.heap.size + 1, 2, none⟩ (.slice A1 n1 c1) _ (by show w.heap.size ≠ w.heap.size + 1; have := HG.out; omega)))
  have HBu_8 : Hid (Ob (u7.setCell ⟨w.heap.size + 1, 2, none⟩ (.slice A1 n1 c1)) (w.heap.size + 1) 58 #[.string nm, .bool (decide (i = 2)), .slice A1 n1 c1, .slice none 0 0, .slice none 0 0]) := Lib.hid (by have := HBu_7.out.put 2 (.slice A1 n1 c1); simpa using this)
  have HTt1_8 := Lib.hid (HTt1_7.out.keep (Only.kept9 ((Only.refl (r := w.heap.size + 1) (w := u7)).setCell (p := ⟨w.heap.size + 1, 2, none⟩) rfl (.slice A1 n1 c1)) (fun b hb => by have hb : w.heap.size + 2 ≤ b := hb; show b ≠ w.heap.size + 1; omega)) (fun _ h _ => h))
  go_wp2_with fail
  go_at_call 148
  refine (pcond_any HR8.out).mono ?_
  rintro x u9 ⟨A2, n2, c2, rfl, ho, hr, ht2⟩
  rw [E4.out] at hr ht2
  have HO9 := Lib.hid (HO8.out.trans ho)
  have HR9 := Lib.hid hr
  have HBr_9 := Lib.hid (HBr_8.out.keep (ho.heap HBr_8.out.lt (by have := HG.out; omega)))
  have HBu_9 := Lib.hid (HBu_8.out.keep (ho.heap HBu_8.out.lt (by have := HG.out; omega)))
  have HTt1_9 := Lib.hid (HTt1_8.out.keep (ho.kept9 (fun b hb => by have := HG.out; have hb : w.heap.size + 2 ≤ b := hb; show b ≠ g; omega)) (fun _ h _ => h))
  have HTt2_9 := Lib.hid (ht2.keep (Kept.refl _ _) (R' := fun b => w.heap.size + 2 ≤ b) (fun b hb _ => by have hb : ((u7.setCell ⟨w.heap.size + 1, 2, none⟩ (.slice A1 n1 c1))).heap.size ≤ b := hb; have := HBu_8.out.lt; show w.heap.size + 2 ≤ b; omega))
  clear ho hr ht2
  have c10 := HBu_9.out.cell 3
  have f10 := HBu_9.out.frozen 3
  have HO10 := Lib.hid (HO9.out.new (r := w.heap.size + 1) (by have := HG.out; omega) 3 (.slice A2 n2 c2))
  have HR10 := Lib.hid (HR9.out.set (r := w.heap.size + 1) (by have := HG.out; omega) 3 (.slice A2 n2 c2))
  have HBr_10 := Lib.hid (HBr_9.out.keep (Below.heap_setCell u9 ⟨w.heap.size + 1, 3, none⟩ (.slice A2 n2 c2) _ (by show w.heap.size ≠ w.heap.size + 1; have := HG.out; omega)))
  have HBu_10 : Hid (Ob (u9.setCell ⟨w.heap.size + 1, 3, none⟩ (.slice A2 n2 c2)) (w.heap.size + 1) 58 #[.string nm, .bool (decide (i = 2)), .slice A1 n1 c1, .slice A2 n2 c2, .slice none 0 0]) := Lib.hid (by have := HBu_9.out.put 3 (.slice A2 n2 c2); simpa using this)
  have HTt1_10 := Lib.hid (HTt1_9.out.keep (Only.kept9 ((Only.refl (r := w.heap.size + 1) (w := u9)).setCell (p := ⟨w.heap.size + 1, 3, none⟩) rfl (.slice A2 n2 c2)) (fun b hb => by have hb : w.heap.size + 2 ≤ b := hb; show b ≠ w.heap.size + 1; omega)) (fun _ h _ => h))
  have HTt2_10 := Lib.hid (HTt2_9.out.keep (Only.kept9 ((Only.refl (r := w.heap.size + 1) (w := u9)).setCell (p := ⟨w.heap.size + 1, 3, none⟩) rfl (.slice A2 n2 c2)) (fun b hb => by have hb : w.heap.size + 2 ≤ b := hb; show b ≠ w.heap.size + 1; omega)) (fun _ h _ => h))
  go_wp2_with fail
  go_at_call 79
  refine (pduts_any HR10.out).mono ?_
  rintro x u11 ⟨A3, n3, c3, rfl, ho, hr, ht3⟩
  rw [E5.out] at hr ht3
  have HO11 := Lib.hid (HO10.out.trans ho)
  have HR11 := Lib.hid hr
  have HBr_11 := Lib.hid (HBr_10.out.keep (ho.heap HBr_10.out.lt (by have := HG.out; omega)))
  have HBu_11 := Lib.hid (HBu_10.out.keep (ho.heap HBu_10.out.lt (by have := HG.out; omega)))
  have HTt1_11 := Lib.hid (HTt1_10.out.keep (ho.kept9 (fun b hb => by have := HG.out; have hb : w.heap.size + 2 ≤ b := hb; show b ≠ g; omega)) (fun _ h _ => h))
  have HTt2_11 := Lib.hid (HTt2_10.out.keep (ho.kept9 (fun b hb => by have := HG.out; have hb : w.heap.size + 2 ≤ b := hb; show b ≠ g; omega)) (fun _ h _ => h))
  have HTt3_11 := Lib.hid (ht3.keep (Kept.refl _ _) (R' := fun b => w.heap.size + 2 ≤ b) (fun b hb _ => by have hb : ((u9.setCell ⟨w.heap.size + 1, 3, none⟩ (.slice A2 n2 c2))).heap.size ≤ b := hb; have := HBu_10.out.lt; show w.heap.size + 2 ≤ b; omega))
  clear ho hr ht3
  have c12 := HBu_11.out.cell 4
  have f12 := HBu_11.out.frozen 4
  have HO12 := Lib.hid (HO11.out.new (r := w.heap.size + 1) (by have := HG.out; omega) 4 (.slice A3 n3 c3))
  have HR12 := Lib.hid (HR11.out.set (r := w.heap.size + 1) (by have := HG.out; omega) 4 (.slice A3 n3 c3))
  have HBr_12 := Lib.hid (HBr_11.out.keep (Below.heap_setCell u11 ⟨w.heap.size + 1, 4, none⟩ (.slice A3 n3 c3) _ (by show w.heap.size ≠ w.heap.size + 1; have := HG.out; omega)))
  have HBu_12 : Hid (Ob (u11.setCell ⟨w.heap.size + 1, 4, none⟩ (.slice A3 n3 c3)) (w.heap.size + 1) 58 #[.string nm, .bool (decide (i = 2)), .slice A1 n1 c1, .slice A2 n2 c2, .slice A3 n3 c3]) := Lib.hid (by have := HBu_11.out.put 4 (.slice A3 n3 c3); simpa using this)
  have HTt1_12 := Lib.hid (HTt1_11.out.keep (Only.kept9 ((Only.refl (r := w.heap.size + 1) (w := u11)).setCell (p := ⟨w.heap.size + 1, 4, none⟩) rfl (.slice A3 n3 c3)) (fun b hb => by have hb : w.heap.size + 2 ≤ b := hb; show b ≠ w.heap.size + 1; omega)) (fun _ h _ => h))
  have HTt2_12 := Lib.hid (HTt2_11.out.keep (Only.kept9 ((Only.refl (r := w.heap.size + 1) (w := u11)).setCell (p := ⟨w.heap.size + 1, 4, none⟩) rfl (.slice A3 n3 c3)) (fun b hb => by have hb : w.heap.size + 2 ≤ b := hb; show b ≠ w.heap.size + 1; omega)) (fun _ h _ => h))
  have HTt3_12 := Lib.hid (HTt3_11.out.keep (Only.kept9 ((Only.refl (r := w.heap.size + 1) (w := u11)).setCell (p := ⟨w.heap.size + 1, 4, none⟩) rfl (.slice A3 n3 c3)) (fun b hb => by have hb : w.heap.size + 2 ≤ b := hb; show b ≠ w.heap.size + 1; omega)) (fun _ h _ => h))
  go_wp2_with fail
  go_at_call 74
  refine (pmust_lit HR12.out [m_semi] #[.string ⟨#[59]⟩] 1 rfl rfl (by omega) (by first | rfl | (simp; done) | (simp [World.setCell]; done))).mono ?_
  rintro x u13 ⟨rfl, ho, hr⟩
  rw [E6.out] at hr
  have HO13 := Lib.hid (HO12.out.trans ho)
  have HR13 := Lib.hid hr
  have HBr_13 := Lib.hid (HBr_12.out.keep (ho.heap HBr_12.out.lt (by have := HG.out; omega)))
  have HBu_13 := Lib.hid (HBu_12.out.keep (ho.heap HBu_12.out.lt (by have := HG.out; omega)))
  have HTt1_13 := Lib.hid (HTt1_12.out.keep (ho.kept9 (fun b hb => by have := HG.out; have hb : w.heap.size + 2 ≤ b := hb; show b ≠ g; omega)) (fun _ h _ => h))
  have HTt2_13 := Lib.hid (HTt2_12.out.keep (ho.kept9 (fun b hb => by have := HG.out; have hb : w.heap.size + 2 ≤ b := hb; show b ≠ g; omega)) (fun _ h _ => h))
  have HTt3_13 := Lib.hid (HTt3_12.out.keep (ho.kept9 (fun b hb => by have := HG.out; have hb : w.heap.size + 2 ≤ b := hb; show b ≠ g; omega)) (fun _ h _ => h))
  clear ho hr
  have c14_0 := HBu_13.out.cell 0
  have c14_1 := HBu_13.out.cell 1
  have c14_2 := HBu_13.out.cell 2
  have c14_3 := HBu_13.out.cell 3
  have c14_4 := HBu_13.out.cell 4
  have c15 := HBr_13.out.cell 0
  have f15 := HBr_13.out.frozen 0
  have HO15 := Lib.hid (HO13.out.new (r := w.heap.size) (by have := HG.out; omega) 0 (.string nm))
  have HR15 := Lib.hid (HR13.out.set (r := w.heap.size) (by have := HG.out; omega) 0 (.string nm))
  have HBr_15 : Hid (Ob (u13.setCell ⟨w.heap.size, 0, none⟩ (.string nm)) (w.heap.size) 58 #[.string nm, .bool false, .slice none 0 0, .slice none 0 0, .slice none 0 0]) := Lib.hid (by have := HBr_13.out.put 0 (.string nm); simpa using this)
  have HBu_15 := Lib.hid (HBu_13.out.keep (Below.heap_setCell u13 ⟨w.heap.size, 0, none⟩ (.string nm) _ (by show w.heap.size + 1 ≠ w.heap.size; have := HG.out; omega)))
  have HTt1_15 := Lib.hid (HTt1_13.out.keep (Only.kept9 ((Only.refl (r := w.heap.size) (w := u13)).setCell (p := ⟨w.heap.size, 0, none⟩) rfl (.string nm)) (fun b hb => by have hb : w.heap.size + 2 ≤ b := hb; show b ≠ w.heap.size; omega)) (fun _ h _ => h))
  have HTt2_15 := Lib.hid (HTt2_13.out.keep (Only.kept9 ((Only.refl (r := w.heap.size) (w := u13)).setCell (p := ⟨w.heap.size, 0, none⟩) rfl (.string nm)) (fun b hb => by have hb : w.heap.size + 2 ≤ b := hb; show b ≠ w.heap.size; omega)) (fun _ h _ => h))
  have HTt3_15 := Lib.hid (HTt3_13.out.keep (Only.kept9 ((Only.refl (r := w.heap.size) (w := u13)).setCell (p := ⟨w.heap.size, 0, none⟩) rfl (.string nm)) (fun b hb => by have hb : w.heap.size + 2 ≤ b := hb; show b ≠ w.heap.size; omega)) (fun _ h _ => h))
  have c16 := HBr_15.out.cell 1
  have f16 := HBr_15.out.frozen 1
  have HO16 := Lib.hid (HO15.out.new (r := w.heap.size) (by have := HG.out; omega) 1 (.bool (decide (i = 2))))
  have HR16 := Lib.hid (HR15.out.set (r := w.heap.size) (by have := HG.out; omega) 1 (.bool (decide (i = 2))))
  have HBr_16 : Hid (Ob ((u13.setCell ⟨w.heap.size, 0, none⟩ (.string nm)).setCell ⟨w.heap.size, 1, none⟩ (.bool (decide (i = 2)))) (w.heap.size) 58 #[.string nm, .bool (decide (i = 2)), .slice none 0 0, .slice none 0 0, .slice none 0 0]) := Lib.hid (by have := HBr_15.out.put 1 (.bool (decide (i = 2))); simpa using this)
  have HBu_16 := Lib.hid (HBu_15.out.keep (Below.heap_setCell (u13.setCell ⟨w.heap.size, 0, none⟩ (.string nm)) ⟨w.heap.size, 1, none⟩ (.bool (decide (i = 2))) _ (by show w.heap.size + 1 ≠ w.heap.size; have := HG.out; omega)))
  have HTt1_16 := Lib.hid (HTt1_15.out.keep (Only.kept9 ((Only.refl (r := w.heap.size) (w := (u13.setCell ⟨w.heap.size, 0, none⟩ (.string nm)))).setCell (p := ⟨w.heap.size, 1, none⟩) rfl (.bool (decide (i = 2)))) (fun b hb => by have hb : w.heap.size + 2 ≤ b := hb; show b ≠ w.heap.size; omega)) (fun _ h _ => h))
  have HTt2_16 := Lib.hid (HTt2_15.out.keep (Only.kept9 ((Only.refl (r := w.heap.size) (w := (u13.setCell ⟨w.heap.size, 0, none⟩ (.string nm)))).setCell (p := ⟨w.heap.size, 1, none⟩) rfl (.bool (decide (i = 2)))) (fun b hb => by have hb : w.heap.size + 2 ≤ b := hb; show b ≠ w.heap.size; omega)) (fun _ h _ => h))
  have HTt3_16 := Lib.hid (HTt3_15.out.keep (Only.kept9 ((Only.refl (r := w.heap.size) (w := (u13.setCell ⟨w.heap.size, 0, none⟩ (.string nm)))).setCell (p := ⟨w.heap.size, 1, none⟩) rfl (.bool (decide (i = 2)))) (fun b hb => by have hb : w.heap.size + 2 ≤ b := hb; show b ≠ w.heap.size; omega)) (fun _ h _ => h))
  have c17 := HBr_16.out.cell 2
  have f17 := HBr_16.out.frozen 2
  have HO17 := Lib.hid (HO16.out.new (r := w.heap.size) (by have := HG.out; omega) 2 (.slice A1 n1 c1))
  have HR17 := Lib.hid (HR16.out.set (r := w.heap.size) (by have := HG.out; omega) 2 (.slice A1 n1 c1))
  have HBr_17 : Hid (Ob (((u13.setCell ⟨w.heap.size, 0, none⟩ (.string nm)).setCell ⟨w.heap.size, 1, none⟩ (.bool (decide (i = 2)))).setCell ⟨w.heap.size, 2, none⟩ (.slice A1 n1 c1)) (w.heap.size) 58 #[.string nm, .bool (decide (i = 2)), .slice A1 n1 c1, .slice none 0 0, .slice none 0 0]) := Lib.hid (by have := HBr_16.out.put 2 (.slice A1 n1 c1); simpa using this)
  have HBu_17 := Lib.hid (HBu_16.out.keep (Below.heap_setCell ((u13.setCell ⟨w.heap.size, 0, none⟩ (.string nm)).setCell ⟨w.heap.size, 1, none⟩ (.bool (decide (i = 2)))) ⟨w.heap.size, 2, none⟩ (.slice A1 n1 c1) _ (by show w.heap.size + 1 ≠ w.heap.size; have := HG.out; omega)))
  have HTt1_17 := Lib.hid (HTt1_16.out.keep (Only.kept9 ((Only.refl (r := w.heap.size) (w := ((u13.setCell ⟨w.heap.size, 0, none⟩ (.string nm)).setCell ⟨w.heap.size, 1, none⟩ (.bool (decide (i = 2)))))).setCell (p := ⟨w.heap.size, 2, none⟩) rfl (.slice A1 n1 c1)) (fun b hb => by have hb : w.heap.size + 2 ≤ b := hb; show b ≠ w.heap.size; omega)) (fun _ h _ => h))
  have HTt2_17 := Lib.hid (HTt2_16.out.keep (Only.kept9 ((Only.refl (r := w.heap.size) (w := ((u13.setCell ⟨w.heap.size, 0, none⟩ (.string nm)).setCell ⟨w.heap.size, 1, none⟩ (.bool (decide (i = 2)))))).setCell (p := ⟨w.heap.size, 2, none⟩) rfl (.slice A1 n1 c1)) (fun b hb => by have hb : w.heap.size + 2 ≤ b := hb; show b ≠ w.heap.size; omega)) (fun _ h _ => h))
  have HTt3_17 := Lib.hid (HTt3_16.out.keep (Only.kept9 ((Only.refl (r := w.heap.size) (w := ((u13.setCell ⟨w.heap.size, 0, none⟩ (.string nm)).setCell ⟨w.heap.size, 1, none⟩ (.bool (decide (i = 2)))))).setCell (p := ⟨w.heap.size, 2, none⟩) rfl (.slice A1 n1 c1)) (fun b hb => by have hb : w.heap.size + 2 ≤ b := hb; show b ≠ w.heap.size; omega)) (fun _ h _ => h))
  have c18 := HBr_17.out.cell 3
  have f18 := HBr_17.out.frozen 3
  have HO18 := Lib.hid (HO17.out.new (r := w.heap.size) (by have := HG.out; omega) 3 (.slice A2 n2 c2))
  have HR18 := Lib.hid (HR17.out.set (r := w.heap.size) (by have := HG.out; omega) 3 (.slice A2 n2 c2))
  have HBr_18 : Hid (Ob ((((u13.setCell ⟨w.heap.size, 0, none⟩ (.string nm)).setCell ⟨w.heap.size, 1, none⟩ (.bool (decide (i = 2)))).setCell ⟨w.heap.size, 2, none⟩ (.slice A1 n1 c1)).setCell ⟨w.heap.size, 3, none⟩ (.slice A2 n2 c2)) (w.heap.size) 58 #[.string nm, .bool (decide (i = 2)), .slice A1 n1 c1, .slice A2 n2 c2, .slice none 0 0]) := Lib.hid (by have := HBr_17.out.put 3 (.slice A2 n2 c2); simpa using this)
  have HBu_18 := Lib.hid (HBu_17.out.keep (Below.heap_setCell (((u13.setCell ⟨w.heap.size, 0, none⟩ (.string nm)).setCell ⟨w.heap.size, 1, none⟩ (.bool (decide (i = 2)))).setCell ⟨w.heap.size, 2, none⟩ (.slice A1 n1 c1)) ⟨w.heap.size, 3, none⟩ (.slice A2 n2 c2) _ (by show w.heap.size + 1 ≠ w.heap.size; have := HG.out; omega)))
  have HTt1_18 := Lib.hid (HTt1_17.out.keep (Only.kept9 ((Only.refl (r := w.heap.size) (w := (((u13.setCell ⟨w.heap.size, 0, none⟩ (.string nm)).setCell ⟨w.heap.size, 1, none⟩ (.bool (decide (i = 2)))).setCell ⟨w.heap.size, 2, none⟩ (.slice A1 n1 c1)))).setCell (p := ⟨w.heap.size, 3, none⟩) rfl (.slice A2 n2 c2)) (fun b hb => by have hb : w.heap.size + 2 ≤ b := hb; show b ≠ w.heap.size; omega)) (fun _ h _ => h))
  have HTt2_18 := Lib.hid (HTt2_17.out.keep (Only.kept9 ((Only.refl (r := w.heap.size) (w := (((u13.setCell ⟨w.heap.size, 0, none⟩ (.string nm)).setCell ⟨w.heap.size, 1, none⟩ (.bool (decide (i = 2)))).setCell ⟨w.heap.size, 2, none⟩ (.slice A1 n1 c1)))).setCell (p := ⟨w.heap.size, 3, none⟩) rfl (.slice A2 n2 c2)) (fun b hb => by have hb : w.heap.size + 2 ≤ b := hb; show b ≠ w.heap.size; omega)) (fun _ h _ => h))
  have HTt3_18 := Lib.hid (HTt3_17.out.keep (Only.kept9 ((Only.refl (r := w.heap.size) (w := (((u13.setCell ⟨w.heap.size, 0, none⟩ (.string nm)).setCell ⟨w.heap.size, 1, none⟩ (.bool (decide (i = 2)))).setCell ⟨w.heap.size, 2, none⟩ (.slice A1 n1 c1)))).setCell (p := ⟨w.heap.size, 3, none⟩) rfl (.slice A2 n2 c2)) (fun b hb => by have hb : w.heap.size + 2 ≤ b := hb; show b ≠ w.heap.size; omega)) (fun _ h _ => h))
  have c19 := HBr_18.out.cell 4
  have f19 := HBr_18.out.frozen 4
  have HO19 := Lib.hid (HO18.out.new (r := w.heap.size) (by have := HG.out; omega) 4 (.slice A3 n3 c3))
  have HR19 := Lib.hid (HR18.out.set (r := w.heap.size) (by have := HG.out; omega) 4 (.slice A3 n3 c3))
  have HBr_19 : Hid (Ob (((((u13.setCell ⟨w.heap.size, 0, none⟩ (.string nm)).setCell ⟨w.heap.size, 1, none⟩ (.bool (decide (i = 2)))).setCell ⟨w.heap.size, 2, none⟩ (.slice A1 n1 c1)).setCell ⟨w.heap.size, 3, none⟩ (.slice A2 n2 c2)).setCell ⟨w.heap.size, 4, none⟩ (.slice A3 n3 c3)) (w.heap.size) 58 #[.string nm, .bool (decide (i = 2)), .slice A1 n1 c1, .slice A2 n2 c2, .slice A3 n3 c3]) := Lib.hid (by have := HBr_18.out.put 4 (.slice A3 n3 c3); simpa using this)
  have HBu_19 := Lib.hid (HBu_18.out.keep (Below.heap_setCell ((((u13.setCell ⟨w.heap.size, 0, none⟩ (.string nm)).setCell ⟨w.heap.size, 1, none⟩ (.bool (decide (i = 2)))).setCell ⟨w.heap.size, 2, none⟩ (.slice A1 n1 c1)).setCell ⟨w.heap.size, 3, none⟩ (.slice A2 n2 c2)) ⟨w.heap.size, 4, none⟩ (.slice A3 n3 c3) _ (by show w.heap.size + 1 ≠ w.heap.size; have := HG.out; omega)))
  have HTt1_19 := Lib.hid (HTt1_18.out.keep (Only.kept9 ((Only.refl (r := w.heap.size) (w := ((((u13.setCell ⟨w.heap.size, 0, none⟩ (.string nm)).setCell ⟨w.heap.size, 1, none⟩ (.bool (decide (i = 2)))).setCell ⟨w.heap.size, 2, none⟩ (.slice A1 n1 c1)).setCell ⟨w.heap.size, 3, none⟩ (.slice A2 n2 c2)))).setCell (p := ⟨w.heap.size, 4, none⟩) rfl (.slice A3 n3 c3)) (fun b hb => by have hb : w.heap.size + 2 ≤ b := hb; show b ≠ w.heap.size; omega)) (fun _ h _ => h))
  have HTt2_19 := Lib.hid (HTt2_18.out.keep (Only.kept9 ((Only.refl (r := w.heap.size) (w := ((((u13.setCell ⟨w.heap.size, 0, none⟩ (.string nm)).setCell ⟨w.heap.size, 1, none⟩ (.bool (decide (i = 2)))).setCell ⟨w.heap.size, 2, none⟩ (.slice A1 n1 c1)).setCell ⟨w.heap.size, 3, none⟩ (.slice A2 n2 c2)))).setCell (p := ⟨w.heap.size, 4, none⟩) rfl (.slice A3 n3 c3)) (fun b hb => by have hb : w.heap.size + 2 ≤ b := hb; show b ≠ w.heap.size; omega)) (fun _ h _ => h))
  have HTt3_19 := Lib.hid (HTt3_18.out.keep (Only.kept9 ((Only.refl (r := w.heap.size) (w := ((((u13.setCell ⟨w.heap.size, 0, none⟩ (.string nm)).setCell ⟨w.heap.size, 1, none⟩ (.bool (decide (i = 2)))).setCell ⟨w.heap.size, 2, none⟩ (.slice A1 n1 c1)).setCell ⟨w.heap.size, 3, none⟩ (.slice A2 n2 c2)))).setCell (p := ⟨w.heap.size, 4, none⟩) rfl (.slice A3 n3 c3)) (fun b hb => by have hb : w.heap.size + 2 ≤ b := hb; show b ≠ w.heap.size; omega)) (fun _ h _ => h))
  go_wp2_with fail
  refine bodyPost_ret (rule_ret rfl rfl HBr_19.out rfl) rfl ?_
  exact ⟨A1, n1, c1, A2, n2, c2, A3, n3, c3, rfl, HO19.out, HR19.out, HTt1_19.out.keep (Kept.refl _ _) (fun b hb _ => by have hb : w.heap.size + 2 ≤ b := hb; show w.heap.size ≤ b; omega), HTt2_19.out.keep (Kept.refl _ _) (fun b hb _ => by have hb : w.heap.size + 2 ≤ b := hb; show w.heap.size ≤ b; omega), HTt3_19.out.keep (Kept.refl _ _) (fun b hb _ => by have hb : w.heap.size + 2 ≤ b := hb; show w.heap.size ≤ b; omega), HNM.out⟩
theorem Rd.meets (h : Rd L w g s) (hm : s.met + s.rest.length ≤ 5990) : Rd L (w.setCell ⟨g, 1, none⟩ (.int .i64 ((s.met : Int) + 1))) g (metR s) := by
  obtain ⟨b, o, n, c, hob, hok, ⟨hn, h1, h2, h3⟩, hbg, hc, hmk⟩ := h.at_
  have ho : Only g w (w.setCell ⟨g, 1, none⟩ (.int .i64 ((s.met : Int) + 1))) := Only.refl.at_g 1 _
  refine hmk 0 ((s.met : Int) + 1) s.err s.at_ (metR s) (by omega) (by simp [metR]) (by simp [metR]) rfl rfl (met_ok hok hm) _ (fun j hj => ho.heap (Nat.lt_trans hj hob.lt) (by omega)) ?_
  have := hob.put 1 (.int .i64 ((s.met : Int) + 1))
  simpa using this
theorem rulesR_stop {n : Nat} {l : List Rul} {s : Pz} (h : seesR [w_permit, w_deny] s = 0) : rulesR (n + 1) l s = (l, s) := by
  unfold rulesR
  rw [if_pos h]
theorem rulesR_succ {n : Nat} {l : List Rul} {s s1 s2 s3 : Pz} {u : Rul} {m : Int} (h : seesR [w_permit, w_deny] s ≠ 0) (hm : (l.length : Int) + 1 = m) (h1 : mostR m 16 (metR s) = s1) (h2 : mostR (s1.met : Int) 64 s1 = s2) (h3 : ruleR s2 = (u, s3)) : rulesR (n + 1) l s = rulesR n (l ++ [u]) s3 := by
  conv => lhs; unfold rulesR
  rw [if_neg h]
  simp only [hm, h1, h2, h3]
set_option maxHeartbeats 3200000 in
theorem prules_any (h : Rd L w g s) (hsum : s.met + s.rest.length ≤ 5990) : Calls Tryz.prog 78 #[.pointer (some ⟨g, 0, none⟩)] w fun x w' => ∃ A n c, x = .returned (.slice A n c) ∧ Only g w w' ∧ Rd L w' g (rulesR s.rest.length [] s).2 ∧ Rus w' (fun b => w.heap.size ≤ b) A n c (rulesR s.rest.length [] s).1 := by
  have HG0 : Hid (g < w.heap.size) := h.lt
  have HL0 : Hid (s.rest.length ≤ 5000) := h.ok.2.2.1.1
  have HH := Lib.hid h
  have HS := Lib.hid hsum
  obtain ⟨z, hz⟩ : ∃ z, z = rulesR s.rest.length [] s := ⟨_, rfl⟩
  have HZ : Hid (z = rulesR s.rest.length [] s) := hz
  rw [← hz]
  clear h hz hsum
  go_enter Tryz.func78, Tryz.ntmps78
  go_wp2
  go_loopw [3] (fun v wr => ∃ (k : Nat) (A : Option Addr) (c : Nat) (l : List Rul) (s' : Pz) (q : Nat), v = .slice A k c ∧ Only g w wr ∧ Rd L wr g s' ∧ Gr 5 RulAt wr w.heap.size 58 A k c l ∧ k + s'.rest.length ≤ s.rest.length ∧ s'.rest.length ≤ q ∧ s'.met + s'.rest.length ≤ 5990 ∧ rulesR q l s' = z) (fun v wr => restN wr g)
  case atStart => exact ⟨0, none, 0, [], s, s.rest.length, rfl, Only.refl, HH.out, Gr.nil _ _ (Nat.le_refl _), by omega, Nat.le_refl _, HS.out, HZ.out.symm⟩
  case round =>
    obtain ⟨k, A, c, l, s', q, rfl, ho, hr, hg, hk, hq, hs, he⟩ := hrel
    have HOw := Lib.hid ho
    have HR0 := Lib.hid hr
    have HGr := Lib.hid hg
    have HK := Lib.hid hk
    have HQ := Lib.hid hq
    have HSM := Lib.hid hs
    have HG : Hid (g < wr.heap.size) := hr.lt
    have hq1 := hr.ok.pos
    obtain ⟨q, rfl⟩ : ∃ q', q = q' + 1 := ⟨q - 1, by omega⟩
    have HRN := Lib.hid hr.restN
    have HW : Hid (w.heap.size ≤ wr.heap.size) := ho.size
    by_cases hi : seesR [w_permit, w_deny] s' = 0
    · have HE := Lib.hid ((rulesR_stop hi).symm.trans he)
      have HI := Lib.hid hi
      clear ho hr hg hk hq hs he hi hq1
      go_wp2_with fail
      go_at_call 116
      refine (psees_lit HR0.out [w_permit, w_deny] #[.string ⟨#[112, 101, 114, 109, 105, 116]⟩, .string ⟨#[100, 101, 110, 121]⟩] 2 rfl rfl (by omega) rfl).mono ?_
      rintro x u1 ⟨hx, hb⟩
      obtain rfl : x = .returned (.int .i64 ((0 : Nat) : Int)) := by rw [hx, HI.out] <;> rfl
      have HB := Lib.hid hb
      clear hx hb
      go_wp2_with fail
      go_ret
      rw [← HE.out]
      exact ⟨A, k, c, rfl, HOw.out.then_ HB.out, HR0.out.then_ HB.out, Rus.keep ((Gr.below keeps_rul HGr.out HB.out).rw keeps_rul (by have := HL0.out; have := HK.out; omega)) (Kept.refl _ _) (fun _ h _ => h)⟩
    · obtain ⟨s1, e1⟩ : ∃ y, mostR ((k : Int) + 1) 16 (metR s') = y := ⟨_, rfl⟩
      obtain ⟨s2, e2⟩ : ∃ y, mostR (s1.met : Int) 64 s1 = y := ⟨_, rfl⟩
      obtain ⟨u, s3, e3⟩ : ∃ x y, ruleR s2 = (x, y) := ⟨_, _, rfl⟩
      have HE := Lib.hid ((rulesR_succ hi (by rw [hg.len]) e1 e2 e3).symm.trans he)
      obtain ⟨r1, r2, r3, r4, r5, r6⟩ := round_rule hr.ok hs hi ((k : Int) + 1)
      rw [e1, e2, e3] at r4 r5 r6
      rw [e1] at r3
      have HTL : Hid (s3.rest.length + 1 ≤ s'.rest.length ∧ s3.met = s'.met + 1) := ⟨r5, r6⟩
      have hk63 : k < 1000000 := by have := HL0.out; omega
      have hm63 : s'.met < 1000000 := by omega
      obtain ⟨b, oo, nn, cd, hob, _, _, _, _, _⟩ := hr.at_
      have HOB := Lib.hid hob
      have HI := Lib.hid (show 0 < seesR [w_permit, w_deny] s' by omega)
      have E1 := Lib.hid e1
      have E2 := Lib.hid e2
      have E3 := Lib.hid e3
      have HM3 := Lib.hid r3
      clear ho hr hg hk hq hs he hi hq1 e1 e2 e3 r1 r2 r3 r4 r5 r6 hob
      generalize hsv : seesR [w_permit, w_deny] s' = sv at *
      have HSV := Lib.hid hsv
      have hsv2 : decide ((0 : Int) < (sv : Int)) = true := decide_eq_true (by have := HI.out; omega)
      clear hsv
      go_wp2_with fail
      go_at_call 116
      refine (psees_lit HR0.out [w_permit, w_deny] #[.string ⟨#[112, 101, 114, 109, 105, 116]⟩, .string ⟨#[100, 101, 110, 121]⟩] 2 rfl rfl (by omega) rfl).mono ?_
      rintro x u1 ⟨hx, hb⟩
      obtain rfl : x = .returned (.int .i64 (sv : Int)) := by rw [hx, HSV.out] <;> rfl
      have HB := Lib.hid hb
      have HR1 := Lib.hid (HR0.out.then_ hb)
      have OB1 := Lib.hid (HOB.out.below hb HOB.out.lt)
      have G1 := Lib.hid (Gr.below keeps_rul HGr.out hb)
      have O1 := Lib.hid (HOw.out.then_ hb)
      have q1 := OB1.out.cell 1
      have qf := OB1.out.frozen 1
      have HR2 := Lib.hid (HR1.out.meets HSM.out)
      have O2 := Lib.hid (O1.out.at_g 1 (.int .i64 ((s'.met : Int) + 1)))
      have G2 := Lib.hid (Gr.only keeps_rul G1.out ((Only.refl (w := u1)).at_g (g := g) 1 (.int .i64 ((s'.met : Int) + 1))) HG0.out)
      clear hx hb
      go_wp2_with fail
      go_at_call 73
      refine (pmost_any HR2.out ((k : Int) + 1) 16).mono ?_
      rintro x u2 ⟨rfl, ho, hr⟩
      rw [E1.out] at hr
      have O3 := Lib.hid (O2.out.trans ho)
      have HR3 := Lib.hid hr
      have G3 := Lib.hid (Gr.only keeps_rul G2.out ho HG0.out)
      obtain ⟨b3, o3, n3, c3, hob3, _, _, _, _, _⟩ := hr.at_
      have q3 := hob3.cell 1
      have HW3 := O3.out.size
      clear ho hr hob3
      go_wp2_with fail
      go_at_call 73
      refine (pmost_any HR3.out (s1.met : Int) 64).mono ?_
      rintro x u3 ⟨rfl, ho, hr⟩
      rw [E2.out] at hr
      have O4 := Lib.hid (O3.out.trans ho)
      have HR4 := Lib.hid hr
      have G4 := Lib.hid (Gr.only keeps_rul G3.out ho HG0.out)
      clear ho hr
      go_wp2_with fail
      go_at_call 117
      refine (prule_any HR4.out).mono ?_
      rintro x u4 ⟨A1, n1, c1, A2, n2, c2, A3, n3', c3', rfl, ho, hr, ht, hn, hd, hid⟩
      rw [E3.out] at hr ht hn hd hid
      rw [E3.out]
      have hgr := Gr.only keeps_rul G4.out ho HG0.out
      have ap : ∀ b, u3.heap.size ≤ b → Nb w.heap.size (.slice A k c) b := fun b hb => G4.out.apart b hb
      obtain ⟨A5, c5, u5, r5, g5, b5⟩ := push_rule hgr hid (ht.keep (Kept.refl _ _) (fun b hb _ => ap b hb)) (hn.keep (Kept.refl _ _) (fun b hb _ => ap b hb)) (hd.keep (Kept.refl _ _) (fun b hb _ => ap b hb)) hk63
      have O5 := Lib.hid ((O4.out.trans ho).below_at b5)
      have HR5 := Lib.hid (hr.below b5 HG0.out)
      have R5 := Lib.hid r5
      have G5 := Lib.hid g5
      clear ho hr ht hn hd hid hgr ap r5 g5 b5
      go_wp2_with (at_builtin; refine wpList_append_run (o := ⟨some 30, _, _, _, _, _⟩) rfl _ _ _ _ rfl rfl rfl R5.out ?_)
      go_roundw
      case rel => exact ⟨k + 1, A5, c5, l ++ [u], s3, q, rfl, O5.out, HR5.out, G5.out, by have := HTL.out; have := HK.out; omega, by have := HTL.out; have := HQ.out; omega, by have := HTL.out; have := HSM.out; omega, HE.out⟩
      case measure => rw [HR5.out.restN, HRN.out]; have := HTL.out; omega
end
end Go.Proofs.YtadjfkgnoklmiaaGreat
