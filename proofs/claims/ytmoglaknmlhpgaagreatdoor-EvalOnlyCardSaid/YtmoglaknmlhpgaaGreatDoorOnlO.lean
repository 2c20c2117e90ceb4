/- Several texts in one: EvalDec, EvalPol, LexMath. -/
import Derived.Test.YtmoglaknmlhpgaaGreatDoorOnlN
import Derived.Test.YtmoglaknmlhpgaaGreatDoorOnlM
import Derived.Test.YtmoglaknmlhpgaaGreatDoorOnlF
import Derived.Test.YtmoglaknmlhpgaaGreatDoorOnlA
/- Package eval: parts, decided, Policy. -/
namespace Go.Proofs.YtmoglaknmlhpgaaGreatDoor
set_option linter.unusedVariables false
open Go.RowKit
attribute [local go_sem] eq0 feq2 eq4 fgt0 gt2 ord_eq ord_gt ord_lt ev_store

def RightAt (p : Pol) : Prop := ∃ d s s', d ≤ 4 ∧ polS d p s = (0, s')
theorem right_at {p : Pol} (h : rightE p = 0) : RightAt p := ⟨4, ⟨[], 0⟩, (polS 4 p ⟨[], 0⟩).2, by omega, by unfold rightE at h; rw [← h]⟩
theorem dut_short {o : Dut} (h : dutE o = 0) : o.arg.size ≤ 1000000 := by
 unfold dutE at h
 split at h
 ·rename_i hc
  have := hc.2.2.2
  unfold Named at this
  have h1 := this.1.2
  have : o.arg.size = (bl o.arg).length := by
   show o.arg.data.size = o.arg.data.toList.length
   exact Array.length_toList.symm
  omega
 ·cases h
theorem firstE_all {α : Type} {f : α → Int} : ∀ {l : List α}, firstE f l = 0 → ∀ x ∈ l, f x = 0
 | [], _, x, hx => by simp at hx
 | y :: l, h, x, hx => by
  simp only [firstE] at h
  split at h
  ·rename_i h0; exact absurd h h0
  ·rename_i h0
   rcases List.mem_cons.1 hx with rfl | hx
   ·simpa using h0
   ·exact firstE_all h x hx
theorem ob_short {l : List Dut} (h : obE l = 0) : ShortD l := fun o ho => by
 unfold obE at h
 split at h
 ·cases h
 ·exact dut_short (firstE_all h o ho)
theorem RightAt.all {p : Pol} (h : RightAt p) : (∀ k ∈ p.kids, RightAt k) ∧ (obE p.ob = 0 ∧ tgE p.tg = 0) ∧ (∀ r ∈ p.rules, tgE r.tg = 0 ∧ exprE r.cond = 0 ∧ obE r.ob = 0) ∧ szP p ≤ 700000 ∧ p.rules.length ≤ 16 ∧ p.kids.length ≤ 16 := by
 obtain ⟨d, s, s', hd, e⟩ := h
 match d, hd, e with
 | 0, _, e => simp [polS] at e
 | d + 1, hd, e =>
  have hc := sz_cap (d + 1) e
  obtain ⟨_, h2, h3, h4, h5, s1, s2, h6, h7⟩ := polE_parts e
  have hcap : capP (d + 1) ≤ 700000 := by
   rcases (show d = 0 ∨ d = 1 ∨ d = 2 ∨ d = 3 by omega) with rfl | rfl | rfl | rfl <;> decide
  refine ⟨fun k hk => ?_, ⟨h3, h2⟩, fun r hr => ?_, by omega, h4, h5⟩
  ·obtain ⟨x, y, e'⟩ := firsts_all h7 k hk
   exact ⟨d, x, y, by omega, e'⟩
  ·obtain ⟨x, y, e'⟩ := firsts_all h6 r hr
   exact rule_parts e'

def DecOk (d : Nat) : Prop :=
 ∀ {ask : List Giv} {w : World} {R R2 : Nat → Prop} {A : Option Addr} {n c : Nat} {p : Pol} {A1 A2 A3 A4 : Option Addr} {n1 k1 n2 k2 n3 k3 n4 k4 : Nat}, RightAt p →
  Tg w R A1 n1 k1 p.tg → Rus w R A2 n2 k2 p.rules → Pls w R d A3 n3 k3 p.kids → Dus w R A4 n4 k4 p.ob → Gvs w R2 A n c ask → ShortG ask →
  Calls Tryz.prog 20 #[.agg #[.string p.id, .bool p.set, .int .i64 p.alg, .slice A1 n1 k1, .slice A2 n2 k2, .slice A3 n3 k3, .slice A4 n4 k4], .slice A n c] w
   fun e w' => ∃ A' n' c', e = .returned (.agg #[.complex .f64 (fl (evV ask p).m.1) (fl (evV ask p).m.2), .slice A' n' c']) ∧ Below w.heap.size w w' ∧ Dus w' (fun b => w.heap.size ≤ b) A' n' c' (evV ask p).ob
set_option maxRecDepth 100000 in
set_option maxHeartbeats 3200000 in
theorem evparts_any (d : Nat) (ih : ∀ d', d = d' + 1 → DecOk d') {ask : List Giv} {w : World} {R R2 : Nat → Prop} {A : Option Addr} {n c : Nat} {p : Pol} {A1 A2 A3 A4 : Option Addr} {n1 k1 n2 k2 n3 k3 n4 k4 : Nat} (hp : RightAt p)
  (h2 : Rus w R A2 n2 k2 p.rules) (h3 : Pls w R d A3 n3 k3 p.kids) (hA : Gvs w R2 A n c ask) (hG : ShortG ask) :
  Calls Tryz.prog 33 #[.agg #[.string p.id, .bool p.set, .int .i64 p.alg, .slice A1 n1 k1, .slice A2 n2 k2, .slice A3 n3 k3, .slice A4 n4 k4], .slice A n c] w
   fun e w' => ∃ A' n' c', e = .returned (.slice A' n' c') ∧ Below w.heap.size w w' ∧ Rss w' (fun b => w.heap.size ≤ b) A' n' c' (partsV ask p) := by
 have HRA := Lib.hid hp.all
 have hle2 := Rw.le h2
 have hcap2 := Rw.cap h2
 have hle3 := Rw.le h3
 have hcap3 := Rw.cap h3
 unfold maxLen at hcap2 hcap3
 have HL2 := Lib.hid (Rw.len h2)
 have HL3 := Lib.hid (Rw.len h3)
 have HB2 : Hid (n2 ≤ 16) := by have := hp.all.2.2.2.2.1; have := Rw.len h2; show _ ≤ _; omega
 have HB3 : Hid (n3 ≤ 16) := by have := hp.all.2.2.2.2.2; have := Rw.len h3; show _ ≤ _; omega
 have H2 := Lib.hid h2
 have H3 := Lib.hid h3
 have HA := Lib.hid hA
 have HIH := Lib.hid ih
 have OB0 := Ob.made w 28 #[.string p.id, .bool p.set, .int .i64 p.alg, .slice A1 n1 k1, .slice A2 n2 k2, .slice A3 n3 k3, .slice A4 n4 k4]
 have a0 : Below w.heap.size w (w.alloc (.cells #[.string p.id, .bool p.set, .int .i64 p.alg, .slice A1 n1 k1, .slice A2 n2 k2, .slice A3 n3 k3, .slice A4 n4 k4] 28)) := (Below.refl w.heap.size w).alloc (Nat.le_refl _) _
 have OB := Lib.hid OB0
 have A0 := Lib.hid a0
 have HV : Hid (partsV ask p = p.rules.map (ruleV ask) ++ p.kids.map (evV ask)) := rfl
 have q4 := OB0.cell 4
 clear hp h2 h3 hA OB0 a0 ih
 go_enter Tryz.func33, Tryz.ntmps33
 go_wp2
 go_loopw [5, 13] (fun out i wr => ∃ (k : Nat) (A' : Option Addr) (c' : Nat), k ≤ n2 ∧ i = .int .i64 k ∧ out = .slice A' k c' ∧ Gr 2 ResAt wr (w.alloc (.cells #[.string p.id, .bool p.set, .int .i64 p.alg, .slice A1 n1 k1, .slice A2 n2 k2, .slice A3 n3 k3, .slice A4 n4 k4] 28)).heap.size 44 A' k c' ((p.rules.take k).map (ruleV ask)) ∧ Below (w.alloc (.cells #[.string p.id, .bool p.set, .int .i64 p.alg, .slice A1 n1 k1, .slice A2 n2 k2, .slice A3 n3 k3, .slice A4 n4 k4] 28)).heap.size (w.alloc (.cells #[.string p.id, .bool p.set, .int .i64 p.alg, .slice A1 n1 k1, .slice A2 n2 k2, .slice A3 n3 k3, .slice A4 n4 k4] 28)) wr) (fun out i _ => n2 - (intOf i).toNat)
 case atStart => exact ⟨0, none, 0, Nat.zero_le _, rfl, rfl, Gr.nil _ _ (Nat.le_refl _), Below.refl _ _⟩
 case round =>
  obtain ⟨k, A', c', hk, rfl, rfl, ho, hb⟩ := hrel
  have HO := Lib.hid ho
  have HB := Lib.hid hb
  have HW := Lib.hid (below_step A0.out hb)
  have OW := Lib.hid (OB.out.below hb OB.out.lt)
  clear ho hb
  by_cases hlt : k < n2
  ·obtain ⟨b, o, r, B1, m1, d1, B2, m2, d2, B3, m3, d3, rfl, hRb, hbl, hx, hid, ⟨x0, x1, x2, x3, x4⟩, t1, t2, t3⟩ := (H2.out.keep (Kept.all HW.out R) (fun _ h _ => h)).at_ hlt
   have HX := Lib.hid (map_step (ruleV ask) hx)
   have hr := HRA.out.2.2.1 r (List.mem_of_getElem? hx)
   have a1 : Below wr.heap.size wr (wr.alloc (.cells #[.string r.id, .bool r.deny, .slice B1 m1 d1, .slice B2 m2 d2, .slice B3 m3 d3] 77)) := (Below.refl _ _).alloc (Nat.le_refl _) _
   have hm3 : m3 ≤ 500000 := by have h1 := Rw.len t3; have h2 := ob_eight hr.2.2; omega
   have HC := Lib.hid (evrule_any (w := wr.alloc (.cells #[.string r.id, .bool r.deny, .slice B1 m1 d1, .slice B2 m2 d2, .slice B3 m3 d3] 77)) (t1.keep (Kept.all a1 R) (fun _ h _ => h)) (t2.keep (Kept.all a1 R) (fun _ h _ => h)) (t3.keep (Kept.all a1 R) (fun _ h _ => h)) (ob_short hr.2.2) hm3 (HA.out.keep (Kept.all (HW.out.trans (a1.mono HW.out.size)) R2) (fun _ h _ => h)) hG)
   have A1' := Lib.hid a1
   clear hx hid t1 t2 t3 hr a1 hm3
   generalize hv : ruleV ask r = v at *
   clear hv
   obtain ⟨⟨vp, vd⟩, vob⟩ := v
   obtain ⟨rid, rdeny, rtg, rcond, rob⟩ := r
   simp only at x0 x1 x2 x3 x4 HC A1'
   go_wp2_with fail
   refine HC.out.mono ?_
   rintro z w3 ⟨E1, e2, e3, rfl, hb, hd⟩
   have b1 : Below wr.heap.size wr w3 := below_step A1'.out hb
   have hsz := A1'.out.size
   obtain ⟨A5, c5, w5, r5, o5, b5⟩ := push_res (r := ⟨(vp, vd), vob⟩) (Gr.below keeps_res HO.out b1) (hd.keep (Kept.refl _ _) (fun b hb _ => HO.out.apart b (Nat.le_trans hsz hb))) (by have := HB2.out; omega)
   have R5 := Lib.hid r5
   have O5 := Lib.hid o5
   have B5 := Lib.hid (HB.out.trans ((b1.mono HB.out.size).trans b5))
   clear hb hd b1 hsz r5 o5 b5
   go_wp2_with (first
    | (at_builtin; refine wpList_append_run (o := ⟨some 22, _, _, _, _, _⟩) rfl _ _ _ _ rfl rfl rfl R5.out ?_))
   go_roundw
   case rel => exact ⟨k + 1, A5, c5, by omega, by go_num, rfl, by rw [HX.out]; exact O5.out, B5.out⟩
   case measure => simp [intOf]; omega
  ·obtain rfl : n2 = k := by omega
   have hL := HO.out
   rw [List.take_of_length_le (by have := HL2.out; omega)] at hL
   have HR := Lib.hid hL
   have q5 := OW.out.cell 5
   clear hL HO
   go_wp2
   go_loopw [5, 27] (fun out i wq => ∃ (j : Nat) (A' : Option Addr) (c' : Nat), j ≤ n3 ∧ i = .int .i64 j ∧ out = .slice A' (n2 + j) c' ∧ Gr 2 ResAt wq (w.alloc (.cells #[.string p.id, .bool p.set, .int .i64 p.alg, .slice A1 n1 k1, .slice A2 n2 k2, .slice A3 n3 k3, .slice A4 n4 k4] 28)).heap.size 44 A' (n2 + j) c' (p.rules.map (ruleV ask) ++ (p.kids.take j).map (evV ask)) ∧ Below (w.alloc (.cells #[.string p.id, .bool p.set, .int .i64 p.alg, .slice A1 n1 k1, .slice A2 n2 k2, .slice A3 n3 k3, .slice A4 n4 k4] 28)).heap.size (w.alloc (.cells #[.string p.id, .bool p.set, .int .i64 p.alg, .slice A1 n1 k1, .slice A2 n2 k2, .slice A3 n3 k3, .slice A4 n4 k4] 28)) wq) (fun out i _ => n3 - (intOf i).toNat)
   case atStart => exact ⟨0, A', c', Nat.zero_le _, rfl, rfl, by simpa using HR.out, HB.out⟩
   case round =>
    obtain ⟨wo, hwo⟩ : ∃ wo, wo = wr := ⟨wr, rfl⟩
    subst hwo
    obtain ⟨j, A6, c6, hj, rfl, rfl, ho, hb⟩ := hrel
    have HO := Lib.hid ho
    have HC0 := Lib.hid hb
    have HW2 := Lib.hid (below_step A0.out hb)
    clear ho hb
    by_cases hlt2 : j < n3
    ·obtain ⟨b, o, kid, d', B1, m1, d1, B2, m2, d2, B3, m3, d3, B4, m4, d4, rfl, hRb, hbl, hx, hd, ⟨hid, halg⟩, ⟨x0, x1, x2, x3, x4, x5, x6⟩, t1, t2, t3, t4⟩ := (H3.out.keep (Kept.all HW2.out R) (fun _ h _ => h)).at_ hlt2
     have HX := Lib.hid (map_step (evV ask) hx)
     have a1 : Below wo.heap.size wo (wo.alloc (.cells #[.string kid.id, .bool kid.set, .int .i64 kid.alg, .slice B1 m1 d1, .slice B2 m2 d2, .slice B3 m3 d3, .slice B4 m4 d4] 28)) := (Below.refl _ _).alloc (Nat.le_refl _) _
     have HC := Lib.hid (HIH.out d' hd (w := wo.alloc (.cells #[.string kid.id, .bool kid.set, .int .i64 kid.alg, .slice B1 m1 d1, .slice B2 m2 d2, .slice B3 m3 d3, .slice B4 m4 d4] 28)) (HRA.out.1 kid (List.mem_of_getElem? hx)) (t1.keep (Kept.all a1 R) (fun _ h _ => h)) (t2.keep (Kept.all a1 R) (fun _ h _ => h)) (t3.keep (Kept.all a1 R) (fun _ h _ => h)) (t4.keep (Kept.all a1 R) (fun _ h _ => h)) (HA.out.keep (Kept.all (HW2.out.trans (a1.mono HW2.out.size)) R2) (fun _ h _ => h)) hG)
     have A1' := Lib.hid a1
     clear hx hid t1 t2 t3 t4 a1 hd halg
     generalize hv : evV ask kid = v at *
     clear hv
     obtain ⟨⟨vp, vd⟩, vob⟩ := v
     obtain ⟨ki, ks, ka, kt, kr, kk, ko⟩ := kid
     simp only [Pol.id, Pol.set, Pol.alg] at x0 x1 x2 x3 x4 x5 x6 HC A1'
     go_wp2_with fail
     refine HC.out.mono ?_
     rintro z w3 ⟨E1, e2, e3, rfl, hb, hd⟩
     have b1 : Below wo.heap.size wo w3 := below_step A1'.out hb
     have hsz := A1'.out.size
     obtain ⟨A5, c5, w5, r5, o5, b5⟩ := push_res (r := ⟨(vp, vd), vob⟩) (Gr.below keeps_res HO.out b1) (hd.keep (Kept.refl _ _) (fun b hb _ => HO.out.apart b (Nat.le_trans hsz hb))) (by have := HB2.out; have := HB3.out; omega)
     have R5 := Lib.hid r5
     have O5 := Lib.hid o5
     have B5 := Lib.hid (HC0.out.trans ((b1.mono HC0.out.size).trans b5))
     clear hb hd b1 hsz r5 o5 b5
     go_wp2_with (first
      | (at_builtin; refine wpList_append_run (o := ⟨some 36, _, _, _, _, _⟩) rfl _ _ _ _ rfl rfl rfl R5.out ?_))
     go_roundw
     case rel => exact ⟨j + 1, A5, c5, by omega, by go_num, rfl, by rw [HX.out, ← List.append_assoc]; exact O5.out, B5.out⟩
     case measure => simp [intOf]; omega
    ·obtain rfl : n3 = j := by omega
     go_wp2
     go_ret
     have hR := HO.out
     rw [List.take_of_length_le (by have := HL3.out; omega), ← HV.out] at hR
     refine ⟨A6, n2 + n3, c6, rfl, HW2.out, ?_⟩
     have h1 : Rss wo (fun b => (w.alloc (.cells #[.string p.id, .bool p.set, .int .i64 p.alg, .slice A1 n1 k1, .slice A2 n2 k2, .slice A3 n3 k3, .slice A4 n4 k4] 28)).heap.size ≤ b) A6 (n2 + n3) c6 (partsV ask p) := hR.rw keeps_res (by have := HB2.out; have := HB3.out; omega)
     exact h1.keep (Kept.refl _ _) (fun b hb _ => Nat.le_trans A0.out.size hb)

set_option maxRecDepth 100000 in
set_option maxHeartbeats 6400000 in
theorem dec_step (d : Nat) (ih : ∀ d', d = d' + 1 → DecOk d') : DecOk d := by
 intro ask w R R2 A n c p A1 A2 A3 A4 n1 k1 n2 k2 n3 k3 n4 k4 hp h1 h2 h3 h4 hA hG
 have HM := Lib.hid (fun W (hW : Below w.heap.size w W) => tgmet_any (w := W) (h1.keep (Kept.all hW R) (fun _ h _ => h)) (hA.keep (Kept.all hW R2) (fun _ h _ => h)) hG)
 have HP := Lib.hid (fun W (hW : Below w.heap.size w W) => evparts_any (w := W) (A1 := A1) (n1 := n1) (k1 := k1) (A4 := A4) (n4 := n4) (k4 := k4) d ih hp (h2.keep (Kept.all hW R) (fun _ h _ => h)) (h3.keep (Kept.all hW R) (fun _ h _ => h)) (hA.keep (Kept.all hW R2) (fun _ h _ => h)) hG)
 have hob := Rw.len h4
 have hsz := hp.all.2.2.2.1
 have hpl := parts_len ask p
 have hn4 : n4 ≤ 500000 := by have := ob_eight hp.all.2.1.1; omega
 have HD := Lib.hid (fun W (hW : Below w.heap.size w W) (p d : Fin 5) => duties_any (w := W) p d (h4.keep (Kept.all hW R) (fun _ h _ => h)) (ob_short hp.all.2.1.1) hn4)
 have HV : Hid (evV ask p = polV (metI ask p.tg) p.alg p.ob (partsV ask p)) := decV_eq ask p
 have HT := Lib.hid (tri_met ask p.tg)
 have HS := Lib.hid (show (partsV ask p).length ≤ 700000 ∧ obS (partsV ask p) ≤ 700000 by omega)
 have HLD := Lib.hid (fun m => dutsM_len p.ob m)
 have HLO : Hid (p.ob.length ≤ 8) := ob_eight hp.all.2.1.1
 have HSD : Hid (obS (partsV ask p) + p.ob.length ≤ 700000) := by show _ ≤ _; omega
 have HPV : Hid (∀ t, polV t p.alg p.ob (partsV ask p) = if t = 0 then noRes else if t = 1 then ⟨indM (joinV p.alg (partsV ask p)), []⟩ else ⟨joinV p.alg (partsV ask p), alongV p.alg (joinV p.alg (partsV ask p)) (partsV ask p) ++ dutsM p.ob (joinV p.alg (partsV ask p))⟩) := fun _ => rfl
 clear h1 h2 h3 h4 hA ih hp hob hsz hpl hn4
 generalize metI ask p.tg = t at *
 generalize evV ask p = v at *
 generalize partsV ask p = ps at *
 obtain ⟨⟨jp, jd⟩, hj⟩ : ∃ q, q = joinV p.alg ps := ⟨_, rfl⟩
 have HJ := Lib.hid (fun W (R : Nat → Prop) (A : Option Addr) (n c : Nat) (h : Rss W R A n c ps) (hn : n ≤ 700000) => joined_any (w := W) p.alg h hn)
 rw [← hj] at HJ HPV
 clear hj
 have HAL := Lib.hid (fun W (R : Nat → Prop) (A : Option Addr) (n c : Nat) (h : Rss W R A n c ps) => along_any (w := W) p.alg jp jd h HS.out.2)
 obtain ⟨alv, hal⟩ : ∃ x, x = alongV p.alg (jp, jd) ps := ⟨_, rfl⟩
 have HAN : Hid (alv.length ≤ obS ps) := by show _ ≤ _; rw [hal]; exact along_len _ _ _
 rw [← hal] at HAL HPV
 clear hal
 obtain ⟨dv, hdv⟩ : ∃ x, x = dutsM p.ob (jp, jd) := ⟨_, rfl⟩
 have HDN := Lib.hid (HLD.out (jp, jd))
 have HD2 := Lib.hid (fun W hW => HD.out W hW jp jd)
 rw [← hdv] at HDN HD2 HPV
 clear hdv HD HLD
 have OB := Lib.hid (Ob.made w 28 #[.string p.id, .bool p.set, .int .i64 p.alg, .slice A1 n1 k1, .slice A2 n2 k2, .slice A3 n3 k3, .slice A4 n4 k4])
 have a1 : Below w.heap.size w (w.alloc (.cells #[.string p.id, .bool p.set, .int .i64 p.alg, .slice A1 n1 k1, .slice A2 n2 k2, .slice A3 n3 k3, .slice A4 n4 k4] 28)) := (Below.refl w.heap.size w).alloc (Nat.le_refl _) _
 have OB2 := Lib.hid (OB.out.keep (w' := (w.alloc (.cells #[.string p.id, .bool p.set, .int .i64 p.alg, .slice A1 n1 k1, .slice A2 n2 k2, .slice A3 n3 k3, .slice A4 n4 k4] 28)).alloc (.cells #[.complex .f64 0 0, .slice none 0 0] 44)) (Below.heap_alloc _ _ _ OB.out.lt))
 have OR := Ob.made (w.alloc (.cells #[.string p.id, .bool p.set, .int .i64 p.alg, .slice A1 n1 k1, .slice A2 n2 k2, .slice A3 n3 k3, .slice A4 n4 k4] 28)) 44 #[.complex .f64 0 0, .slice none 0 0]
 rw [size_al] at OR
 have OR2 := Lib.hid OR
 have D2 := Lib.hid (a1.alloc (by rw [size_al]; omega) (.cells #[.complex .f64 0 0, .slice none 0 0] 44))
 have HZ2 : Hid (((w.alloc (.cells #[.string p.id, .bool p.set, .int .i64 p.alg, .slice A1 n1 k1, .slice A2 n2 k2, .slice A3 n3 k3, .slice A4 n4 k4] 28)).alloc (.cells #[.complex .f64 0 0, .slice none 0 0] 44)).heap.size = w.heap.size + 2) := by show _ = _; rw [size_al, size_al]
 have o3 := OB2.out.cell 3
 clear OB OR a1
 obtain ⟨pid, pset, palg, ptg, pru, pki, pob⟩ := p
 simp only [Pol.id, Pol.set, Pol.alg, Pol.ob] at *
 go_enter Tryz.func20, Tryz.ntmps20
 go_wp2_with fail
 refine (HM.out _ D2.out).mono ?_
 rintro e w1 ⟨rfl, hb⟩
 have D3 := Lib.hid (below_step D2.out hb)
 have OB3 := Lib.hid (OB2.out.below hb OB2.out.lt)
 have OR3 := Lib.hid (OR2.out.below hb OR2.out.lt)
 have HZ3 : Hid (w.heap.size + 2 ≤ w1.heap.size) := by have h1 := hb.size; have h2 := HZ2.out; show _ ≤ _; omega
 clear hb o3
 rcases (show t = 0 ∨ t = 1 ∨ t = 2 by have := HT.out; unfold Tri at this; omega) with rfl | rfl | rfl
 ·have HQ : Hid (v = noRes) := HV.out.trans ((HPV.out 0).trans (if_pos rfl))
  have r0 := OR3.out.cell 0
  have r1 := OR3.out.cell 1
  have s0 := OR3.out.frozen 0
  have s1 := OR3.out.frozen 1
  go_wp2_with fail
  try simp only [Exit.inBlock, Exit.then]
  refine bodyPost_ret (res_ret rfl rfl (OR3.out.set2 (.complex .f64 0 0) (.slice none 0 0))) rfl ?_
  exact ⟨none, 0, 0, by rw [HQ.out, mark_na noRes.m rfl], below_set2 D3.out (by omega) _ _, by rw [HQ.out]; exact Rw.nil_ _ _ _ _⟩
 ·have HQ : Hid (v = ⟨indM (jp, jd), []⟩) := HV.out.trans ((HPV.out 1).trans ((if_neg (by omega)).trans (if_pos rfl)))
  have o0 := OB3.out.cell 0
  have o1 := OB3.out.cell 1
  have o2 := OB3.out.cell 2
  have o3 := OB3.out.cell 3
  have o4 := OB3.out.cell 4
  have o5 := OB3.out.cell 5
  have o6 := OB3.out.cell 6
  go_wp2_with fail
  refine (HP.out _ D3.out).mono ?_
  rintro e w2 ⟨E1, e2, e3, rfl, hb, hps⟩
  have D4 := Lib.hid (below_step D3.out hb)
  have OB4 := Lib.hid (OB3.out.below hb OB3.out.lt)
  have OR4 := Lib.hid (OR3.out.below hb OR3.out.lt)
  have HZ4 : Hid (w.heap.size + 2 ≤ w2.heap.size) := by have h1 := hb.size; have h2 := HZ3.out; show _ ≤ _; omega
  have HPS := Lib.hid hps
  have HE2 : Hid (e2 ≤ 700000) := by have h1 := Rw.len hps; have h2 := HS.out.1; show _ ≤ _; omega
  clear hb hps o0 o1 o2 o3 o4 o5 o6
  have o2 := OB4.out.cell 2
  go_wp2_with fail
  refine (HJ.out _ _ _ _ _ HPS.out HE2.out).mono ?_
  rintro e w3 ⟨rfl, hb⟩
  have D5 := Lib.hid (below_step D4.out hb)
  have OB5 := Lib.hid (OB4.out.below hb OB4.out.lt)
  have OR5 := Lib.hid (OR4.out.below hb OR4.out.lt)
  have HZ5 : Hid (w.heap.size + 2 ≤ w3.heap.size) := by have h1 := hb.size; have h2 := HZ4.out; show _ ≤ _; omega
  have HPS5 := Lib.hid (HPS.out.keep (Kept.all hb _) (fun _ h _ => h))
  clear hb o2
  have HI := Lib.hid (indet_any jp jd)
  have r0 := OR5.out.cell 0
  have r1 := OR5.out.cell 1
  have s0 := OR5.out.frozen 0
  have s1 := OR5.out.frozen 1
  go_wp2_with fail
  refine (HI.out _).mono ?_
  rintro z w' ⟨rfl, rfl⟩
  go_wp2_with fail
  try simp only [Exit.inBlock, Exit.then]
  refine bodyPost_ret (res_ret rfl rfl (OR5.out.set2 (.complex .f64 (fl (indetP jp jd)) (fl (indetD jp jd))) (.slice none 0 0))) rfl ?_
  exact ⟨none, 0, 0, by rw [HQ.out]; rfl, below_set2 D5.out (by omega) _ _, by rw [HQ.out]; exact Rw.nil_ _ _ _ _⟩
 ·have HQ : Hid (v = ⟨(jp, jd), alv ++ dv⟩) := HV.out.trans ((HPV.out 2).trans ((if_neg (by omega)).trans (if_neg (by omega))))
  have o0 := OB3.out.cell 0
  have o1 := OB3.out.cell 1
  have o2 := OB3.out.cell 2
  have o3 := OB3.out.cell 3
  have o4 := OB3.out.cell 4
  have o5 := OB3.out.cell 5
  have o6 := OB3.out.cell 6
  go_wp2_with fail
  refine (HP.out _ D3.out).mono ?_
  rintro e w2 ⟨E1, e2, e3, rfl, hb, hps⟩
  have D4 := Lib.hid (below_step D3.out hb)
  have OB4 := Lib.hid (OB3.out.below hb OB3.out.lt)
  have OR4 := Lib.hid (OR3.out.below hb OR3.out.lt)
  have HZ4 : Hid (w.heap.size + 2 ≤ w2.heap.size) := by have h1 := hb.size; have h2 := HZ3.out; show _ ≤ _; omega
  have HPS := Lib.hid hps
  have HE2 : Hid (e2 ≤ 700000) := by have h1 := Rw.len hps; have h2 := HS.out.1; show _ ≤ _; omega
  clear hb hps o0 o1 o2 o3 o4 o5 o6
  have o2 := OB4.out.cell 2
  go_wp2_with fail
  refine (HJ.out _ _ _ _ _ HPS.out HE2.out).mono ?_
  rintro e w3 ⟨rfl, hb⟩
  have D5 := Lib.hid (below_step D4.out hb)
  have OB5 := Lib.hid (OB4.out.below hb OB4.out.lt)
  have OR5 := Lib.hid (OR4.out.below hb OR4.out.lt)
  have HZ5 : Hid (w.heap.size + 2 ≤ w3.heap.size) := by have h1 := hb.size; have h2 := HZ4.out; show _ ≤ _; omega
  have HPS5 := Lib.hid (HPS.out.keep (Kept.all hb _) (fun _ h _ => h))
  clear hb o2
  go_wp2_with fail
  have OBK := Lib.hid (fun V (hV : Below w3.heap.size w3 V) => OB5.out.below hV OB5.out.lt)
  refine wp_region_held_tail (fun w' => Below w3.heap.size w3 w') 11 (by kernel_rfl) (by kernel_rfl) ?_
  intro G
  change HeadW _ _ _ _ _ _ _ _ _ _ (w3.drewN 1)
  have S := Lib.hid (below_drewN (Below.refl w3.heap.size w3) 1)
  generalize w3.drewN 1 = y0 at *
  refine HeadW_take (i := 0) (v := ?_) G rfl (by kernel_rfl) (by kernel_rfl) (by kernel_rfl) (fun _ _ _ h => h) (Or.inl ⟨by rfl, ?_⟩) S.out ?_
  rotate_left
  ·intro wz hS
   go_simp
   try with_reducible rfl
  refine HeadW_take (i := 1) (v := ?_) G rfl (by kernel_rfl) (by kernel_rfl) (by kernel_rfl) (fun _ _ _ h => h) (Or.inl ⟨by rfl, ?_⟩) S.out ?_
  rotate_left
  ·intro wz hS
   go_simp
   try with_reducible rfl
  refine HeadW_take (i := 2) (v := ?_) G rfl (by kernel_rfl) (by kernel_rfl) (by kernel_rfl) (fun _ _ _ h => h) (Or.inl ⟨by rfl, ?_⟩) S.out ?_
  rotate_left
  ·intro wz hS
   have hk := (OBK.out _ hS).cell 2
   go_simp
   try with_reducible rfl
  refine HeadW_take (i := 3) (v := ?_) G rfl (by kernel_rfl) (by kernel_rfl) (by kernel_rfl) (fun _ _ _ h => h) (Or.inl ⟨by rfl, ?_⟩) S.out ?_
  rotate_left
  ·intro wz hS
   go_simp
   try with_reducible rfl
  refine HeadW_take (i := 4) (v := ?_) G rfl (by kernel_rfl) (by kernel_rfl) (by kernel_rfl) (fun _ _ _ h => h) (Or.inl ⟨by rfl, ?_⟩) S.out ?_
  rotate_left
  ·intro wz hS
   go_simp
   try with_reducible rfl
  refine HeadW_take (i := 6) (v := ?_) G rfl (by kernel_rfl) (by kernel_rfl) (by kernel_rfl) (fun _ _ _ h => h) (Or.inl ⟨by rfl, ?_⟩) S.out ?_
  rotate_left
  ·intro wz hS
   go_simp
   try with_reducible rfl
  refine HeadW_take (i := 7) (v := ?_) G rfl (by kernel_rfl) (by kernel_rfl) (by kernel_rfl) (fun _ _ _ h => h) (Or.inl ⟨by rfl, ?_⟩) S.out ?_
  rotate_left
  ·intro wz hS
   have hk := (OBK.out _ hS).cell 6
   go_simp
   try with_reducible rfl
  refine HeadW_take (i := 8) (v := ?_) G rfl (by kernel_rfl) (by kernel_rfl) (by kernel_rfl) (fun _ _ _ h => h) (Or.inl ⟨by rfl, ?_⟩) S.out ?_
  rotate_left
  ·intro wz hS
   go_simp
   try with_reducible rfl
  have HB0 := Lib.hid S.out.size
  refine HeadW_ready (rs := [5]) (by kernel_rfl) rfl rfl ?_
  refine AllW.cons rfl (fun K hK => ?_) AllW.nil
  go_simp
  refine (HAL.out _ _ _ _ _ (HPS5.out.keep (Kept.all S.out _) (fun _ h _ => h))).mono ?_
  rintro e y1 ⟨F1, f2, f3, rfl, hb, hal⟩
  have AL := Lib.hid hal
  have hal0 := hal.2.1
  have S := Lib.hid (S.out.trans (hb.mono S.out.size))
  refine hK _ _ S.out ?_
  clear hK K hb
  have HF2 : Hid (alv.length = f2) := hal0
  clear hal hal0
  refine HeadW_ready (rs := [9]) (by kernel_rfl) rfl rfl ?_
  refine AllW.cons rfl (fun K hK => ?_) AllW.nil
  go_simp
  refine (HD2.out _ (D5.out.trans (S.out.mono D5.out.size))).mono ?_
  rintro e y2 ⟨G1, g2, g3, rfl, hb, hdu⟩
  have AL2 := Lib.hid (AL.out.below hb)
  have hdn := hdu.2.1
  have DU := Lib.hid (hdu.dus (by have h1 := HDN.out; have h2 := HLO.out; omega))
  have S := Lib.hid (S.out.trans (hb.mono S.out.size))
  refine hK _ _ S.out ?_
  clear hK K hb
  have HG2 : Hid (dv.length = g2) := hdn
  clear hdu hdn AL
  obtain ⟨K1, k9, w6, r6, o6, b6⟩ := AL2.out.app DU.out (by have h1 := HF2.out; have h2 := HG2.out; have h3 := HAN.out; have h4 := HDN.out; have h5 := HSD.out; omega) 26
  have R6 := Lib.hid r6
  have O6 := Lib.hid o6
  have S6 := Lib.hid (S.out.trans (b6.mono HB0.out))
  clear r6 o6 b6
  refine HeadW_ready (rs := [10]) (by kernel_rfl) rfl rfl ?_
  refine AllW.cons rfl (fun K hK => ?_) AllW.nil
  refine oper_append (.tmp 32) (.tmp 36) 26 26 rfl rfl rfl R6.out ?_
  refine hK _ _ S6.out ?_
  clear hK K
  intro _
  refine ⟨by kernel_rfl, ?_⟩
  simp only [List.drop_succ_cons, List.drop_zero]
  have OR6 := Lib.hid (OR5.out.below S6.out OR5.out.lt)
  have D6 := Lib.hid (below_step D5.out S6.out)
  have DU6 := Lib.hid (O6.out.dus (by have h1 := HF2.out; have h2 := HG2.out; have h3 := HAN.out; have h4 := HDN.out; have h5 := HSD.out; omega))
  have r0 := OR6.out.cell 0
  have r1 := OR6.out.cell 1
  have s0 := OR6.out.frozen 0
  have s1 := OR6.out.frozen 1
  go_wp2_with fail
  try simp only [Exit.inBlock, Exit.then]
  refine bodyPost_ret (res_ret rfl rfl (OR6.out.set2 (.complex .f64 (fl jp) (fl jd)) (.slice K1 (f2 + g2) k9))) rfl ?_
  exact ⟨K1, f2 + g2, k9, by rw [HQ.out], below_set2 D6.out (by omega) _ _, by rw [HQ.out]; exact DU6.out.set2 (by have := HZ5.out; have := HB0.out; omega) (by have := HZ5.out; have := HB0.out; omega) _ _⟩
theorem dec_all : ∀ d, DecOk d
  | 0 => dec_step 0 (fun d' h => by omega)
  | d + 1 => dec_step (d + 1) (fun d' h => by obtain rfl : d = d' := by omega
                                              exact dec_all d)
end Go.Proofs.YtmoglaknmlhpgaaGreatDoor

/- Package eval: Policy, of a right one. -/
namespace Go.Proofs.YtmoglaknmlhpgaaGreatDoor
set_option linter.unusedVariables false
open Go.RowKit
attribute [local go_sem] eq0 feq2 eq4 fgt0 gt2 ord_eq ord_gt ord_lt ev_store

theorem res_ret2 {fn : Func} {p u : Tmp} {tmps : Array Value} {w : World} {g : Nat} {m v : Value} {A : Option Addr} {n c : Nat} (h : fn.results = #[.cell p 44, .tmp u]) (hp : tmps.getD p undef = .pointer (some ⟨g, 0, none⟩)) (hu : tmps.getD u undef = v)
  (hg : Ob w g 44 #[m, .slice A n c]) : (results fn tmps).run Tryz.prog w = .ok (.tuple #[.agg #[m, .slice A n c], v]) w := by
 rw [results_cell_tmp h, hp, hu]
 have hl := run_loadVar_row (P := Tryz.prog) w g 44 _ _ (0, 0) _ hg Tryz.underlying44 rfl (by kernel_rfl)
 simp [asAddr, hl, Result.andThen]
set_option maxRecDepth 100000 in
set_option maxHeartbeats 3200000 in
theorem evpol_ok {ask : List Giv} {w : World} {R R2 : Nat → Prop} {A : Option Addr} {n c : Nat} {p : Pol} {A1 A2 A3 A4 : Option Addr} {n1 k1 n2 k2 n3 k3 n4 k4 : Nat} (hr : rightE p = 0) (h : PolIn w R p A1 n1 k1 A2 n2 k2 A3 n3 k3 A4 n4 k4) (hA : Gvs w R2 A n c ask) (hG : ShortG ask) :
  Calls Tryz.prog 9 #[.agg #[.string p.id, .bool p.set, .int .i64 p.alg, .slice A1 n1 k1, .slice A2 n2 k2, .slice A3 n3 k3, .slice A4 n4 k4], .slice A n c] w
   fun e w' => ∃ A' n' c', e = .returned (.tuple #[.agg #[.complex .f64 (fl (evV ask p).m.1) (fl (evV ask p).m.2), .slice A' n' c'], .int .i64 0]) ∧ Below w.heap.size w w' ∧ Dus w' (fun b => w.heap.size ≤ b) A' n' c' (evV ask p).ob := by
 have HR := Lib.hid (fun W (hW : Below w.heap.size w W) => right_pol (h.then_ hW))
 rw [hr] at HR
 have HC : Hid (∀ W, Below w.heap.size w W → Calls Tryz.prog 20 #[.agg #[.string p.id, .bool p.set, .int .i64 p.alg, .slice A1 n1 k1, .slice A2 n2 k2, .slice A3 n3 k3, .slice A4 n4 k4], .slice A n c] W
   fun e w' => ∃ A' n' c', e = .returned (.agg #[.complex .f64 (fl (evV ask p).m.1) (fl (evV ask p).m.2), .slice A' n' c']) ∧ Below W.heap.size W w' ∧ Dus w' (fun b => W.heap.size ≤ b) A' n' c' (evV ask p).ob) := fun W hW => by
  obtain ⟨_, h1, h2, ⟨m, h3⟩, h4⟩ := h.then_ hW
  exact dec_all m (right_at hr) h1 h2 h3 h4 (hA.keep (Kept.all hW R2) (fun _ h _ => h)) hG
 generalize evV ask p = v at *
 obtain ⟨⟨vp, vd⟩, vob⟩ := v
 have OB := Lib.hid (Ob.made w 28 #[.string p.id, .bool p.set, .int .i64 p.alg, .slice A1 n1 k1, .slice A2 n2 k2, .slice A3 n3 k3, .slice A4 n4 k4])
 have a1 : Below w.heap.size w (w.alloc (.cells #[.string p.id, .bool p.set, .int .i64 p.alg, .slice A1 n1 k1, .slice A2 n2 k2, .slice A3 n3 k3, .slice A4 n4 k4] 28)) := (Below.refl w.heap.size w).alloc (Nat.le_refl _) _
 have OB2 := Lib.hid (OB.out.keep (w' := (w.alloc (.cells #[.string p.id, .bool p.set, .int .i64 p.alg, .slice A1 n1 k1, .slice A2 n2 k2, .slice A3 n3 k3, .slice A4 n4 k4] 28)).alloc (.cells #[.complex .f64 0 0, .slice none 0 0] 44)) (Below.heap_alloc _ _ _ OB.out.lt))
 have OR := Ob.made (w.alloc (.cells #[.string p.id, .bool p.set, .int .i64 p.alg, .slice A1 n1 k1, .slice A2 n2 k2, .slice A3 n3 k3, .slice A4 n4 k4] 28)) 44 #[.complex .f64 0 0, .slice none 0 0]
 rw [size_al] at OR
 have OR2 := Lib.hid OR
 have D2 := Lib.hid (a1.alloc (by rw [size_al]; omega) (.cells #[.complex .f64 0 0, .slice none 0 0] 44))
 have HZ2 : Hid (((w.alloc (.cells #[.string p.id, .bool p.set, .int .i64 p.alg, .slice A1 n1 k1, .slice A2 n2 k2, .slice A3 n3 k3, .slice A4 n4 k4] 28)).alloc (.cells #[.complex .f64 0 0, .slice none 0 0] 44)).heap.size = w.heap.size + 2) := by show _ = _; rw [size_al, size_al]
 clear OB OR a1 hr h hA hG
 go_enter Tryz.func9, Tryz.ntmps9
 go_wp2_with fail
 refine (HR.out _ D2.out).mono ?_
 rintro e w1 ⟨rfl, hb⟩
 have D3 := Lib.hid (below_step D2.out hb)
 have OB3 := Lib.hid (OB2.out.below hb OB2.out.lt)
 have OR3 := Lib.hid (OR2.out.below hb OR2.out.lt)
 have HZ3 : Hid (w.heap.size + 2 ≤ w1.heap.size) := by have h1 := hb.size; have h2 := HZ2.out; show _ ≤ _; omega
 clear hb
 have o0 := OB3.out.cell 0
 have o1 := OB3.out.cell 1
 have o2 := OB3.out.cell 2
 have o3 := OB3.out.cell 3
 have o4 := OB3.out.cell 4
 have o5 := OB3.out.cell 5
 have o6 := OB3.out.cell 6
 go_wp2_with fail
 refine (HC.out _ D3.out).mono ?_
 rintro e w2 ⟨E1, e2, e3, rfl, hb, hd⟩
 have D4 := Lib.hid (below_step D3.out hb)
 have OR4 := Lib.hid (OR3.out.below hb OR3.out.lt)
 have HD := Lib.hid hd
 clear hb hd o0 o1 o2 o3 o4 o5 o6
 have r0 := OR4.out.cell 0
 have r1 := OR4.out.cell 1
 have s0 := OR4.out.frozen 0
 have s1 := OR4.out.frozen 1
 go_wp2_with fail
 try simp only [Exit.inBlock, Exit.then]
 refine bodyPost_ret (res_ret2 rfl rfl rfl (OR4.out.set2 (.complex .f64 (fl vp) (fl vd)) (.slice E1 e2 e3))) rfl ?_
 exact ⟨E1, e2, e3, rfl, below_set2 D4.out (by omega) _ _, HD.out.set2 (by have := HZ3.out; omega) (by have := HZ3.out; omega) _ _⟩
end Go.Proofs.YtmoglaknmlhpgaaGreatDoor
/- Tokens, plainly: what chapter 7 says of a text. -/
namespace Go.Proofs.YtmoglaknmlhpgaaGreatDoor
set_option linter.unusedVariables false

def blk (c : UInt8) : Bool := decide (c.toNat = 32) || decide (c.toNat = 10)
def dgt (c : UInt8) : Bool := decide (48 ≤ c.toNat) && decide (c.toNat ≤ 57)
def inm (c : UInt8) : Bool := lett c || later c
def hexv (c : UInt8) : Option Nat := if dgt c = true then some (c.toNat - 48) else if 97 ≤ c.toNat ∧ c.toNat ≤ 102 then some (c.toNat - 87) else none
def numD (l : List UInt8) : Nat := l.foldl (fun a c => 10 * a + (c.toNat - 48)) 0
def decD (most : Nat) (d : List UInt8) : Option Nat := if d = [] ∨ (d.head? = some 48 ∧ d ≠ [48]) ∨ most < numD d then none else some (numD d)
def hexB (a b : Option Nat) : Option (UInt8 × Nat) :=
 match a, b with
 | some x, some y => if odd8 (UInt8.ofNat (16 * x + y)) = true then some (UInt8.ofNat (16 * x + y), 3) else none
 | _, _ => none
def escB : List UInt8 → Option (UInt8 × Nat)
 | a :: b :: _ => hexB (hexv a) (hexv b)
 | _ => none
def oneB : List UInt8 → Option (UInt8 × Nat)
 | [] => none
 | c :: r => if odd8 c = false then some (c, 1) else if c = 92 then escB r else none
theorem oneB_cons (c : UInt8) (r : List UInt8) : oneB (c :: r) = if odd8 c = false then some (c, 1) else if c = 92 then escB r else none := rfl
theorem oneB_plain {c : UInt8} {r : List UInt8} (h : odd8 c = false) : oneB (c :: r) = some (c, 1) := by rw [oneB_cons, if_pos h]
theorem oneB_odd {c : UInt8} {r : List UInt8} (h : odd8 c = true) (h2 : c ≠ 92) : oneB (c :: r) = none := by rw [oneB_cons, if_neg (by rw [h]; simp), if_neg h2]
theorem oneB_esc (r : List UInt8) : oneB (92 :: r) = escB r := by rw [oneB_cons, if_neg (by decide), if_pos rfl]
theorem oneB_short {r : List UInt8} (h : r.length < 2) : oneB (92 :: r) = none := by
 rw [oneB_esc]
 match r, h with
 | [], _ => rfl
 | [a], _ => rfl
theorem oneB_hex (a b : UInt8) (r : List UInt8) : oneB (92 :: a :: b :: r) = hexB (hexv a) (hexv b) := by rw [oneB_esc]; rfl
theorem hexB_some (x y : Nat) : hexB (some x) (some y) = if odd8 (UInt8.ofNat (16 * x + y)) = true then some (UInt8.ofNat (16 * x + y), 3) else none := rfl
theorem hexB_none1 (b : Option Nat) : hexB none b = none := by cases b <;> rfl
theorem hexB_none2 (a : Option Nat) : hexB a none = none := by cases a <;> rfl
theorem hexB_three {a b : Option Nat} {x : UInt8} {k : Nat} (h : hexB a b = some (x, k)) : k = 3 := by
 cases a with
 | none => rw [hexB_none1] at h; cases h
 | some p => cases b with
  | none => rw [hexB_none2] at h; cases h
  | some q =>
   rw [hexB_some] at h
   split at h
   ·cases h; rfl
   ·cases h
def qtB (l : List UInt8) : Option (List UInt8 × Nat) :=
 match l with
 | [] => none
 | c :: r => if c = 34 then some ([], 1) else
   match oneB (c :: r) with
   | none => none
   | some (x, k) => (qtB (r.drop (k - 1))).map fun p => (x :: p.1, k + p.2)
termination_by l.length
decreasing_by simp only [List.length_drop, List.length_cons]; omega
def mrk (c : UInt8) : Bool := c = 123 || c = 125 || c = 40 || c = 41 || c = 46 || c = 44 || c = 59 || c = 61 || c = 60 || c = 62 || c = 33
def tokB : List UInt8 → Option (Int × Int × List UInt8 × Nat)
 | [] => none
 | c :: r =>
  if lett c = true then (if Named ((c :: r).takeWhile inm) then some (1, 0, (c :: r).takeWhile inm, ((c :: r).takeWhile inm).length) else none)
  else if dgt c = true then (decD 9223372036854775807 ((c :: r).takeWhile dgt)).map fun (n : Nat) => (2, (n : Int), [], ((c :: r).takeWhile dgt).length)
  else if c = 45 then (decD 9223372036854775808 (r.takeWhile dgt)).bind fun (n : Nat) => if n = 0 then none else some (2, -(n : Int), [], (r.takeWhile dgt).length + 1)
  else if c = 64 then (decD 1099511627776 (r.takeWhile dgt)).map fun (n : Nat) => (3, (n : Int), [], (r.takeWhile dgt).length + 1)
  else if c = 35 then (if Named (r.takeWhile inm) then some (4, 0, r.takeWhile inm, (r.takeWhile inm).length + 1) else none)
  else if c = 34 then (qtB r).bind fun p => if p.1.length ≤ 64 then some (5, 0, p.1, p.2 + 1) else none
  else if mrk c = true then some (6, 0, [c], 1)
  else none

structure Tk where
 k : Int
 p : Int
 n : Int
 s : ByteArray
def Tk.l (t : Tk) : List UInt8 := t.s.data.toList
theorem Tk.ext' {a b : Tk} (h1 : a.k = b.k) (h2 : a.p = b.p) (h3 : a.n = b.n) (h4 : a.l = b.l) : a = b := by
 obtain ⟨k, p, n, s⟩ := a
 obtain ⟨k', p', n', s'⟩ := b
 obtain ⟨⟨x⟩⟩ := s
 obtain ⟨⟨y⟩⟩ := s'
 simp_all [Tk.l]
instance : DecidableEq Tk := fun a b => if h : a.k = b.k ∧ a.p = b.p ∧ a.n = b.n ∧ a.l = b.l then .isTrue (Tk.ext' h.1 h.2.1 h.2.2.1 h.2.2.2) else .isFalse (by rintro rfl; exact h ⟨rfl, rfl, rfl, rfl⟩)

def cat (ts : List Tk) : Except Nat (List Tk) → Except Nat (List Tk)
 | .error e => .error e
 | .ok l => .ok (ts ++ l)
theorem cat_nil (x : Except Nat (List Tk)) : cat [] x = x := by cases x <;> rfl
theorem cat_cat (a b : List Tk) (x : Except Nat (List Tk)) : cat a (cat b x) = cat (a ++ b) x := by cases x <;> simp [cat]

def lexB (l : List UInt8) (p : Nat) : Except Nat (List Tk) :=
 match l with
 | [] => .ok [⟨7, p, 0, ⟨#[]⟩⟩]
 | c :: r => if blk c = true then lexB r (p + 1) else
   match tokB (c :: r) with
   | none => .error p
   | some (k, n, s, m) => cat [⟨k, p, n, ⟨s.toArray⟩⟩] (lexB (r.drop (m - 1)) (p + m))
termination_by l.length
decreasing_by
 ·simp
 ·simp only [List.length_drop, List.length_cons]; omega

/-! ### Equations -/
theorem qtB_nil : qtB [] = none := by rw [qtB]
theorem qtB_end (r : List UInt8) : qtB (34 :: r) = some ([], 1) := by rw [qtB]; rfl
theorem oneB_pos {l : List UInt8} {x : UInt8} {k : Nat} (h : oneB l = some (x, k)) : 1 ≤ k ∧ k ≤ l.length := by
 cases l with
 | nil => cases h
 | cons c r =>
  rw [oneB_cons] at h
  split at h
  ·cases h; simp
  ·split at h
   ·match r, h with
    | a :: b :: r', h => have := hexB_three h; subst this; simp
   ·cases h
theorem drop_cons' {α : Type} {c : α} {r : List α} {k : Nat} (h : 1 ≤ k) : r.drop (k - 1) = (c :: r).drop k := by
 obtain ⟨j, rfl⟩ : ∃ j, k = j + 1 := ⟨k - 1, by omega⟩
 rfl
theorem qtB_one {c : UInt8} {r : List UInt8} {x : UInt8} {k : Nat} (hc : c ≠ 34) (h : oneB (c :: r) = some (x, k)) : qtB (c :: r) = (qtB ((c :: r).drop k)).map fun p => (x :: p.1, k + p.2) := by
 rw [qtB, if_neg hc, h]
 dsimp only
 rw [drop_cons' (oneB_pos h).1]
theorem qtB_bad {c : UInt8} {r : List UInt8} (hc : c ≠ 34) (h : oneB (c :: r) = none) : qtB (c :: r) = none := by
 rw [qtB, if_neg hc, h]
theorem lexB_nil (p : Nat) : lexB [] p = .ok [⟨7, p, 0, ⟨#[]⟩⟩] := by rw [lexB]
theorem lexB_blank {c : UInt8} {r : List UInt8} {p : Nat} (h : blk c = true) : lexB (c :: r) p = lexB r (p + 1) := by rw [lexB, if_pos h]
theorem lexB_bad {c : UInt8} {r : List UInt8} {p : Nat} (h : blk c = false) (ht : tokB (c :: r) = none) : lexB (c :: r) p = .error p := by
 rw [lexB, if_neg (by rw [h]; simp), ht]
theorem tk_len (p : UInt8 → Bool) (l : List UInt8) : (l.takeWhile p).length ≤ l.length := (List.takeWhile_sublist p).length_le
theorem qtB_le : ∀ (n : Nat) (l m : List UInt8) (j : Nat), l.length ≤ n → qtB l = some (m, j) → 1 ≤ j ∧ j ≤ l.length ∧ m.length ≤ j
 | n, [], m, j, _, h => by rw [qtB_nil] at h; cases h
 | 0, c :: r, m, j, hl, h => by simp at hl
 | n + 1, c :: r, m, j, hl, h => by
  by_cases hc : c = 34
  ·subst hc; rw [qtB_end] at h; cases h; simp
  ·cases ho : oneB (c :: r) with
   | none => rw [qtB_bad hc ho] at h; cases h
   | some xk =>
    obtain ⟨x, k⟩ := xk
    rw [qtB_one hc ho] at h
    obtain ⟨k1, k2⟩ := oneB_pos ho
    cases hq : qtB ((c :: r).drop k) with
    | none => rw [hq] at h; cases h
    | some q =>
     obtain ⟨m', j'⟩ := q
     rw [hq] at h
     simp only [Option.map_some, Option.some.injEq, Prod.mk.injEq] at h
     obtain ⟨rfl, rfl⟩ := h
     have := qtB_le n _ m' j' (by simp only [List.length_drop]; simp only [List.length_cons] at hl; simp only [List.length_cons]; omega) hq
     simp only [List.length_drop, List.length_cons] at this k2 ⊢
     omega
theorem tokB_pos {l : List UInt8} {k n : Int} {s : List UInt8} {m : Nat} (h : tokB l = some (k, n, s, m)) : 1 ≤ m ∧ m ≤ l.length ∧ s.length ≤ m := by
 cases l with
 | nil => cases h
 | cons c r =>
  have t1 := tk_len inm (c :: r)
  have t2 := tk_len dgt (c :: r)
  have t3 := tk_len dgt r
  have t4 := tk_len inm r
  simp only [List.length_cons] at t1 t2 t3 t4 ⊢
  rw [tokB] at h
  split at h
  ·split at h
   ·rename_i hn
    cases h
    have := hn.1
    omega
   ·cases h
  ·split at h
   ·rename_i hd
    cases hq : decD 9223372036854775807 ((c :: r).takeWhile dgt) with
    | none => rw [hq] at h; cases h
    | some x =>
     rw [hq] at h
     cases h
     have : 1 ≤ ((c :: r).takeWhile dgt).length := by rw [List.takeWhile_cons, if_pos hd]; simp
     simp
     omega
   ·split at h
    ·cases hq : decD 9223372036854775808 (r.takeWhile dgt) with
     | none => rw [hq] at h; cases h
     | some x =>
      rw [hq] at h
      simp only [Option.bind_some] at h
      split at h
      ·cases h
      ·cases h; simp; omega
    ·split at h
     ·cases hq : decD 1099511627776 (r.takeWhile dgt) with
      | none => rw [hq] at h; cases h
      | some x => rw [hq] at h; cases h; simp; omega
     ·split at h
      ·split at h
       ·cases h; simp; omega
       ·cases h
      ·split at h
       ·cases hq : qtB r with
        | none => rw [hq] at h; cases h
        | some q =>
         obtain ⟨m', j⟩ := q
         rw [hq] at h
         simp only [Option.bind_some] at h
         split at h
         ·cases h
          have := qtB_le _ _ _ _ (Nat.le_refl _) hq
          omega
         ·cases h
       ·split at h
        ·cases h; simp
        ·cases h
theorem lexB_tok {c : UInt8} {r : List UInt8} {p : Nat} {k n : Int} {s : List UInt8} {m : Nat} (h : blk c = false) (ht : tokB (c :: r) = some (k, n, s, m)) :
  lexB (c :: r) p = cat [⟨k, p, n, ⟨s.toArray⟩⟩] (lexB ((c :: r).drop m) (p + m)) := by
 rw [lexB, if_neg (by rw [h]; simp), ht]
 dsimp only
 rw [drop_cons' (tokB_pos ht).1]
theorem lexB_skip (l : List UInt8) (p : Nat) : lexB l p = lexB (l.drop (l.takeWhile blk).length) (p + (l.takeWhile blk).length) := by
 induction l generalizing p with
 | nil => simp
 | cons c r ih =>
  cases h : blk c with
  | true => rw [lexB_blank h, ih, List.takeWhile_cons, if_pos h]; simp only [List.length_cons, List.drop_succ_cons]; congr 1; omega
  | false => rw [List.takeWhile_cons, if_neg (by rw [h]; simp)]; simp
theorem drop_tw {p : UInt8 → Bool} {l : List UInt8} {c : UInt8} {r : List UInt8} (h : l.drop (l.takeWhile p).length = c :: r) : p c = false := by
 induction l with
 | nil => simp at h
 | cons d t ih =>
  cases hd : p d with
  | true => rw [List.takeWhile_cons, if_pos hd] at h; exact ih (by simpa using h)
  | false =>
   rw [List.takeWhile_cons, if_neg (by rw [hd]; simp)] at h
   simp at h
   rw [← h.1, hd]
end Go.Proofs.YtmoglaknmlhpgaaGreatDoor
