/- Several texts in one: Parse8, ParMet, GrPol. -/
import Derived.Test.YtmoglaknmlhpgaaGreatDoorOnlS
import Derived.Test.YtmoglaknmlhpgaaGreatDoorOnlR
import Derived.Test.YtmoglaknmlhpgaaGreatDoorOnlH
import Derived.Laws.ResultCell
/- The parser: expressions, by steps. -/
namespace Go.Proofs.YtmoglaknmlhpgaaGreatDoor
set_option linter.unusedVariables false
open Go.RowKit
section
variable {L g : Nat}
theorem heap_setc (w : World) (p : Addr) (v : Value) : (w.setCell p v).heap.size = w.heap.size := by simp [World.setCell]
theorem callR_op (ex : List Nod → Bool → Pz → List Nod × Pz) (l : List Nod) (s : Pz) : InI (callR ex l s).2.1 := by
 have := mustR_le [w_one, w_size, w_has, w_eq, w_less, w_add, w_sub, w_mul, w_not, w_and, w_or] s
 have h : (callR ex l s).2.1 = 2 + ((mustR [w_one, w_size, w_has, w_eq, w_less, w_add, w_sub, w_mul, w_not, w_and, w_or] s).1 : Int) := rfl
 rw [h]
 have h2 : (mustR [w_one, w_size, w_has, w_eq, w_less, w_add, w_sub, w_mul, w_not, w_and, w_or] s).1 ≤ 11 := this
 exact in_small (by omega) (by omega)
theorem nodR_bad {bag : Bool} {p m op vk vn ac : Int} {vs an : ByteArray} {am : Bool} {l : List Nod} {s : Pz} (hm : ((l ++ [(⟨op, ⟨vk, vn, vs⟩, ⟨ac, an, am⟩⟩ : Nod)]).length : Int) = m) (h : (bag != decide (op = 2)) = true) : nodR bag p l ⟨op, ⟨vk, vn, vs⟩, ⟨ac, an, am⟩⟩ s = (l ++ [⟨op, ⟨vk, vn, vs⟩, ⟨ac, an, am⟩⟩], failR 5 p (mostR m 32 s)) := by
 unfold nodR
 simp only [h, if_true, hm]
theorem nodR_good {bag : Bool} {p m op vk vn ac : Int} {vs an : ByteArray} {am : Bool} {l : List Nod} {s : Pz} (hm : ((l ++ [(⟨op, ⟨vk, vn, vs⟩, ⟨ac, an, am⟩⟩ : Nod)]).length : Int) = m) (h : (bag != decide (op = 2)) = false) : nodR bag p l ⟨op, ⟨vk, vn, vs⟩, ⟨ac, an, am⟩⟩ s = (l ++ [⟨op, ⟨vk, vn, vs⟩, ⟨ac, an, am⟩⟩], mostR m 32 s) := by
 unfold nodR
 simp only [h, Bool.false_eq_true, if_false, hm]
set_option maxHeartbeats 12800000 in
theorem expr_step (n : Nat) (ih : EOk L g n) : EOk L g (n + 1) := by
 intro w s l bag base A k c h hgb hgr hn hk
 have HIC := Lib.hid (call_step n ih)
 have HR0 := Lib.hid h
 have HR1 := Lib.hid (h.alloc (.cells #[.int .i64 0, .int .i64 0, .int .i64 0, .string ⟨#[]⟩, .int .i64 0, .string ⟨#[]⟩, .bool false] 81))
 have HGL : Hid (g < w.heap.size) := h.lt
 have HGB := Lib.hid hgb
 have HP := Lib.hid h.ok.hd_ok.2.1
 have G0 := Lib.hid (hgr.below keeps_nop ((Below.refl w.heap.size w).alloc (Nat.le_refl _) (.cells #[.int .i64 0, .int .i64 0, .int .i64 0, .string ⟨#[]⟩, .int .i64 0, .string ⟨#[]⟩, .bool false] 81)))
 have F0 := Lib.hid (Fram.of_only (v := .slice A k c) ((Only.refl (r := g) (w := w)).al (.cells #[.int .i64 0, .int .i64 0, .int .i64 0, .string ⟨#[]⟩, .int .i64 0, .string ⟨#[]⟩, .bool false] 81)))
 have B0 := Lib.hid (Ob.made w 81 #[.int .i64 0, .int .i64 0, .int .i64 0, .string ⟨#[]⟩, .int .i64 0, .string ⟨#[]⟩, .bool false])
 have HV := Lib.hid (hgr.own_lt (Nat.le_refl _))
 have hgl := hgr.len
 obtain ⟨i, s1, e1⟩ : ∃ i t, takeR [m_lp] s = (i, t) := ⟨_, _, rfl⟩
 have g1 := take_go h.ok [m_lp]
 have g1l := takeR_len h.ok [m_lp]
 rw [e1] at g1 g1l
 have g1l : s1.rest.length + (if i = 0 then 0 else 1) = s.rest.length := g1l
 have E1 := Lib.hid e1
 by_cases hi : 0 < i
 ·have hi2 : decide ((0 : Int) < (i : Int)) = true := decide_eq_true (by omega)
  rw [if_neg (by omega)] at g1l
  obtain ⟨l2, op, s2, e2⟩ : ∃ a b d, callR (exprR n) l s1 = (a, b, d) := ⟨_, _, _, rfl⟩
  have hop := callR_op (exprR n) l s1
  rw [e2] at hop
  have HOK : Hid ((⟨op, ⟨0, 0, ⟨#[]⟩⟩, ⟨0, ⟨#[]⟩, false⟩⟩ : Nod).ok) := Lib.hid ⟨hop, zeroV_ok, zeroA_ok⟩
  have HE : Hid (exprR (n + 1) l bag s = nodR bag s.hd.p l2 ⟨op, ⟨0, 0, ⟨#[]⟩⟩, ⟨0, ⟨#[]⟩, false⟩⟩ s2) := by show _ = _; rw [exprR, e1, if_pos hi]; simp only [e2]; rfl
  have HN : Hid (s1.rest.length ≤ n ∧ k + 2 * s1.rest.length ≤ 899998) := ⟨by omega, by omega⟩
  have E2 := Lib.hid e2
  clear h hgb hgr hn hk e1 e2 g1 g1l ih hgl hop
  go_enter Tryz.func160, Tryz.ntmps160
  go_wp2_with fail
  go_at_call 119
  refine (phere_any HR0.out).mono ?_
  rintro x u0 ⟨rfl, rfl⟩
  go_wp2_with fail
  go_at_call 120
  refine (ptake_lit HR1.out [m_lp] #[.string ⟨#[40]⟩] 1 rfl rfl (by omega) (by first | rfl | (simp; done) | (simp [World.setCell]; done))).mono ?_
  rintro x u1 ⟨hx, ho, hr⟩
  obtain rfl : x = .returned (.int .i64 (i : Int)) := by rw [hx, E1.out] <;> rfl
  rw [E1.out] at hr
  have F1 := Lib.hid (F0.out.only ho)
  have HR2 := Lib.hid hr
  have G1 := Lib.hid (G0.out.at_only keeps_nop ho HGB.out)
  have B1 := Lib.hid (B0.out.keep (ho.heap B0.out.lt (by have := HGL.out; omega)))
  clear hx ho hr
  go_wp2_with fail
  go_at_call 171
  refine (HIC.out _ s1 l base A k c HR2.out HGB.out G1.out HN.out.1 HN.out.2).mono ?_
  rintro x u2 ⟨A2, k2, c2, hx, hf, hw, hr, hg, hl⟩
  rw [E2.out] at hx hr hg hl
  obtain rfl : x = .returned (.tuple #[.slice A2 k2 c2, .int .i64 op]) := hx
  have HK2 : Hid (k2 ≤ 900000) := by have := HN.out.2; show k2 ≤ 900000; have hl : k2 + 2 * s2.rest.length ≤ k + 2 * s1.rest.length + 2 := hl; omega
  have F2 := Lib.hid (F1.out.trans Ownn.refl hf)
  have W2 := Lib.hid (Ownn.trans (w := w) Ownn.refl hw F1.out.size)
  have HVc := Lib.hid (Ownn.not hw B1.out.lt HV.out)
  have B2 := Lib.hid (hf.ob B1.out (by have := HGL.out; omega) HV.out)
  have z0 := B2.out.cell 0
  have zf := B2.out.frozen 0
  have F3 := Lib.hid (F2.out.new (Nat.le_refl _) 0 (.int .i64 op))
  have HR3 := Lib.hid ((show Rd L u2 g s2 from hr).set HGL.out 0 (.int .i64 op))
  have G3 := Lib.hid ((show Gr 7 NoP u2 base 81 A2 k2 c2 l2 from hg).set HVc.out 0 (.int .i64 op))
  have B3 : Hid (Ob (u2.setCell ⟨w.heap.size, 0, none⟩ (.int .i64 op)) w.heap.size 81 #[.int .i64 op, .int .i64 0, .int .i64 0, .string ⟨#[]⟩, .int .i64 0, .string ⟨#[]⟩, .bool false]) := Lib.hid (by have := B2.out.put 0 (.int .i64 op); simpa using this)
  have y0 := B3.out.cell 0
  have y1 := B3.out.cell 1
  have y2 := B3.out.cell 2
  have y3 := B3.out.cell 3
  have y4 := B3.out.cell 4
  have y5 := B3.out.cell 5
  have y6 := B3.out.cell 6
  clear hf hw hr hg hl
  obtain ⟨w8, hw8⟩ : ∃ x, x = (u2.setCell ⟨w.heap.size, 0, none⟩ (.int .i64 op)) := ⟨_, rfl⟩
  rw [← hw8] at F3 HR3 G3 B3
  have hsz : w8.heap.size = u2.heap.size := by rw [hw8]; simp only [heap_setc]
  have hgl2 := G3.out.len
  have hlen : ((l2 ++ [(⟨op, ⟨0, 0, ⟨#[]⟩⟩, ⟨0, ⟨#[]⟩, false⟩⟩ : Nod)]).length : Int) = (k2 : Int) + 1 := by rw [List.length_append]; simp; omega
  have HLEN := Lib.hid hlen
  have hk63 : k2 < 1000000 := by have := HK2.out; omega
  obtain ⟨A5, c5, v5, r5, g5, b5, f5, o5⟩ := push_nod G3.out HOK.out hk63 (b := u2.heap.size) hsz g
  have F5 := Lib.hid (F3.out.trans W2.out f5)
  have W5 := Lib.hid (Ownn.trans W2.out o5 F3.out.size)
  have HV5 := Lib.hid (Ownn.not (w := w8) o5 B3.out.lt HVc.out)
  have B5 := Lib.hid (f5.ob B3.out (by have := HGL.out; show w.heap.size ≠ g; omega) HVc.out)
  have HR5 := Lib.hid (HR3.out.below b5 HGB.out)
  have R5 := Lib.hid r5
  have G5 := Lib.hid g5
  clear r5 g5 b5 f5 o5 hlen hgl2 hsz F3 HR3 G3 B3
  subst hw8
  go_wp2_with (at_builtin; refine wpList_append_run (o := ⟨some 27, _, _, _, _, _⟩) rfl _ _ _ _ rfl rfl rfl R5.out ?_)
  go_at_call 89
  refine (pmost_any HR5.out ((k2 : Int) + 1) 32).mono ?_
  rintro x u6 ⟨rfl, ho, hr⟩
  have F6 := Lib.hid (F5.out.only ho)
  have HR6 := Lib.hid hr
  have G6 := Lib.hid (G5.out.at_only keeps_nop ho HGB.out)
  have B6 := Lib.hid (B5.out.keep (ho.heap B5.out.lt (by have := HGL.out; omega)))
  have y0 := B6.out.cell 0
  clear ho hr
  cases bag
  ·by_cases hop : op = 2
   ·have HX := Lib.hid (nodR_bad (bag := false) (p := s.hd.p) (s := s2) HLEN.out (by rw [hop]; rfl))
    have hop2 : (op == 2) = true := by rw [hop]; rfl
    clear hop
    go_wp2_with fail
    go_at_call 118
    refine (pfail_any HR6.out (e := 5) (.inl rfl) HP.out).mono ?_
    rintro x u7 ⟨rfl, ho, hr⟩
    have F7 := Lib.hid (F6.out.only ho)
    have HR7 := Lib.hid hr
    have G7 := Lib.hid (G6.out.at_only keeps_nop ho HGB.out)
    clear ho hr
    go_wp2_with fail
    go_ret
    rw [HE.out, HX.out]
    exact ⟨A5, _, c5, rfl, F7.out, W5.out, HR7.out, G7.out⟩
   ·have HX := Lib.hid (nodR_good (bag := false) (p := s.hd.p) (s := s2) HLEN.out (by rw [decide_eq_false hop]; rfl))
    have hop2 : (op == 2) = false := by rw [beq_eq_false_iff_ne]; exact hop
    clear hop
    go_wp2_with fail
    go_ret
    rw [HE.out, HX.out]
    exact ⟨A5, _, c5, rfl, F6.out, W5.out, HR6.out, G6.out⟩
  ·by_cases hop : op = 2
   ·have HX := Lib.hid (nodR_good (bag := true) (p := s.hd.p) (s := s2) HLEN.out (by rw [hop]; rfl))
    have hop2 : (op == 2) = true := by rw [hop]; rfl
    clear hop
    go_wp2_with fail
    go_ret
    rw [HE.out, HX.out]
    exact ⟨A5, _, c5, rfl, F6.out, W5.out, HR6.out, G6.out⟩
   ·have HX := Lib.hid (nodR_bad (bag := true) (p := s.hd.p) (s := s2) HLEN.out (by rw [decide_eq_false hop]; rfl))
    have hop2 : (op == 2) = false := by rw [beq_eq_false_iff_ne]; exact hop
    clear hop
    go_wp2_with fail
    go_at_call 118
    refine (pfail_any HR6.out (e := 5) (.inl rfl) HP.out).mono ?_
    rintro x u7 ⟨rfl, ho, hr⟩
    have F7 := Lib.hid (F6.out.only ho)
    have HR7 := Lib.hid hr
    have G7 := Lib.hid (G6.out.at_only keeps_nop ho HGB.out)
    clear ho hr
    go_wp2_with fail
    go_ret
    rw [HE.out, HX.out]
    exact ⟨A5, _, c5, rfl, F7.out, W5.out, HR7.out, G7.out⟩
 ·obtain rfl : i = 0 := by omega
  obtain ⟨⟨op, ⟨vk, vn, vs⟩, ⟨ac, an, am⟩⟩, s2, e2⟩ : ∃ a t, leafR s1 = (a, t) := ⟨_, _, rfl⟩
  have hok := leaf_ok g1.1
  rw [e2] at hok
  have HOK := Lib.hid hok
  have HE : Hid (exprR (n + 1) l bag s = nodR bag s.hd.p l ⟨op, ⟨vk, vn, vs⟩, ⟨ac, an, am⟩⟩ s2) := by show _ = _; rw [exprR, e1, if_neg hi]; simp only [e2]
  have HK2 : Hid (k ≤ 900000) := by show k ≤ 900000; omega
  have E2 := Lib.hid e2
  have HVc := HV
  clear h hgb hgr hn hk e1 e2 g1 g1l ih hgl hok hi
  go_enter Tryz.func160, Tryz.ntmps160
  go_wp2_with fail
  go_at_call 119
  refine (phere_any HR0.out).mono ?_
  rintro x u0 ⟨rfl, rfl⟩
  go_wp2_with fail
  go_at_call 120
  refine (ptake_lit HR1.out [m_lp] #[.string ⟨#[40]⟩] 1 rfl rfl (by omega) (by first | rfl | (simp; done) | (simp [World.setCell]; done))).mono ?_
  rintro x u1 ⟨hx, ho, hr⟩
  obtain rfl : x = .returned (.int .i64 ((0 : Nat) : Int)) := by rw [hx, E1.out] <;> rfl
  rw [E1.out] at hr
  have F1 := Lib.hid (F0.out.only ho)
  have HR2 := Lib.hid hr
  have G1 := Lib.hid (G0.out.at_only keeps_nop ho HGB.out)
  have B1 := Lib.hid (B0.out.keep (ho.heap B0.out.lt (by have := HGL.out; omega)))
  clear hx ho hr
  go_wp2_with fail
  go_at_call 172
  refine (pleaf_any HR2.out).mono ?_
  rintro x u2 ⟨hx, ho, hr⟩
  obtain rfl : x = .returned (.agg #[.int .i64 op, .int .i64 vk, .int .i64 vn, .string vs, .int .i64 ac, .string an, .bool am]) := by rw [hx, E2.out] <;> rfl
  rw [E2.out] at hr
  have F2 := Lib.hid (F1.out.only ho)
  have G2 := Lib.hid (G1.out.at_only keeps_nop ho HGB.out)
  have B2 := Lib.hid (B1.out.keep (ho.heap B1.out.lt (by have := HGL.out; omega)))
  have W2 : Hid (Ownn (.slice A k c) (.slice A k c) w) := Ownn.refl
  have HRa0 := Lib.hid hr
  have Fa0 := F2
  have Ga0 := G2
  have Ba0 := B2
  have p0 := Ba0.out.cell 0
  have pf0 := Ba0.out.frozen 0
  have Fa1 := Lib.hid (Fa0.out.new (Nat.le_refl _) 0 (.int .i64 op))
  have HRa1 := Lib.hid (HRa0.out.set HGL.out 0 (.int .i64 op))
  have Ga1 := Lib.hid (Ga0.out.set HVc.out 0 (.int .i64 op))
  have Ba1 : Hid (Ob (u2.setCell ⟨w.heap.size, 0, none⟩ (.int .i64 op)) w.heap.size 81 #[.int .i64 op, .int .i64 0, .int .i64 0, .string ⟨#[]⟩, .int .i64 0, .string ⟨#[]⟩, .bool false]) := Lib.hid (by have := Ba0.out.put 0 (.int .i64 op); simpa using this)
  have p1 := Ba1.out.cell 1
  have pf1 := Ba1.out.frozen 1
  have Fa2 := Lib.hid (Fa1.out.new (Nat.le_refl _) 1 (.int .i64 vk))
  have HRa2 := Lib.hid (HRa1.out.set HGL.out 1 (.int .i64 vk))
  have Ga2 := Lib.hid (Ga1.out.set HVc.out 1 (.int .i64 vk))
  have Ba2 : Hid (Ob ((u2.setCell ⟨w.heap.size, 0, none⟩ (.int .i64 op)).setCell ⟨w.heap.size, 1, none⟩ (.int .i64 vk)) w.heap.size 81 #[.int .i64 op, .int .i64 vk, .int .i64 0, .string ⟨#[]⟩, .int .i64 0, .string ⟨#[]⟩, .bool false]) := Lib.hid (by have := Ba1.out.put 1 (.int .i64 vk); simpa using this)
  have p2 := Ba2.out.cell 2
  have pf2 := Ba2.out.frozen 2
  have Fa3 := Lib.hid (Fa2.out.new (Nat.le_refl _) 2 (.int .i64 vn))
  have HRa3 := Lib.hid (HRa2.out.set HGL.out 2 (.int .i64 vn))
  have Ga3 := Lib.hid (Ga2.out.set HVc.out 2 (.int .i64 vn))
  have Ba3 : Hid (Ob (((u2.setCell ⟨w.heap.size, 0, none⟩ (.int .i64 op)).setCell ⟨w.heap.size, 1, none⟩ (.int .i64 vk)).setCell ⟨w.heap.size, 2, none⟩ (.int .i64 vn)) w.heap.size 81 #[.int .i64 op, .int .i64 vk, .int .i64 vn, .string ⟨#[]⟩, .int .i64 0, .string ⟨#[]⟩, .bool false]) := Lib.hid (by have := Ba2.out.put 2 (.int .i64 vn); simpa using this)
  have p3 := Ba3.out.cell 3
  have pf3 := Ba3.out.frozen 3
  have Fa4 := Lib.hid (Fa3.out.new (Nat.le_refl _) 3 (.string vs))
  have HRa4 := Lib.hid (HRa3.out.set HGL.out 3 (.string vs))
  have Ga4 := Lib.hid (Ga3.out.set HVc.out 3 (.string vs))
  have Ba4 : Hid (Ob ((((u2.setCell ⟨w.heap.size, 0, none⟩ (.int .i64 op)).setCell ⟨w.heap.size, 1, none⟩ (.int .i64 vk)).setCell ⟨w.heap.size, 2, none⟩ (.int .i64 vn)).setCell ⟨w.heap.size, 3, none⟩ (.string vs)) w.heap.size 81 #[.int .i64 op, .int .i64 vk, .int .i64 vn, .string vs, .int .i64 0, .string ⟨#[]⟩, .bool false]) := Lib.hid (by have := Ba3.out.put 3 (.string vs); simpa using this)
  have p4 := Ba4.out.cell 4
  have pf4 := Ba4.out.frozen 4
  have Fa5 := Lib.hid (Fa4.out.new (Nat.le_refl _) 4 (.int .i64 ac))
  have HRa5 := Lib.hid (HRa4.out.set HGL.out 4 (.int .i64 ac))
  have Ga5 := Lib.hid (Ga4.out.set HVc.out 4 (.int .i64 ac))
  have Ba5 : Hid (Ob (((((u2.setCell ⟨w.heap.size, 0, none⟩ (.int .i64 op)).setCell ⟨w.heap.size, 1, none⟩ (.int .i64 vk)).setCell ⟨w.heap.size, 2, none⟩ (.int .i64 vn)).setCell ⟨w.heap.size, 3, none⟩ (.string vs)).setCell ⟨w.heap.size, 4, none⟩ (.int .i64 ac)) w.heap.size 81 #[.int .i64 op, .int .i64 vk, .int .i64 vn, .string vs, .int .i64 ac, .string ⟨#[]⟩, .bool false]) := Lib.hid (by have := Ba4.out.put 4 (.int .i64 ac); simpa using this)
  have p5 := Ba5.out.cell 5
  have pf5 := Ba5.out.frozen 5
  have Fa6 := Lib.hid (Fa5.out.new (Nat.le_refl _) 5 (.string an))
  have HRa6 := Lib.hid (HRa5.out.set HGL.out 5 (.string an))
  have Ga6 := Lib.hid (Ga5.out.set HVc.out 5 (.string an))
  have Ba6 : Hid (Ob ((((((u2.setCell ⟨w.heap.size, 0, none⟩ (.int .i64 op)).setCell ⟨w.heap.size, 1, none⟩ (.int .i64 vk)).setCell ⟨w.heap.size, 2, none⟩ (.int .i64 vn)).setCell ⟨w.heap.size, 3, none⟩ (.string vs)).setCell ⟨w.heap.size, 4, none⟩ (.int .i64 ac)).setCell ⟨w.heap.size, 5, none⟩ (.string an)) w.heap.size 81 #[.int .i64 op, .int .i64 vk, .int .i64 vn, .string vs, .int .i64 ac, .string an, .bool false]) := Lib.hid (by have := Ba5.out.put 5 (.string an); simpa using this)
  have p6 := Ba6.out.cell 6
  have pf6 := Ba6.out.frozen 6
  have Fa7 := Lib.hid (Fa6.out.new (Nat.le_refl _) 6 (.bool am))
  have HRa7 := Lib.hid (HRa6.out.set HGL.out 6 (.bool am))
  have Ga7 := Lib.hid (Ga6.out.set HVc.out 6 (.bool am))
  have Ba7 : Hid (Ob (((((((u2.setCell ⟨w.heap.size, 0, none⟩ (.int .i64 op)).setCell ⟨w.heap.size, 1, none⟩ (.int .i64 vk)).setCell ⟨w.heap.size, 2, none⟩ (.int .i64 vn)).setCell ⟨w.heap.size, 3, none⟩ (.string vs)).setCell ⟨w.heap.size, 4, none⟩ (.int .i64 ac)).setCell ⟨w.heap.size, 5, none⟩ (.string an)).setCell ⟨w.heap.size, 6, none⟩ (.bool am)) w.heap.size 81 #[.int .i64 op, .int .i64 vk, .int .i64 vn, .string vs, .int .i64 ac, .string an, .bool am]) := Lib.hid (by have := Ba6.out.put 6 (.bool am); simpa using this)
  have y0 := Ba7.out.cell 0
  have y1 := Ba7.out.cell 1
  have y2 := Ba7.out.cell 2
  have y3 := Ba7.out.cell 3
  have y4 := Ba7.out.cell 4
  have y5 := Ba7.out.cell 5
  have y6 := Ba7.out.cell 6
  clear hx ho hr
  obtain ⟨w8, hw8⟩ : ∃ x, x = (((((((u2.setCell ⟨w.heap.size, 0, none⟩ (.int .i64 op)).setCell ⟨w.heap.size, 1, none⟩ (.int .i64 vk)).setCell ⟨w.heap.size, 2, none⟩ (.int .i64 vn)).setCell ⟨w.heap.size, 3, none⟩ (.string vs)).setCell ⟨w.heap.size, 4, none⟩ (.int .i64 ac)).setCell ⟨w.heap.size, 5, none⟩ (.string an)).setCell ⟨w.heap.size, 6, none⟩ (.bool am)) := ⟨_, rfl⟩
  rw [← hw8] at Fa7 HRa7 Ga7 Ba7
  have hsz : w8.heap.size = u2.heap.size := by rw [hw8]; simp only [heap_setc]
  have hgl2 := Ga7.out.len
  have hlen : ((l ++ [(⟨op, ⟨vk, vn, vs⟩, ⟨ac, an, am⟩⟩ : Nod)]).length : Int) = (k : Int) + 1 := by rw [List.length_append]; simp; omega
  have HLEN := Lib.hid hlen
  have hk63 : k < 1000000 := by have := HK2.out; omega
  obtain ⟨A5, c5, v5, r5, g5, b5, f5, o5⟩ := push_nod Ga7.out HOK.out hk63 (b := u2.heap.size) hsz g
  have F5 := Lib.hid (Fa7.out.trans W2.out f5)
  have W5 := Lib.hid (Ownn.trans W2.out o5 Fa7.out.size)
  have HV5 := Lib.hid (Ownn.not (w := w8) o5 Ba7.out.lt HVc.out)
  have B5 := Lib.hid (f5.ob Ba7.out (by have := HGL.out; show w.heap.size ≠ g; omega) HVc.out)
  have HR5 := Lib.hid (HRa7.out.below b5 HGB.out)
  have R5 := Lib.hid r5
  have G5 := Lib.hid g5
  clear r5 g5 b5 f5 o5 hlen hgl2 hsz Fa7 HRa7 Ga7 Ba7
  subst hw8
  go_wp2_with (at_builtin; refine wpList_append_run (o := ⟨some 27, _, _, _, _, _⟩) rfl _ _ _ _ rfl rfl rfl R5.out ?_)
  go_at_call 89
  refine (pmost_any HR5.out ((k : Int) + 1) 32).mono ?_
  rintro x u6 ⟨rfl, ho, hr⟩
  have F6 := Lib.hid (F5.out.only ho)
  have HR6 := Lib.hid hr
  have G6 := Lib.hid (G5.out.at_only keeps_nop ho HGB.out)
  have B6 := Lib.hid (B5.out.keep (ho.heap B5.out.lt (by have := HGL.out; omega)))
  have y0 := B6.out.cell 0
  clear ho hr
  cases bag
  ·by_cases hop : op = 2
   ·have HX := Lib.hid (nodR_bad (bag := false) (p := s.hd.p) (s := s2) HLEN.out (by rw [hop]; rfl))
    have hop2 : (op == 2) = true := by rw [hop]; rfl
    clear hop
    go_wp2_with fail
    go_at_call 118
    refine (pfail_any HR6.out (e := 5) (.inl rfl) HP.out).mono ?_
    rintro x u7 ⟨rfl, ho, hr⟩
    have F7 := Lib.hid (F6.out.only ho)
    have HR7 := Lib.hid hr
    have G7 := Lib.hid (G6.out.at_only keeps_nop ho HGB.out)
    clear ho hr
    go_wp2_with fail
    go_ret
    rw [HE.out, HX.out]
    exact ⟨A5, _, c5, rfl, F7.out, W5.out, HR7.out, G7.out⟩
   ·have HX := Lib.hid (nodR_good (bag := false) (p := s.hd.p) (s := s2) HLEN.out (by rw [decide_eq_false hop]; rfl))
    have hop2 : (op == 2) = false := by rw [beq_eq_false_iff_ne]; exact hop
    clear hop
    go_wp2_with fail
    go_ret
    rw [HE.out, HX.out]
    exact ⟨A5, _, c5, rfl, F6.out, W5.out, HR6.out, G6.out⟩
  ·by_cases hop : op = 2
   ·have HX := Lib.hid (nodR_good (bag := true) (p := s.hd.p) (s := s2) HLEN.out (by rw [hop]; rfl))
    have hop2 : (op == 2) = true := by rw [hop]; rfl
    clear hop
    go_wp2_with fail
    go_ret
    rw [HE.out, HX.out]
    exact ⟨A5, _, c5, rfl, F6.out, W5.out, HR6.out, G6.out⟩
   ·have HX := Lib.hid (nodR_bad (bag := true) (p := s.hd.p) (s := s2) HLEN.out (by rw [decide_eq_false hop]; rfl))
    have hop2 : (op == 2) = false := by rw [beq_eq_false_iff_ne]; exact hop
    clear hop
    go_wp2_with fail
    go_at_call 118
    refine (pfail_any HR6.out (e := 5) (.inl rfl) HP.out).mono ?_
    rintro x u7 ⟨rfl, ho, hr⟩
    have F7 := Lib.hid (F6.out.only ho)
    have HR7 := Lib.hid hr
    have G7 := Lib.hid (G6.out.at_only keeps_nop ho HGB.out)
    clear ho hr
    go_wp2_with fail
    go_ret
    rw [HE.out, HX.out]
    exact ⟨A5, _, c5, rfl, F7.out, W5.out, HR7.out, G7.out⟩
theorem expr_all : ∀ n, EOk L g n
 | 0 => fun w s l bag base A k c h _ _ hn _ => by have := h.ok.pos; omega
 | n + 1 => expr_step n (expr_all n)
set_option maxHeartbeats 800000 in
theorem pcond_any {w : World} {s : Pz} (h : Rd L w g s) : Calls Tryz.prog 148 #[.pointer (some ⟨g, 0, none⟩)] w fun x w' => ∃ A n c, x = .returned (.slice A n c) ∧ Only g w w' ∧ Rd L w' g (condR s).2 ∧ Nds w' (fun b => w.heap.size ≤ b) A n c (condR s).1 := by
 have HR0 := Lib.hid h
 obtain ⟨i, s1, e1⟩ : ∃ i t, takeR [w_if] s = (i, t) := ⟨_, _, rfl⟩
 have E1 := Lib.hid e1
 have hl0 : s.rest.length ≤ 5000 := h.ok.2.2.1.1
 have hgo := take_go h.ok [w_if]
 rw [e1] at hgo
 by_cases hi : i = 0
 ·have HE : Hid (condR s = ([], s1)) := by show _ = _; unfold condR; rw [e1, if_pos hi]
  rw [HE.out]
  subst hi
  clear h e1 hgo
  go_enter Tryz.func148, Tryz.ntmps148
  go_wp2_with fail
  go_at_call 120
  refine (ptake_lit HR0.out [w_if] #[.string ⟨#[105, 102]⟩] 1 rfl rfl (by omega) rfl).mono ?_
  rintro x u1 ⟨hx, ho, hr⟩
  obtain rfl : x = .returned (.int .i64 ((0 : Nat) : Int)) := by rw [hx, E1.out] <;> rfl
  rw [E1.out] at hr
  have HO1 := Lib.hid ho
  have HR1 := Lib.hid hr
  clear ho hr hx
  go_wp2_with fail
  go_ret
  exact ⟨none, 0, 0, rfl, HO1.out, HR1.out, Rw.nil_ _ _ _ _⟩
 ·have HE : Hid (condR s = exprR s1.rest.length [] false s1) := by show _ = _; unfold condR; rw [e1, if_neg hi]
  rw [HE.out]
  have HLE : Hid (s1.rest.length ≤ 5000 ∧ (exprR s1.rest.length [] false s1).1.length ≤ 20000) := by
   have h1 : s1.rest.length ≤ s.rest.length := hgo.2
   have h2 := (expr_go s1.rest.length [] false s1 hgo.1 (Nat.le_refl _)).2
   simp only [List.length_nil] at h2
   exact ⟨by omega, by omega⟩
  have hi2 : ((i : Int) == 0) = false := by rw [beq_eq_false_iff_ne]; omega
  have HGL : Hid (g < w.heap.size) := h.lt
  clear h e1 hgo
  go_enter Tryz.func148, Tryz.ntmps148
  go_wp2_with fail
  go_at_call 120
  refine (ptake_lit HR0.out [w_if] #[.string ⟨#[105, 102]⟩] 1 rfl rfl (by omega) rfl).mono ?_
  rintro x u1 ⟨hx, ho, hr⟩
  obtain rfl : x = .returned (.int .i64 (i : Int)) := by rw [hx, E1.out] <;> rfl
  rw [E1.out] at hr
  have HO1 := Lib.hid ho
  have HR1 := Lib.hid hr
  clear ho hr hx
  go_wp2_with fail
  go_at_call 160
  refine (expr_all s1.rest.length u1 s1 [] false w.heap.size none 0 0 HR1.out HGL.out (Gr.nil _ _ HO1.out.size) (Nat.le_refl _) (by have := HLE.out; omega)).mono ?_
  rintro x u2 ⟨A2, k2, c2, rfl, hf, hw, hr, hg⟩
  have HO2 : Hid (Only g w u2) := ⟨hf.1.trans HO1.out.os, hf.2.1.trans HO1.out.tape, hf.2.2.1.trans HO1.out.output, Nat.le_trans HO1.out.size hf.size, fun b hb hne => (hf.heap (Nat.lt_of_lt_of_le hb HO1.out.size) (fun e => hne (by rw [e])) (by simp [Value.ownBlock])).trans (HO1.out.block b hb hne)⟩
  have HR2 := Lib.hid hr
  have HG2 := Lib.hid hg
  have HL2 := Lib.hid hg.len
  clear hf hw hr hg
  go_wp2_with fail
  go_ret
  exact ⟨A2, k2, c2, rfl, HO2.out, HR2.out, HG2.out.rw keeps_nop (by have := HL2.out; have := HLE.out; omega)⟩
end
end Go.Proofs.YtmoglaknmlhpgaaGreatDoor
/- The parser, plainly: who counts rules; what takes a token. -/
namespace Go.Proofs.YtmoglaknmlhpgaaGreatDoor
set_option linter.unusedVariables false

section
variable {L : Nat} {s s1 s2 : Pz}
theorem failR_met (e p : Int) (s : Pz) : (failR e p s).met = s.met := by unfold failR; split <;> rfl
theorem wrongR_met (s : Pz) : (wrongR s).met = s.met := failR_met _ _ _
theorem mostR_met (n l : Int) (s : Pz) : (mostR n l s).met = s.met := by
 unfold mostR
 split
 ·exact failR_met _ _ _
 ·rfl
theorem takeR_met (ws : List ByteArray) (s : Pz) : (takeR ws s).2.met = s.met := by unfold takeR; split <;> rfl
theorem mustR_met (ws : List ByteArray) (s : Pz) : (mustR ws s).2.met = s.met := by
 unfold mustR
 split
 ·exact wrongR_met _
 ·rfl
theorem nameR_met (s : Pz) : (nameR s).2.met = s.met := by
 unfold nameR
 split
 ·rfl
 ·exact wrongR_met _
theorem attrR_met (cat : Int) (s : Pz) : (attrR cat s).2.met = s.met := by
 unfold attrR
 simp only
 rw [takeR_met, nameR_met, mustR_met]
 split
 ·exact wrongR_met _
 ·rfl
theorem valueR_met (s : Pz) : (valueR s).2.met = s.met := by
 unfold valueR
 split
 ·exact mustR_met _ _
 ·rfl
theorem catR_met (s : Pz) : (catR s).2.met = s.met := takeR_met _ _
theorem matchR_met (s : Pz) : (matchR s).2.met = s.met := by
 unfold matchR
 simp only
 rw [valueR_met, mustR_met, attrR_met, catR_met]
theorem leafR_met (s : Pz) : (leafR s).2.met = s.met := by
 unfold leafR
 split
 ·simp only; rw [attrR_met, catR_met]
 ·simp only; rw [valueR_met, catR_met]
theorem rowR_met {α : Type} {one : Pz → α × Pz} {btw : ByteArray} (ho : ∀ s, (one s).2.met = s.met) : ∀ (n : Nat) (l : List α) (s : Pz), (rowR one btw n l s).2.met = s.met
 | 0, _, _ => rfl
 | n + 1, l, s => by
  unfold rowR
  simp only
  split
  ·rw [takeR_met, mostR_met, ho]
  ·rw [rowR_met ho n, takeR_met, mostR_met, ho]
theorem allOfR_met (s : Pz) : (allOfR s).2.met = s.met := rowR_met matchR_met _ _ _
theorem anyOfR_met (s : Pz) : (anyOfR s).2.met = s.met := by
 unfold anyOfR
 simp only
 rw [mustR_met, rowR_met allOfR_met, mustR_met]
theorem targetR_met (s : Pz) : (targetR s).2.met = s.met := by
 unfold targetR
 split
 ·exact takeR_met _ _
 ·rw [rowR_met anyOfR_met, takeR_met]
theorem dutiesR_met : ∀ (n : Nat) (l : List Dut) (s : Pz), (dutiesR n l s).2.met = s.met
 | 0, _, _ => rfl
 | n + 1, l, s => by
  unfold dutiesR
  split
  ·exact takeR_met _ _
  ·simp only
   rw [dutiesR_met n, mostR_met, nameR_met, mustR_met, mustR_met, takeR_met]
theorem dutsR_met (s : Pz) : (dutsR s).2.met = s.met := dutiesR_met _ _ _
theorem nodR_met (bag : Bool) (p : Int) (l : List Nod) (n : Nod) (s : Pz) : (nodR bag p l n s).2.met = s.met := by
 unfold nodR
 simp only
 split
 ·rw [failR_met, mostR_met]
 ·rw [mostR_met]
theorem callR_met {ex : List Nod → Bool → Pz → List Nod × Pz} (he : ∀ l b s, (ex l b s).2.met = s.met) (l : List Nod) (s : Pz) : (callR ex l s).2.2.met = s.met := by
 unfold callR
 simp only
 rw [mustR_met]
 split
 ·rw [he, he, mustR_met]
 ·rw [he, mustR_met]
theorem exprR_met : ∀ (n : Nat) (l : List Nod) (b : Bool) (s : Pz), (exprR n l b s).2.met = s.met
 | 0, _, _, _ => rfl
 | n + 1, l, b, s => by
  unfold exprR
  split
  ·simp only
   rw [nodR_met, callR_met (exprR_met n), takeR_met]
  ·rw [nodR_met, leafR_met, takeR_met]
theorem condR_met (s : Pz) : (condR s).2.met = s.met := by
 unfold condR
 split
 ·exact takeR_met _ _
 ·rw [exprR_met, takeR_met]
theorem ruleR_met (s : Pz) : (ruleR s).2.met = s.met := by
 unfold ruleR
 simp only
 rw [mustR_met, dutsR_met, condR_met, targetR_met, nameR_met, mustR_met]

theorem most_or (h : s.ok L) (n l : Int) : mostR n l s = s ∨ (mostR n l s).rest.length = 1 := by
 unfold mostR
 split
 ·exact .inr (failR_len _ _ h)
 ·exact .inl rfl
theorem sees_more (h : s.ok L) {ws : List ByteArray} (h0 : seesR ws s ≠ 0) : 2 ≤ s.rest.length := h.more (seesR_more h h0)
theorem sees_one (h : s.ok L) (h1 : s.rest.length = 1) (ws : List ByteArray) : seesR ws s = 0 := by
 apply Decidable.byContradiction
 intro h0
 have := sees_more h h0
 omega
theorem must_one (h : s.ok L) (h1 : s.rest.length = 1) (ws : List ByteArray) : (mustR ws s).1 = 0 := by
 unfold mustR
 rw [if_pos (sees_one h h1 ws)]
theorem must_less (h : s.ok L) {ws : List ByteArray} (h0 : seesR ws s ≠ 0) : (mustR ws s).2.rest.length + 1 = s.rest.length := by
 have := sees_more h h0
 unfold mustR
 rw [if_neg h0]
 show (nextR s).rest.length + 1 = _
 rw [nextR_len]
 omega
theorem rule_less (h : s.ok L) (h0 : seesR [w_permit, w_deny] s ≠ 0) : (ruleR s).2.rest.length < s.rest.length := by
 have h1 := must_less h h0
 have h2 := (((((Goes.refl (h.must [w_permit, w_deny])).trans fun h => name_go h).trans fun h => target_go h).trans fun h => cond_go h).trans fun h => duts_go h).trans fun h => must_go h [m_semi]
 have h3 : (ruleR s).2.rest.length ≤ (mustR [w_permit, w_deny] s).2.rest.length := by unfold ruleR; simp only; exact h2.2
 omega
theorem met_ok (h : s.ok L) (hm : s.met + s.rest.length ≤ 5990) : (metR s).ok L := by
 obtain ⟨h1, h2, h3, h4⟩ := h
 exact ⟨h1, h2, ⟨h3.1, by show s.met + 1 + s.rest.length ≤ 6000; omega, h3.2.2⟩, h4⟩
theorem metR_sees (ws : List ByteArray) (s : Pz) : seesR ws (metR s) = seesR ws s := rfl
theorem round_rule (h : s.ok L) (hm : s.met + s.rest.length ≤ 5990) (h0 : seesR [w_permit, w_deny] s ≠ 0) (n : Int) :
  (mostR n 16 (metR s)).ok L ∧ (mostR ((mostR n 16 (metR s)).met : Int) 64 (mostR n 16 (metR s))).ok L ∧ (mostR n 16 (metR s)).met = s.met + 1 ∧
  Goes L s (ruleR (mostR ((mostR n 16 (metR s)).met : Int) 64 (mostR n 16 (metR s)))).2 ∧ (ruleR (mostR ((mostR n 16 (metR s)).met : Int) 64 (mostR n 16 (metR s)))).2.rest.length < s.rest.length ∧
  (ruleR (mostR ((mostR n 16 (metR s)).met : Int) 64 (mostR n 16 (metR s)))).2.met = s.met + 1 := by
 have k0 := met_ok h hm
 have k1 := k0.most n 16
 have e1 : (mostR n 16 (metR s)).met = s.met + 1 := mostR_met _ _ _
 have k2 := k1.most ((mostR n 16 (metR s)).met : Int) 64
 have hr : (metR s).rest.length = s.rest.length := rfl
 have l2 := sees_more h h0
 have lr := rule_go k2
 have key : (ruleR (mostR ((mostR n 16 (metR s)).met : Int) 64 (mostR n 16 (metR s)))).2.rest.length < s.rest.length := by
  rcases most_or k1 ((mostR n 16 (metR s)).met : Int) 64 with e | e
  ·rcases most_or k0 n 16 with e' | e'
   ·rw [e, e']
    have := rule_less k0 (by rw [metR_sees]; exact h0)
    omega
   ·have := lr.2
    rw [e] at this ⊢
    omega
  ·have := lr.2
   omega
 refine ⟨k1, k2, e1, ⟨lr.1, by omega⟩, key, ?_⟩
 rw [ruleR_met, mostR_met, e1]
theorem rules_go : ∀ (n : Nat) (l : List Rul) (s : Pz), s.ok L → s.met + s.rest.length ≤ 5990 → Goes L s (rulesR n l s).2 ∧ (rulesR n l s).2.met + (rulesR n l s).2.rest.length ≤ s.met + s.rest.length
 | 0, l, s, h, hm => ⟨.refl h, Nat.le_refl _⟩
 | n + 1, l, s, h, hm => by
  unfold rulesR
  split
  ·exact ⟨.refl h, Nat.le_refl _⟩
  ·rename_i h0
   obtain ⟨k1, k2, e1, g, hl, hmt⟩ := round_rule h hm h0 ((l.length : Int) + 1)
   simp only
   obtain ⟨a, b⟩ := rules_go n (l ++ [(ruleR (mostR ((mostR ((l.length : Int) + 1) 16 (metR s)).met : Int) 64 (mostR ((l.length : Int) + 1) 16 (metR s)))).1]) _ g.1 (by omega)
   exact ⟨g.trans fun _ => a, by omega⟩
def PoGo (L : Nat) (po : Pz → Pol × Pz) : Prop := ∀ s : Pz, s.ok L → s.met + s.rest.length ≤ 5990 → Goes L s (po s).2 ∧ (po s).2.met + (po s).2.rest.length ≤ s.met + s.rest.length ∧ (seesR [w_policy, w_set] s ≠ 0 → (po s).2.rest.length < s.rest.length)
theorem most_sum (h : s.ok L) (n l : Int) : (mostR n l s).met + (mostR n l s).rest.length ≤ s.met + s.rest.length := by
 have := mostR_len h n l
 rw [mostR_met]
 omega
theorem round_kid {po : Pz → Pol × Pz} (hp : PoGo L po) (h : s.ok L) (hm : s.met + s.rest.length ≤ 5990) (h0 : seesR [w_policy, w_set] s ≠ 0) (n : Int) :
  Goes L s (po (mostR n 16 s)).2 ∧ (po (mostR n 16 s)).2.rest.length < s.rest.length ∧ (po (mostR n 16 s)).2.met + (po (mostR n 16 s)).2.rest.length ≤ s.met + s.rest.length := by
 have k1 := h.most n 16
 have l1 := mostR_len h n 16
 have m1 := most_sum h n 16
 have l2 := sees_more h h0
 obtain ⟨a, b, c⟩ := hp _ k1 (by omega)
 refine ⟨⟨a.1, Nat.le_trans a.2 l1⟩, ?_, by omega⟩
 rcases most_or h n 16 with e | e
 ·rw [e] at c ⊢
  exact c h0
 ·have := a.2
  omega
theorem kids_go {po : Pz → Pol × Pz} (hp : PoGo L po) : ∀ (n : Nat) (l : List Pol) (s : Pz), s.ok L → s.met + s.rest.length ≤ 5990 → Goes L s (kidsR po n l s).2 ∧ (kidsR po n l s).2.met + (kidsR po n l s).2.rest.length ≤ s.met + s.rest.length
 | 0, l, s, h, hm => ⟨.refl h, Nat.le_refl _⟩
 | n + 1, l, s, h, hm => by
  unfold kidsR
  split
  ·exact ⟨.refl h, Nat.le_refl _⟩
  ·rename_i h0
   obtain ⟨g, hl, hmt⟩ := round_kid hp h hm h0 ((l.length : Int) + 1)
   simp only
   obtain ⟨a, b⟩ := kids_go hp n (l ++ [(po (mostR ((l.length : Int) + 1) 16 s)).1]) _ g.1 (by omega)
   exact ⟨g.trans fun _ => a, by omega⟩
def Go2 (L : Nat) (s s' : Pz) : Prop := Goes L s s' ∧ s'.met + s'.rest.length ≤ s.met + s.rest.length
theorem Go2.of (g : Goes L s s1) (m : s1.met = s.met) : Go2 L s s1 := ⟨g, by have := g.2; omega⟩
theorem Go2.trans (h1 : Go2 L s s1) (h2 : s1.ok L → Go2 L s1 s2) : Go2 L s s2 := ⟨h1.1.trans fun h => (h2 h).1, Nat.le_trans (h2 h1.1.1).2 h1.2⟩
abbrev w_algs : List ByteArray := [w_denyover, w_permitover, w_first, w_only, w_denyunless, w_permitunless]
def inR (f : Nat) (a : Nat) (s : Pz) : List Rul × List Pol × Pz :=
 if a = 2 then ([], kidsR (polR f) s.rest.length [] s) else ((rulesR s.rest.length [] s).1, [], (rulesR s.rest.length [] s).2)
theorem polR_eq (f : Nat) (s : Pz) {s0 s1 s2 s3 s4 s5 s6 s7 s8 : Pz} {a c d e : Nat} {b : ByteArray} {t : Tgt} {r : List Rul} {k : List Pol} {o : List Dut} (h0 : mostR (5 - (f : Int)) 4 s = s0) (h1 : mustR [w_policy, w_set] s0 = (a, s1)) (h2 : nameR s1 = (b, s2)) (h3 : mustR w_algs s2 = (c, s3))
  (h4 : targetR s3 = (t, s4)) (h5 : mustR [m_lb] s4 = (d, s5)) (h6 : inR f a s5 = (r, k, s6)) (h7 : mustR [m_rb] s6 = (e, s7)) (h8 : dutsR s7 = (o, s8)) :
  polR (f + 1) s = (.mk b (decide (a = 2)) (c : Int) t r k o, s8) := by
 unfold polR
 simp only [h0, h1, h2, h3, h4, h5]
 unfold inR at h6
 split at h6
 ·rename_i ha
  have e1 : ((kidsR (polR f) s5.rest.length [] s5).1, (kidsR (polR f) s5.rest.length [] s5).2) = (k, s6) := by injection h6
  have e2 : ([] : List Rul) = r := by injection h6
  injection e1 with e3 e4
  subst e2 e3 e4
  simp only [if_pos ha, h7, h8]
 ·rename_i ha
  injection h6 with e1 e2
  injection e2 with e2 e3
  subst e1 e2 e3
  simp only [if_neg ha, h7, h8]
theorem pol_step (f : Nat) (ih : ∀ f', f = f' + 1 → PoGo L (polR f)) : ∀ s : Pz, s.ok L → s.met + s.rest.length ≤ 5990 → ∀ {a : Nat} {s1 : Pz}, mustR [w_policy, w_set] (mostR (5 - (f : Int)) 4 s) = (a, s1) →
  ∀ s5 : Pz, Go2 L s1 s5 → s5.ok L → s5.met + s5.rest.length ≤ 5990 → Go2 L s5 (inR f a s5).2.2 := by
 intro s h hm a s1 h1 s5 g5 k5 m5
 unfold inR
 split
 ·rename_i ha
  match f, ih with
  | 0, ih =>
   have h5 : (mostR (5 - ((0 : Nat) : Int)) 4 s).rest.length = 1 := by
    unfold mostR
    rw [if_pos (by omega)]
    exact failR_len _ _ h
   have := must_one (h.most (5 - ((0 : Nat) : Int)) 4) h5 [w_policy, w_set]
   rw [h1] at this
   simp only at this
   omega
  | f' + 1, ih => exact kids_go (ih f' rfl) _ _ _ k5 m5
 ·exact rules_go _ _ _ k5 m5
theorem pol_key (f : Nat) (ih : ∀ f', f = f' + 1 → PoGo L (polR f)) : PoGo L (polR (f + 1)) := by
 intro s h hm
 obtain ⟨s0, h0⟩ : ∃ t, mostR (5 - (f : Int)) 4 s = t := ⟨_, rfl⟩
 obtain ⟨a, s1, h1⟩ : ∃ a t, mustR [w_policy, w_set] s0 = (a, t) := ⟨_, _, rfl⟩
 obtain ⟨b, s2, h2⟩ : ∃ a t, nameR s1 = (a, t) := ⟨_, _, rfl⟩
 obtain ⟨c, s3, h3⟩ : ∃ a t, mustR w_algs s2 = (a, t) := ⟨_, _, rfl⟩
 obtain ⟨t, s4, h4⟩ : ∃ a t, targetR s3 = (a, t) := ⟨_, _, rfl⟩
 obtain ⟨d, s5, h5⟩ : ∃ a t, mustR [m_lb] s4 = (a, t) := ⟨_, _, rfl⟩
 obtain ⟨r, k, s6, h6⟩ : ∃ x y z, inR f a s5 = (x, y, z) := ⟨_, _, _, rfl⟩
 obtain ⟨e, s7, h7⟩ : ∃ a t, mustR [m_rb] s6 = (a, t) := ⟨_, _, rfl⟩
 obtain ⟨o, s8, h8⟩ : ∃ a t, dutsR s7 = (a, t) := ⟨_, _, rfl⟩
 have G0 : Go2 L s s0 := .of (h0 ▸ most_go h _ _) (h0 ▸ mostR_met _ _ _)
 have k0 := G0.1.1
 have G1 : Go2 L s0 s1 := .of (by have := must_go k0 [w_policy, w_set]; rwa [h1] at this) (by have := mustR_met [w_policy, w_set] s0; rwa [h1] at this)
 have k1 := G1.1.1
 have G2 : Go2 L s1 s2 := .of (by have := name_go k1; rwa [h2] at this) (by have := nameR_met s1; rwa [h2] at this)
 have k2 := G2.1.1
 have G3 : Go2 L s2 s3 := .of (by have := must_go k2 w_algs; rwa [h3] at this) (by have := mustR_met w_algs s2; rwa [h3] at this)
 have k3 := G3.1.1
 have G4 : Go2 L s3 s4 := .of (by have := target_go k3; rwa [h4] at this) (by have := targetR_met s3; rwa [h4] at this)
 have k4 := G4.1.1
 have G5 : Go2 L s4 s5 := .of (by have := must_go k4 [m_lb]; rwa [h5] at this) (by have := mustR_met [m_lb] s4; rwa [h5] at this)
 have k5 := G5.1.1
 have G15 : Go2 L s1 s5 := ((G2.trans fun _ => G3).trans fun _ => G4).trans fun _ => G5
 have G6 : Go2 L s5 s6 := by
  have := pol_step f ih s h hm (by rw [h0]; exact h1) s5 G15 k5 (by have := G0.2; have := G1.2; have := G15.2; omega)
  rwa [h6] at this
 have k6 := G6.1.1
 have G7 : Go2 L s6 s7 := .of (by have := must_go k6 [m_rb]; rwa [h7] at this) (by have := mustR_met [m_rb] s6; rwa [h7] at this)
 have k7 := G7.1.1
 have G8 : Go2 L s7 s8 := .of (by have := duts_go k7; rwa [h8] at this) (by have := dutsR_met s7; rwa [h8] at this)
 have G18 : Go2 L s1 s8 := ((G15.trans fun _ => G6).trans fun _ => G7).trans fun _ => G8
 have G08 := G0.trans fun _ => G1.trans fun _ => G18
 rw [polR_eq f s h0 h1 h2 h3 h4 h5 h6 h7 h8]
 refine ⟨G08.1, G08.2, fun hs => ?_⟩
 have l2 := sees_more h hs
 have := G18.1.2
 rcases most_or h (5 - (f : Int)) 4 with e | e
 ·rw [h0] at e
  subst e
  have := must_less k0 hs
  rw [h1] at this
  simp only at this ⊢
  omega
 ·rw [h0] at e
  have := G1.1.2
  simp only
  omega
theorem pol_go : ∀ f : Nat, PoGo L (polR (f + 1))
  | 0 => pol_key 0 (fun f' e => by omega)
  | f + 1 => pol_key (f + 1) (fun f' e => by obtain rfl : f = f' := by omega
                                             exact pol_go f)
end
end Go.Proofs.YtmoglaknmlhpgaaGreatDoor
/- Rows of rules and of policies that grow; a policy that is returned. -/
namespace Go.Proofs.YtmoglaknmlhpgaaGreatDoor
set_option linter.unusedVariables false
open Go.RowKit

theorem ruleinfo : (Tryz.prog.info? 77).map (fun i => (i.zero, i.size, i.bytes)) = some (some (.agg #[.string ⟨#[]⟩, .bool false, .slice none 0 0, .slice none 0 0, .slice none 0 0]), 5, 96) := by kernel_rfl
theorem RulAt.one (w : World) (R : Nat → Prop) (vs : List Value) (r : Rul) (h : RulAt w R vs r) : ∀ v ∈ vs, v.oneCell' = true := by
 obtain ⟨A1, n1, c1, A2, n2, c2, A3, n3, c3, rfl, _⟩ := h
 intro v hv
 simp at hv
 rcases hv with rfl | rfl | rfl | rfl | rfl <;> rfl
theorem push_rule {w : World} {base n c : Nat} {A : Option Addr} {l : List Rul} {r : Rul} {A1 A2 A3 : Option Addr} {n1 n2 n3 c1 c2 c3 : Nat} (h : Gr 5 RulAt w base 77 A n c l) (h0 : r.id.size ≤ maxLen)
  (h1 : Tg w (Nb base (.slice A n c)) A1 n1 c1 r.tg) (h2 : Nds w (Nb base (.slice A n c)) A2 n2 c2 r.cond) (h3 : Dus w (Nb base (.slice A n c)) A3 n3 c3 r.ob) (hn : n < 1000000) :
  ∃ A' c' w', (Builtin.append_ #[24, 24] 24 #[.slice A n c, .slice (some ⟨w.heap.size, 0, none⟩) 1 1]).run Tryz.prog (w.alloc (.cells #[.string r.id, .bool r.deny, .slice A1 n1 c1, .slice A2 n2 c2, .slice A3 n3 c3] 77)) = .ok (.slice A' (n + 1) c') w' ∧ Gr 5 RulAt w' base 77 A' (n + 1) c' (l ++ [r]) ∧ Below base w w' := by
 obtain ⟨i, hi, hz, hs, hb⟩ := info_of ruleinfo
 exact Gr.push (vs := [.string r.id, .bool r.deny, .slice A1 n1 c1, .slice A2 n2 c2, .slice A3 n3 c3]) (x := r) Tryz.underlying24 hi hz hs hb rfl (by omega) (by omega) keeps_rul h ⟨A1, n1, c1, A2, n2, c2, A3, n3, c3, rfl, h0, h1, h2, h3⟩ rfl RulAt.one hn
theorem polinfo : (Tryz.prog.info? 28).map (fun i => (i.zero, i.size, i.bytes)) = some (some (.agg #[.string ⟨#[]⟩, .bool false, .int .i64 0, .slice none 0 0, .slice none 0 0, .slice none 0 0, .slice none 0 0]), 7, 128) := by kernel_rfl
theorem PolAt.one {d : Nat} (w : World) (R : Nat → Prop) (vs : List Value) (r : Pol) (h : PolAt w R d vs r) : ∀ v ∈ vs, v.oneCell' = true := by
 match d, h with
 | d + 1, h =>
  obtain ⟨A1, n1, c1, A2, n2, c2, A3, n3, c3, A4, n4, c4, rfl, _⟩ := h
  intro v hv
  simp at hv
  rcases hv with rfl | rfl | rfl | rfl | rfl | rfl | rfl <;> rfl
theorem push_pol {w : World} {base n c d : Nat} {A : Option Addr} {l : List Pol} {p : Pol} {A1 A2 A3 A4 : Option Addr} {n1 n2 n3 n4 c1 c2 c3 c4 : Nat} (h : Gr 7 (fun w R => PolAt w R d) w base 28 A n c l)
  (hp : PolAt w (Nb base (.slice A n c)) d [.string p.id, .bool p.set, .int .i64 p.alg, .slice A1 n1 c1, .slice A2 n2 c2, .slice A3 n3 c3, .slice A4 n4 c4] p) (hn : n < 1000000) :
  ∃ A' c' w', (Builtin.append_ #[25, 25] 25 #[.slice A n c, .slice (some ⟨w.heap.size, 0, none⟩) 1 1]).run Tryz.prog (w.alloc (.cells #[.string p.id, .bool p.set, .int .i64 p.alg, .slice A1 n1 c1, .slice A2 n2 c2, .slice A3 n3 c3, .slice A4 n4 c4] 28)) = .ok (.slice A' (n + 1) c') w' ∧ Gr 7 (fun w R => PolAt w R d) w' base 28 A' (n + 1) c' (l ++ [p]) ∧ Below base w w' := by
 obtain ⟨i, hi, hz, hs, hb⟩ := info_of polinfo
 exact Gr.push (vs := [.string p.id, .bool p.set, .int .i64 p.alg, .slice A1 n1 c1, .slice A2 n2 c2, .slice A3 n3 c3, .slice A4 n4 c4]) (x := p) Tryz.underlying25 hi hz hs hb rfl (by omega) (by omega) (keeps_pol d) h hp rfl (fun w R vs x h => PolAt.one w R vs x h) hn
theorem Only.kept9 {g : Nat} {w w' : World} (h : Only g w w') {R : Nat → Prop} (hR : ∀ b, R b → b ≠ g) : Kept R w w' := ⟨h.size, fun b hb hl => h.heap hl (hR b hb)⟩
theorem Only.grown {g : Nat} {w w' : World} (o : Only g w w') : w.grownBy w' (some g) := o
theorem Ow.only {α : Type} {k : Nat} {P : List Value → α → Prop} {w w' : World} {base g : Nat} {E : TypeId} {A : Option Addr} {n c : Nat} {l : List α} (h : Ow k P w base E A n c l) (o : Only g w w') (hg : g < base) : Ow k P w' base E A n c l :=
 h.grown o.grown (.inr (fun e => by have := (h.lt g e).1; omega))
theorem Gr.only {α : Type} {k : Nat} {P : World → (Nat → Prop) → List Value → α → Prop} {w w' : World} {base g : Nat} {E : TypeId} {A : Option Addr} {n c : Nat} {l : List α} (hP : Keeps P) (h : Gr k P w base E A n c l) (o : Only g w w') (hg : g < base) : Gr k P w' base E A n c l :=
 ⟨(h.1.mapP (fun vs x _ hp => hP _ _ _ _ vs x hp (o.kept9 (fun b hb => by have := hb.1; omega)) (fun _ h _ => h))).only o hg, Nat.le_trans h.2 o.size⟩
theorem pol_ret {fn : Func} {t : Tmp} {tmps : Array Value} {w : World} {g : Nat} {s : ByteArray} {b : Bool} {a : Int} {A1 A2 A3 A4 : Option Addr} {n1 n2 n3 n4 c1 c2 c3 c4 : Nat} (h : fn.results = #[.cell t 28]) (hp : tmps.getD t undef = .pointer (some ⟨g, 0, none⟩))
  (hg : Ob w g 28 #[.string s, .bool b, .int .i64 a, .slice A1 n1 c1, .slice A2 n2 c2, .slice A3 n3 c3, .slice A4 n4 c4]) :
  (results fn tmps).run Tryz.prog w = .ok (.agg #[.string s, .bool b, .int .i64 a, .slice A1 n1 c1, .slice A2 n2 c2, .slice A3 n3 c3, .slice A4 n4 c4]) w :=
 results_cell_row h tmps w g _ _ (0, 0) _ hp hg Tryz.underlying28 rfl (by kernel_rfl)
end Go.Proofs.YtmoglaknmlhpgaaGreatDoor
