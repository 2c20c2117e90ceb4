/- Several texts in one: Parse4. -/
import Derived.Test.YtmoglaknmlhpgaaGreatDoorOnlP
import Derived.Laws.ResultCell
/- The parser: categories, attributes, values, matches, leaves. -/
namespace Go.Proofs.YtmoglaknmlhpgaaGreatDoor
set_option linter.unusedVariables false
open Go.RowKit

theorem eq2 (i : Nat) : ((i : Int) == 2) = decide (i = 2) := by rw [Bool.eq_iff_iff]; simp; omega
theorem attr_ret {fn : Func} {t : Tmp} {tmps : Array Value} {w : World} {g : Nat} {cs : Array Value} (h : fn.results = #[.cell t 79]) (hp : tmps.getD t undef = .pointer (some ⟨g, 0, none⟩)) (hg : Ob w g 79 cs) (h3 : cs.size = 3) :
  (results fn tmps).run Tryz.prog w = .ok (.agg cs) w := results_cell_row h tmps w g _ _ (0, 0) _ hp hg Tryz.underlying79 rfl (by rw [h3]; kernel_rfl)
theorem value_ret {fn : Func} {t : Tmp} {tmps : Array Value} {w : World} {g : Nat} {cs : Array Value} (h : fn.results = #[.cell t 31]) (hp : tmps.getD t undef = .pointer (some ⟨g, 0, none⟩)) (hg : Ob w g 31 cs) (h3 : cs.size = 3) :
  (results fn tmps).run Tryz.prog w = .ok (.agg cs) w := results_cell_row h tmps w g _ _ (0, 0) _ hp hg Tryz.underlying31 rfl (by rw [h3]; kernel_rfl)
theorem match_ret {fn : Func} {t : Tmp} {tmps : Array Value} {w : World} {g : Nat} {cs : Array Value} (h : fn.results = #[.cell t 116]) (hp : tmps.getD t undef = .pointer (some ⟨g, 0, none⟩)) (hg : Ob w g 116 cs) (h3 : cs.size = 7) :
  (results fn tmps).run Tryz.prog w = .ok (.agg cs) w := results_cell_row h tmps w g _ _ (0, 0) _ hp hg Tryz.underlying116 rfl (by rw [h3]; kernel_rfl)
theorem node_ret {fn : Func} {t : Tmp} {tmps : Array Value} {w : World} {g : Nat} {cs : Array Value} (h : fn.results = #[.cell t 81]) (hp : tmps.getD t undef = .pointer (some ⟨g, 0, none⟩)) (hg : Ob w g 81 cs) (h3 : cs.size = 7) :
  (results fn tmps).run Tryz.prog w = .ok (.agg cs) w := results_cell_row h tmps w g _ _ (0, 0) _ hp hg Tryz.underlying81 rfl (by rw [h3]; kernel_rfl)

section
variable {L g : Nat} {w : World} {s : Pz}
set_option maxHeartbeats 800000 in
theorem pcat_any (h : Rd L w g s) : Calls Tryz.prog 169 #[.pointer (some ⟨g, 0, none⟩)] w fun x w' => x = .returned (.int .i64 ((catR s).1 : Int)) ∧ Only g w w' ∧ Rd L w' g (catR s).2 := by
 have HR0 := Lib.hid h
 have HO0 := Lib.hid (Only.refl (r := g) (w := w))
 show Calls _ _ _ _ fun x w' => x = .returned (.int .i64 ((takeR [w_subject, w_action, w_case, w_env] s).1 : Int)) ∧ Only g w w' ∧ Rd L w' g (takeR [w_subject, w_action, w_case, w_env] s).2
 clear h
 go_enter Tryz.func169, Tryz.ntmps169
 go_wp2_with fail
 go_at_call 120
 refine (ptake_lit HR0.out [w_subject, w_action, w_case, w_env] #[.string ⟨#[115, 117, 98, 106, 101, 99, 116]⟩, .string ⟨#[97, 99, 116, 105, 111, 110]⟩, .string ⟨#[99, 97, 115, 101]⟩, .string ⟨#[101, 110, 118]⟩] 4 rfl rfl (by omega) (by first | rfl | (simp; done) | (simp [World.setCell]; done))).mono ?_
 rintro x u1 ⟨rfl, ho, hr⟩
 have HO1 := Lib.hid (HO0.out.trans ho)
 have HR1 := Lib.hid hr
 clear ho hr
 go_wp2_with fail
 go_ret
 exact ⟨rfl, HO1.out, HR1.out⟩
theorem attrR_eq {cat : Int} {s s0 s1 s2 s3 : Pz} {i j : Nat} {nm : ByteArray} (h0 : (if cat = 0 then wrongR s else s) = s0) (h1 : mustR [m_dot] s0 = (i, s1)) (h2 : nameR s1 = (nm, s2)) (h3 : takeR [m_bang] s2 = (j, s3)) : attrR cat s = (⟨cat, nm, decide (0 < j)⟩, s3) := by
 unfold attrR
 simp only [h0, h1, h2, h3]
set_option maxHeartbeats 1600000 in
theorem pattr_any (h : Rd L w g s) (cat : Int) : Calls Tryz.prog 168 #[.pointer (some ⟨g, 0, none⟩), .int .i64 cat] w fun x w' => x = .returned (attrR cat s).1.val ∧ Only g w w' ∧ Rd L w' g (attrR cat s).2 := by
 by_cases hc : cat = 0
 ·have HE := Lib.hid (fun (s1 s2 s3 : Pz) (i j : Nat) (nm : ByteArray) => attrR_eq (cat := cat) (s := s) (s0 := wrongR s) (s1 := s1) (s2 := s2) (s3 := s3) (i := i) (j := j) (nm := nm) (by rw [if_pos hc]))
  obtain ⟨i, s1, e1⟩ : ∃ i t, mustR [m_dot] (wrongR s) = (i, t) := ⟨_, _, rfl⟩
  obtain ⟨nm, s2, e2⟩ : ∃ i t, nameR s1 = (i, t) := ⟨_, _, rfl⟩
  obtain ⟨j, s3, e3⟩ : ∃ i t, takeR [m_bang] s2 = (i, t) := ⟨_, _, rfl⟩
  have HEE := Lib.hid (HE.out _ _ _ _ _ _ e1 e2 e3)
  have E1 := Lib.hid e1
  have E2 := Lib.hid e2
  have E3 := Lib.hid e3
  subst hc
  rw [HEE.out]
  have HG : Hid (g < w.heap.size) := h.lt
  have HBr_1 : Hid (Ob (w.alloc (.cells #[.int .i64 0, .string ⟨#[]⟩, .bool false] 79)) (w.heap.size) 79 #[.int .i64 0, .string ⟨#[]⟩, .bool false]) := Lib.hid (by have := Ob.made w 79 #[.int .i64 0, .string ⟨#[]⟩, .bool false]; simpa using this)
  have HR0 := Lib.hid (h.alloc (.cells #[.int .i64 0, .string ⟨#[]⟩, .bool false] 79))
  have HO0 := Lib.hid ((Only.refl (r := g) (w := w)).al (.cells #[.int .i64 0, .string ⟨#[]⟩, .bool false] 79))
  clear h e1 e2 e3 HE
  go_enter Tryz.func168, Tryz.ntmps168
  go_wp2_with fail
  go_at_call 96
  refine (pwrong_any HR0.out).mono ?_
  rintro x u2 ⟨rfl, ho, hr⟩
  have HO2 := Lib.hid (HO0.out.trans ho)
  have HR2 := Lib.hid hr
  have HBr_2 := Lib.hid (HBr_1.out.keep (ho.heap HBr_1.out.lt (by have := HG.out; omega)))
  clear ho hr
  have HSa : Hid (g < u2.heap.size ∧ w.heap.size < u2.heap.size) := ⟨by have := HG.out; have := HBr_2.out.lt; omega, HBr_2.out.lt⟩
  have HO3 := Lib.hid (HO2.out.al (.cells #[.int .i64 0, .string ⟨#[]⟩, .bool false] 79))
  have HR3 := Lib.hid (HR2.out.alloc (.cells #[.int .i64 0, .string ⟨#[]⟩, .bool false] 79))
  have HBr_3 := Lib.hid (HBr_2.out.keep (Below.heap_alloc u2 (.cells #[.int .i64 0, .string ⟨#[]⟩, .bool false] 79) _ HBr_2.out.lt))
  have HBa_3 := Lib.hid (Ob.made (u2) 79 #[.int .i64 0, .string ⟨#[]⟩, .bool false])
  go_wp2_with fail
  go_at_call 90
  refine (pmust_lit HR3.out [m_dot] #[.string ⟨#[46]⟩] 1 rfl rfl (by omega) (by first | rfl | (simp; done) | (simp [World.setCell]; done))).mono ?_
  rintro x u4 ⟨rfl, ho, hr⟩
  rw [E1.out] at hr
  have HO4 := Lib.hid (HO3.out.trans ho)
  have HR4 := Lib.hid hr
  have HBr_4 := Lib.hid (HBr_3.out.keep (ho.heap HBr_3.out.lt (by have := HG.out; have := HSa.out; omega)))
  have HBa_4 := Lib.hid (HBa_3.out.keep (ho.heap HBa_3.out.lt (by have := HG.out; have := HSa.out; omega)))
  clear ho hr
  go_wp2_with fail
  go_at_call 91
  refine (pname_any HR4.out).mono ?_
  rintro x u5 ⟨rfl, ho, hr⟩
  rw [E2.out] at hr ⊢
  have HO5 := Lib.hid (HO4.out.trans ho)
  have HR5 := Lib.hid hr
  have HBr_5 := Lib.hid (HBr_4.out.keep (ho.heap HBr_4.out.lt (by have := HG.out; have := HSa.out; omega)))
  have HBa_5 := Lib.hid (HBa_4.out.keep (ho.heap HBa_4.out.lt (by have := HG.out; have := HSa.out; omega)))
  clear ho hr
  have c6 := HBa_5.out.cell 1
  have f6 := HBa_5.out.frozen 1
  have HO6 := Lib.hid (HO5.out.new (r := u2.heap.size) (by have := HG.out; have := HSa.out; omega) 1 (.string nm))
  have HR6 := Lib.hid (HR5.out.set (r := u2.heap.size) (by have := HG.out; have := HSa.out; omega) 1 (.string nm))
  have HBr_6 := Lib.hid (HBr_5.out.keep (Below.heap_setCell u5 ⟨u2.heap.size, 1, none⟩ (.string nm) _ (by show w.heap.size ≠ u2.heap.size; have := HG.out; have := HSa.out; omega)))
  have HBa_6 : Hid (Ob (u5.setCell ⟨u2.heap.size, 1, none⟩ (.string nm)) (u2.heap.size) 79 #[.int .i64 0, .string nm, .bool false]) := Lib.hid (by have := HBa_5.out.put 1 (.string nm); simpa using this)
  go_wp2_with fail
  go_at_call 120
  refine (ptake_lit HR6.out [m_bang] #[.string ⟨#[33]⟩] 1 rfl rfl (by omega) (by first | rfl | (simp; done) | (simp [World.setCell]; done))).mono ?_
  rintro x u7 ⟨rfl, ho, hr⟩
  rw [E3.out] at hr ⊢
  have HO7 := Lib.hid (HO6.out.trans ho)
  have HR7 := Lib.hid hr
  have HBr_7 := Lib.hid (HBr_6.out.keep (ho.heap HBr_6.out.lt (by have := HG.out; have := HSa.out; omega)))
  have HBa_7 := Lib.hid (HBa_6.out.keep (ho.heap HBa_6.out.lt (by have := HG.out; have := HSa.out; omega)))
  clear ho hr
  have c8 := HBa_7.out.cell 2
  have f8 := HBa_7.out.frozen 2
  have HO8 := Lib.hid (HO7.out.new (r := u2.heap.size) (by have := HG.out; have := HSa.out; omega) 2 (.bool (decide (0 < j))))
  have HR8 := Lib.hid (HR7.out.set (r := u2.heap.size) (by have := HG.out; have := HSa.out; omega) 2 (.bool (decide (0 < j))))
  have HBr_8 := Lib.hid (HBr_7.out.keep (Below.heap_setCell u7 ⟨u2.heap.size, 2, none⟩ (.bool (decide (0 < j))) _ (by show w.heap.size ≠ u2.heap.size; have := HG.out; have := HSa.out; omega)))
  have HBa_8 : Hid (Ob (u7.setCell ⟨u2.heap.size, 2, none⟩ (.bool (decide (0 < j)))) (u2.heap.size) 79 #[.int .i64 0, .string nm, .bool (decide (0 < j))]) := Lib.hid (by have := HBa_7.out.put 2 (.bool (decide (0 < j))); simpa using this)
  have c9_0 := HBa_8.out.cell 0
  have c9_1 := HBa_8.out.cell 1
  have c9_2 := HBa_8.out.cell 2
  have c10 := HBr_8.out.cell 0
  have f10 := HBr_8.out.frozen 0
  have HO10 := Lib.hid (HO8.out.new (r := w.heap.size) (by have := HG.out; have := HSa.out; omega) 0 (.int .i64 0))
  have HR10 := Lib.hid (HR8.out.set (r := w.heap.size) (by have := HG.out; have := HSa.out; omega) 0 (.int .i64 0))
  have HBr_10 : Hid (Ob ((u7.setCell ⟨u2.heap.size, 2, none⟩ (.bool (decide (0 < j)))).setCell ⟨w.heap.size, 0, none⟩ (.int .i64 0)) (w.heap.size) 79 #[.int .i64 0, .string ⟨#[]⟩, .bool false]) := Lib.hid (by have := HBr_8.out.put 0 (.int .i64 0); simpa using this)
  have HBa_10 := Lib.hid (HBa_8.out.keep (Below.heap_setCell (u7.setCell ⟨u2.heap.size, 2, none⟩ (.bool (decide (0 < j)))) ⟨w.heap.size, 0, none⟩ (.int .i64 0) _ (by show u2.heap.size ≠ w.heap.size; have := HG.out; have := HSa.out; omega)))
  have c11 := HBr_10.out.cell 1
  have f11 := HBr_10.out.frozen 1
  have HO11 := Lib.hid (HO10.out.new (r := w.heap.size) (by have := HG.out; have := HSa.out; omega) 1 (.string nm))
  have HR11 := Lib.hid (HR10.out.set (r := w.heap.size) (by have := HG.out; have := HSa.out; omega) 1 (.string nm))
  have HBr_11 : Hid (Ob (((u7.setCell ⟨u2.heap.size, 2, none⟩ (.bool (decide (0 < j)))).setCell ⟨w.heap.size, 0, none⟩ (.int .i64 0)).setCell ⟨w.heap.size, 1, none⟩ (.string nm)) (w.heap.size) 79 #[.int .i64 0, .string nm, .bool false]) := Lib.hid (by have := HBr_10.out.put 1 (.string nm); simpa using this)
  have HBa_11 := Lib.hid (HBa_10.out.keep (Below.heap_setCell ((u7.setCell ⟨u2.heap.size, 2, none⟩ (.bool (decide (0 < j)))).setCell ⟨w.heap.size, 0, none⟩ (.int .i64 0)) ⟨w.heap.size, 1, none⟩ (.string nm) _ (by show u2.heap.size ≠ w.heap.size; have := HG.out; have := HSa.out; omega)))
  have c12 := HBr_11.out.cell 2
  have f12 := HBr_11.out.frozen 2
  have HO12 := Lib.hid (HO11.out.new (r := w.heap.size) (by have := HG.out; have := HSa.out; omega) 2 (.bool (decide (0 < j))))
  have HR12 := Lib.hid (HR11.out.set (r := w.heap.size) (by have := HG.out; have := HSa.out; omega) 2 (.bool (decide (0 < j))))
  have HBr_12 : Hid (Ob ((((u7.setCell ⟨u2.heap.size, 2, none⟩ (.bool (decide (0 < j)))).setCell ⟨w.heap.size, 0, none⟩ (.int .i64 0)).setCell ⟨w.heap.size, 1, none⟩ (.string nm)).setCell ⟨w.heap.size, 2, none⟩ (.bool (decide (0 < j)))) (w.heap.size) 79 #[.int .i64 0, .string nm, .bool (decide (0 < j))]) := Lib.hid (by have := HBr_11.out.put 2 (.bool (decide (0 < j))); simpa using this)
  have HBa_12 := Lib.hid (HBa_11.out.keep (Below.heap_setCell (((u7.setCell ⟨u2.heap.size, 2, none⟩ (.bool (decide (0 < j)))).setCell ⟨w.heap.size, 0, none⟩ (.int .i64 0)).setCell ⟨w.heap.size, 1, none⟩ (.string nm)) ⟨w.heap.size, 2, none⟩ (.bool (decide (0 < j))) _ (by show u2.heap.size ≠ w.heap.size; have := HG.out; have := HSa.out; omega)))
  go_wp2_with fail
  refine bodyPost_ret (attr_ret rfl rfl HBr_12.out rfl) rfl ?_
  exact ⟨rfl, HO12.out, HR12.out⟩
 ·have HE := Lib.hid (fun (s1 s2 s3 : Pz) (i j : Nat) (nm : ByteArray) => attrR_eq (cat := cat) (s := s) (s0 := s) (s1 := s1) (s2 := s2) (s3 := s3) (i := i) (j := j) (nm := nm) (by rw [if_neg hc]))
  obtain ⟨i, s1, e1⟩ : ∃ i t, mustR [m_dot] s = (i, t) := ⟨_, _, rfl⟩
  obtain ⟨nm, s2, e2⟩ : ∃ i t, nameR s1 = (i, t) := ⟨_, _, rfl⟩
  obtain ⟨j, s3, e3⟩ : ∃ i t, takeR [m_bang] s2 = (i, t) := ⟨_, _, rfl⟩
  have HEE := Lib.hid (HE.out _ _ _ _ _ _ e1 e2 e3)
  have E1 := Lib.hid e1
  have E2 := Lib.hid e2
  have E3 := Lib.hid e3
  have hc2 : (cat == 0) = false := by rw [beq_eq_false_iff_ne]; exact hc
  clear hc
  rw [HEE.out]
  have HG : Hid (g < w.heap.size) := h.lt
  have HBr_1 : Hid (Ob (w.alloc (.cells #[.int .i64 0, .string ⟨#[]⟩, .bool false] 79)) (w.heap.size) 79 #[.int .i64 0, .string ⟨#[]⟩, .bool false]) := Lib.hid (by have := Ob.made w 79 #[.int .i64 0, .string ⟨#[]⟩, .bool false]; simpa using this)
  have HR0 := Lib.hid (h.alloc (.cells #[.int .i64 0, .string ⟨#[]⟩, .bool false] 79))
  have HO0 := Lib.hid ((Only.refl (r := g) (w := w)).al (.cells #[.int .i64 0, .string ⟨#[]⟩, .bool false] 79))
  clear h e1 e2 e3 HE
  have HO2 := Lib.hid (HO0.out.al (.cells #[.int .i64 cat, .string ⟨#[]⟩, .bool false] 79))
  have HR2 := Lib.hid (HR0.out.alloc (.cells #[.int .i64 cat, .string ⟨#[]⟩, .bool false] 79))
  have HBr_2 := Lib.hid (HBr_1.out.keep (Below.heap_alloc (w.alloc (.cells #[.int .i64 0, .string ⟨#[]⟩, .bool false] 79)) (.cells #[.int .i64 cat, .string ⟨#[]⟩, .bool false] 79) _ HBr_1.out.lt))
  have HBa_2 : Hid (Ob ((w.alloc (.cells #[.int .i64 0, .string ⟨#[]⟩, .bool false] 79)).alloc (.cells #[.int .i64 cat, .string ⟨#[]⟩, .bool false] 79)) (w.heap.size + 1) 79 #[.int .i64 cat, .string ⟨#[]⟩, .bool false]) := Lib.hid (by have := Ob.made (w.alloc (.cells #[.int .i64 0, .string ⟨#[]⟩, .bool false] 79)) 79 #[.int .i64 cat, .string ⟨#[]⟩, .bool false]; simpa using this)
  go_enter Tryz.func168, Tryz.ntmps168
  go_wp2_with fail
  go_at_call 90
  refine (pmust_lit HR2.out [m_dot] #[.string ⟨#[46]⟩] 1 rfl rfl (by omega) (by first | rfl | (simp; done) | (simp [World.setCell]; done))).mono ?_
  rintro x u3 ⟨rfl, ho, hr⟩
  rw [E1.out] at hr
  have HO3 := Lib.hid (HO2.out.trans ho)
  have HR3 := Lib.hid hr
  have HBr_3 := Lib.hid (HBr_2.out.keep (ho.heap HBr_2.out.lt (by have := HG.out; omega)))
  have HBa_3 := Lib.hid (HBa_2.out.keep (ho.heap HBa_2.out.lt (by have := HG.out; omega)))
  clear ho hr
  go_wp2_with fail
  go_at_call 91
  refine (pname_any HR3.out).mono ?_
  rintro x u4 ⟨rfl, ho, hr⟩
  rw [E2.out] at hr ⊢
  have HO4 := Lib.hid (HO3.out.trans ho)
  have HR4 := Lib.hid hr
  have HBr_4 := Lib.hid (HBr_3.out.keep (ho.heap HBr_3.out.lt (by have := HG.out; omega)))
  have HBa_4 := Lib.hid (HBa_3.out.keep (ho.heap HBa_3.out.lt (by have := HG.out; omega)))
  clear ho hr
  have c5 := HBa_4.out.cell 1
  have f5 := HBa_4.out.frozen 1
  have HO5 := Lib.hid (HO4.out.new (r := (w.heap.size + 1)) (by have := HG.out; omega) 1 (.string nm))
  have HR5 := Lib.hid (HR4.out.set (r := (w.heap.size + 1)) (by have := HG.out; omega) 1 (.string nm))
  have HBr_5 := Lib.hid (HBr_4.out.keep (Below.heap_setCell u4 ⟨(w.heap.size + 1), 1, none⟩ (.string nm) _ (by show w.heap.size ≠ (w.heap.size + 1); have := HG.out; omega)))
  have HBa_5 : Hid (Ob (u4.setCell ⟨(w.heap.size + 1), 1, none⟩ (.string nm)) ((w.heap.size + 1)) 79 #[.int .i64 cat, .string nm, .bool false]) := Lib.hid (by have := HBa_4.out.put 1 (.string nm); simpa using this)
  go_wp2_with fail
  go_at_call 120
  refine (ptake_lit HR5.out [m_bang] #[.string ⟨#[33]⟩] 1 rfl rfl (by omega) (by first | rfl | (simp; done) | (simp [World.setCell]; done))).mono ?_
  rintro x u6 ⟨rfl, ho, hr⟩
  rw [E3.out] at hr ⊢
  have HO6 := Lib.hid (HO5.out.trans ho)
  have HR6 := Lib.hid hr
  have HBr_6 := Lib.hid (HBr_5.out.keep (ho.heap HBr_5.out.lt (by have := HG.out; omega)))
  have HBa_6 := Lib.hid (HBa_5.out.keep (ho.heap HBa_5.out.lt (by have := HG.out; omega)))
  clear ho hr
  have c7 := HBa_6.out.cell 2
  have f7 := HBa_6.out.frozen 2
  have HO7 := Lib.hid (HO6.out.new (r := (w.heap.size + 1)) (by have := HG.out; omega) 2 (.bool (decide (0 < j))))
  have HR7 := Lib.hid (HR6.out.set (r := (w.heap.size + 1)) (by have := HG.out; omega) 2 (.bool (decide (0 < j))))
  have HBr_7 := Lib.hid (HBr_6.out.keep (Below.heap_setCell u6 ⟨(w.heap.size + 1), 2, none⟩ (.bool (decide (0 < j))) _ (by show w.heap.size ≠ (w.heap.size + 1); have := HG.out; omega)))
  have HBa_7 : Hid (Ob (u6.setCell ⟨(w.heap.size + 1), 2, none⟩ (.bool (decide (0 < j)))) ((w.heap.size + 1)) 79 #[.int .i64 cat, .string nm, .bool (decide (0 < j))]) := Lib.hid (by have := HBa_6.out.put 2 (.bool (decide (0 < j))); simpa using this)
  have c8_0 := HBa_7.out.cell 0
  have c8_1 := HBa_7.out.cell 1
  have c8_2 := HBa_7.out.cell 2
  have c9 := HBr_7.out.cell 0
  have f9 := HBr_7.out.frozen 0
  have HO9 := Lib.hid (HO7.out.new (r := w.heap.size) (by have := HG.out; omega) 0 (.int .i64 cat))
  have HR9 := Lib.hid (HR7.out.set (r := w.heap.size) (by have := HG.out; omega) 0 (.int .i64 cat))
  have HBr_9 : Hid (Ob ((u6.setCell ⟨(w.heap.size + 1), 2, none⟩ (.bool (decide (0 < j)))).setCell ⟨w.heap.size, 0, none⟩ (.int .i64 cat)) (w.heap.size) 79 #[.int .i64 cat, .string ⟨#[]⟩, .bool false]) := Lib.hid (by have := HBr_7.out.put 0 (.int .i64 cat); simpa using this)
  have HBa_9 := Lib.hid (HBa_7.out.keep (Below.heap_setCell (u6.setCell ⟨(w.heap.size + 1), 2, none⟩ (.bool (decide (0 < j)))) ⟨w.heap.size, 0, none⟩ (.int .i64 cat) _ (by show (w.heap.size + 1) ≠ w.heap.size; have := HG.out; omega)))
  have c10 := HBr_9.out.cell 1
  have f10 := HBr_9.out.frozen 1
  have HO10 := Lib.hid (HO9.out.new (r := w.heap.size) (by have := HG.out; omega) 1 (.string nm))
  have HR10 := Lib.hid (HR9.out.set (r := w.heap.size) (by have := HG.out; omega) 1 (.string nm))
  have HBr_10 : Hid (Ob (((u6.setCell ⟨(w.heap.size + 1), 2, none⟩ (.bool (decide (0 < j)))).setCell ⟨w.heap.size, 0, none⟩ (.int .i64 cat)).setCell ⟨w.heap.size, 1, none⟩ (.string nm)) (w.heap.size) 79 #[.int .i64 cat, .string nm, .bool false]) := Lib.hid (by have := HBr_9.out.put 1 (.string nm); simpa using this)
  have HBa_10 := Lib.hid (HBa_9.out.keep (Below.heap_setCell ((u6.setCell ⟨(w.heap.size + 1), 2, none⟩ (.bool (decide (0 < j)))).setCell ⟨w.heap.size, 0, none⟩ (.int .i64 cat)) ⟨w.heap.size, 1, none⟩ (.string nm) _ (by show (w.heap.size + 1) ≠ w.heap.size; have := HG.out; omega)))
  have c11 := HBr_10.out.cell 2
  have f11 := HBr_10.out.frozen 2
  have HO11 := Lib.hid (HO10.out.new (r := w.heap.size) (by have := HG.out; omega) 2 (.bool (decide (0 < j))))
  have HR11 := Lib.hid (HR10.out.set (r := w.heap.size) (by have := HG.out; omega) 2 (.bool (decide (0 < j))))
  have HBr_11 : Hid (Ob ((((u6.setCell ⟨(w.heap.size + 1), 2, none⟩ (.bool (decide (0 < j)))).setCell ⟨w.heap.size, 0, none⟩ (.int .i64 cat)).setCell ⟨w.heap.size, 1, none⟩ (.string nm)).setCell ⟨w.heap.size, 2, none⟩ (.bool (decide (0 < j)))) (w.heap.size) 79 #[.int .i64 cat, .string nm, .bool (decide (0 < j))]) := Lib.hid (by have := HBr_10.out.put 2 (.bool (decide (0 < j))); simpa using this)
  have HBa_11 := Lib.hid (HBa_10.out.keep (Below.heap_setCell (((u6.setCell ⟨(w.heap.size + 1), 2, none⟩ (.bool (decide (0 < j)))).setCell ⟨w.heap.size, 0, none⟩ (.int .i64 cat)).setCell ⟨w.heap.size, 1, none⟩ (.string nm)) ⟨w.heap.size, 2, none⟩ (.bool (decide (0 < j))) _ (by show (w.heap.size + 1) ≠ w.heap.size; have := HG.out; omega)))
  go_wp2_with fail
  refine bodyPost_ret (attr_ret rfl rfl HBr_11.out rfl) rfl ?_
  exact ⟨rfl, HO11.out, HR11.out⟩
set_option maxHeartbeats 800000 in
theorem pkind_any (k p n : Int) (t : ByteArray) : Calls Tryz.prog 179 #[.agg #[.int .i64 k, .int .i64 p, .int .i64 n, .string t]] w fun x w' => x = .returned (.int .i64 (kindR k)) ∧ Below w.heap.size w w' := by
 have HB : Hid (Below w.heap.size w (w.alloc (.cells #[.int .i64 k, .int .i64 p, .int .i64 n, .string t] 150))) := (Below.refl _ _).alloc (Nat.le_refl _) _
 by_cases h2 : k = 2
 ·subst h2
  go_enter Tryz.func179, Tryz.ntmps179
  go_wp2_with fail
  go_ret
  exact ⟨rfl, HB.out⟩
 by_cases h3 : k = 3
 ·subst h3
  go_enter Tryz.func179, Tryz.ntmps179
  go_wp2_with fail
  go_ret
  exact ⟨rfl, HB.out⟩
 by_cases h4 : k = 4
 ·subst h4
  go_enter Tryz.func179, Tryz.ntmps179
  go_wp2_with fail
  go_ret
  exact ⟨rfl, HB.out⟩
 by_cases h5 : k = 5
 ·subst h5
  go_enter Tryz.func179, Tryz.ntmps179
  go_wp2_with fail
  go_ret
  exact ⟨rfl, HB.out⟩
 have HE : Hid (kindR k = 1) := by show _ = _; unfold kindR; rw [if_neg h2, if_neg h3, if_neg h4, if_neg h5]
 have g2 : (k == 2) = false := by rw [beq_eq_false_iff_ne]; exact h2
 have g3 : (k == 3) = false := by rw [beq_eq_false_iff_ne]; exact h3
 have g4 : (k == 4) = false := by rw [beq_eq_false_iff_ne]; exact h4
 have g5 : (k == 5) = false := by rw [beq_eq_false_iff_ne]; exact h5
 clear h2 h3 h4 h5
 go_enter Tryz.func179, Tryz.ntmps179
 go_wp2_with fail
 go_ret
 exact ⟨ret_int HE.out.symm, HB.out⟩
theorem kindR_7 {k : Int} (h : kindR k ≠ 1) : k ≠ 7 := by rintro rfl; exact h rfl
set_option maxHeartbeats 1600000 in
theorem pvalue_any (h : Rd L w g s) : Calls Tryz.prog 170 #[.pointer (some ⟨g, 0, none⟩)] w fun x w' => x = .returned (valueR s).1.val ∧ Only g w w' ∧ Rd L w' g (valueR s).2 := by
 by_cases hc : kindR s.hd.k = 1
 ·obtain ⟨i, s1, e1⟩ : ∃ i t, mustR [w_false, w_true] s = (i, t) := ⟨_, _, rfl⟩
  have HE : Hid (valueR s = (⟨1, (i : Int) - 1, ⟨#[]⟩⟩, s1)) := by show _ = _; unfold valueR; rw [if_pos hc, e1]
  have E1 := Lib.hid e1
  have hi : i ≤ 2 := by have := mustR_le [w_false, w_true] s; rw [e1] at this; exact this
  rw [HE.out]
  have HG : Hid (g < w.heap.size) := h.lt
  have HBr_1 : Hid (Ob (w.alloc (.cells #[.int .i64 0, .int .i64 0, .string ⟨#[]⟩] 31)) (w.heap.size) 31 #[.int .i64 0, .int .i64 0, .string ⟨#[]⟩]) := Lib.hid (by have := Ob.made w 31 #[.int .i64 0, .int .i64 0, .string ⟨#[]⟩]; simpa using this)
  have HR0 := Lib.hid (h.alloc (.cells #[.int .i64 0, .int .i64 0, .string ⟨#[]⟩] 31))
  have HO0 := Lib.hid ((Only.refl (r := g) (w := w)).al (.cells #[.int .i64 0, .int .i64 0, .string ⟨#[]⟩] 31))
  obtain ⟨b, o, n, c, hob, hok, ⟨hn, h1, h2, h3⟩, hbg, ⟨t0, t1, t2, t3⟩, hmk⟩ := HR0.out.at_
  have q0 := hob.cell 0
  unfold maxLen at h3
  have HO2 := Lib.hid (HO0.out.al (.cells #[.int .i64 s.hd.k, .int .i64 s.hd.p, .int .i64 s.hd.n, .string s.hd.s] 150))
  have HR2 := Lib.hid (HR0.out.alloc (.cells #[.int .i64 s.hd.k, .int .i64 s.hd.p, .int .i64 s.hd.n, .string s.hd.s] 150))
  have HBr_2 := Lib.hid (HBr_1.out.keep (Below.heap_alloc (w.alloc (.cells #[.int .i64 0, .int .i64 0, .string ⟨#[]⟩] 31)) (.cells #[.int .i64 s.hd.k, .int .i64 s.hd.p, .int .i64 s.hd.n, .string s.hd.s] 150) _ HBr_1.out.lt))
  have HBt_2 : Hid (Ob ((w.alloc (.cells #[.int .i64 0, .int .i64 0, .string ⟨#[]⟩] 31)).alloc (.cells #[.int .i64 s.hd.k, .int .i64 s.hd.p, .int .i64 s.hd.n, .string s.hd.s] 150)) (w.heap.size + 1) 150 #[.int .i64 s.hd.k, .int .i64 s.hd.p, .int .i64 s.hd.n, .string s.hd.s]) := Lib.hid (by have := Ob.made (w.alloc (.cells #[.int .i64 0, .int .i64 0, .string ⟨#[]⟩] 31)) 150 #[.int .i64 s.hd.k, .int .i64 s.hd.p, .int .i64 s.hd.n, .string s.hd.s]; simpa using this)
  have HK := Lib.hid (fun V : World => pkind_any (w := V) s.hd.k s.hd.p s.hd.n s.hd.s)
  rw [hc] at HK
  clear hc e1 hmk hob h
  go_enter Tryz.func170, Tryz.ntmps170
  go_wp2_with fail
  go_at_call 179
  refine (HK.out _).mono ?_
  rintro x u1 ⟨rfl, hb⟩
  have HO3 := Lib.hid (HO2.out.then_ hb)
  have HR3 := Lib.hid (HR2.out.then_ hb)
  have HBr_3 := Lib.hid (HBr_2.out.below hb HBr_2.out.lt)
  have HBt_3 := Lib.hid (HBt_2.out.below hb HBt_2.out.lt)
  clear hb
  go_wp2_with fail
  go_at_call 90
  refine (pmust_lit HR3.out [w_false, w_true] #[.string ⟨#[102, 97, 108, 115, 101]⟩, .string ⟨#[116, 114, 117, 101]⟩] 2 rfl rfl (by omega) (by first | rfl | (simp; done) | (simp [World.setCell]; done))).mono ?_
  rintro x u4 ⟨hx, ho, hr⟩
  obtain rfl : x = .returned (.int .i64 (i : Int)) := by rw [hx, E1.out] <;> rfl
  rw [E1.out] at hr
  clear hx
  have HO4 := Lib.hid (HO3.out.trans ho)
  have HR4 := Lib.hid hr
  have HBr_4 := Lib.hid (HBr_3.out.keep (ho.heap HBr_3.out.lt (by have := HG.out; omega)))
  have HBt_4 := Lib.hid (HBt_3.out.keep (ho.heap HBt_3.out.lt (by have := HG.out; omega)))
  clear ho hr
  have c5 := HBr_4.out.cell 0
  have f5 := HBr_4.out.frozen 0
  have HO5 := Lib.hid (HO4.out.new (r := w.heap.size) (by have := HG.out; omega) 0 (.int .i64 1))
  have HR5 := Lib.hid (HR4.out.set (r := w.heap.size) (by have := HG.out; omega) 0 (.int .i64 1))
  have HBr_5 : Hid (Ob (u4.setCell ⟨w.heap.size, 0, none⟩ (.int .i64 1)) (w.heap.size) 31 #[.int .i64 1, .int .i64 0, .string ⟨#[]⟩]) := Lib.hid (by have := HBr_4.out.put 0 (.int .i64 1); simpa using this)
  have HBt_5 := Lib.hid (HBt_4.out.keep (Below.heap_setCell u4 ⟨w.heap.size, 0, none⟩ (.int .i64 1) _ (by show (w.heap.size + 1) ≠ w.heap.size; have := HG.out; omega)))
  have c6 := HBr_5.out.cell 1
  have f6 := HBr_5.out.frozen 1
  have HO6 := Lib.hid (HO5.out.new (r := w.heap.size) (by have := HG.out; omega) 1 (.int .i64 ((i : Int) - 1)))
  have HR6 := Lib.hid (HR5.out.set (r := w.heap.size) (by have := HG.out; omega) 1 (.int .i64 ((i : Int) - 1)))
  have HBr_6 : Hid (Ob ((u4.setCell ⟨w.heap.size, 0, none⟩ (.int .i64 1)).setCell ⟨w.heap.size, 1, none⟩ (.int .i64 ((i : Int) - 1))) (w.heap.size) 31 #[.int .i64 1, .int .i64 ((i : Int) - 1), .string ⟨#[]⟩]) := Lib.hid (by have := HBr_5.out.put 1 (.int .i64 ((i : Int) - 1)); simpa using this)
  have HBt_6 := Lib.hid (HBt_5.out.keep (Below.heap_setCell (u4.setCell ⟨w.heap.size, 0, none⟩ (.int .i64 1)) ⟨w.heap.size, 1, none⟩ (.int .i64 ((i : Int) - 1)) _ (by show (w.heap.size + 1) ≠ w.heap.size; have := HG.out; omega)))
  have c7 := HBr_6.out.cell 2
  have f7 := HBr_6.out.frozen 2
  have HO7 := Lib.hid (HO6.out.new (r := w.heap.size) (by have := HG.out; omega) 2 (.string ⟨#[]⟩))
  have HR7 := Lib.hid (HR6.out.set (r := w.heap.size) (by have := HG.out; omega) 2 (.string ⟨#[]⟩))
  have HBr_7 : Hid (Ob (((u4.setCell ⟨w.heap.size, 0, none⟩ (.int .i64 1)).setCell ⟨w.heap.size, 1, none⟩ (.int .i64 ((i : Int) - 1))).setCell ⟨w.heap.size, 2, none⟩ (.string ⟨#[]⟩)) (w.heap.size) 31 #[.int .i64 1, .int .i64 ((i : Int) - 1), .string ⟨#[]⟩]) := Lib.hid (by have := HBr_6.out.put 2 (.string ⟨#[]⟩); simpa using this)
  have HBt_7 := Lib.hid (HBt_6.out.keep (Below.heap_setCell ((u4.setCell ⟨w.heap.size, 0, none⟩ (.int .i64 1)).setCell ⟨w.heap.size, 1, none⟩ (.int .i64 ((i : Int) - 1))) ⟨w.heap.size, 2, none⟩ (.string ⟨#[]⟩) _ (by show (w.heap.size + 1) ≠ w.heap.size; have := HG.out; omega)))
  go_wp2_with fail
  refine bodyPost_ret (value_ret rfl rfl HBr_7.out rfl) rfl ?_
  exact ⟨rfl, HO7.out, HR7.out⟩
 ·have HE : Hid (valueR s = (⟨kindR s.hd.k, s.hd.n, s.hd.s⟩, nextR s)) := by show _ = _; unfold valueR; rw [if_neg hc]
  have hc2 : (kindR s.hd.k == 1) = false := by rw [beq_eq_false_iff_ne]; exact hc
  rw [HE.out]
  have HG : Hid (g < w.heap.size) := h.lt
  have HBr_1 : Hid (Ob (w.alloc (.cells #[.int .i64 0, .int .i64 0, .string ⟨#[]⟩] 31)) (w.heap.size) 31 #[.int .i64 0, .int .i64 0, .string ⟨#[]⟩]) := Lib.hid (by have := Ob.made w 31 #[.int .i64 0, .int .i64 0, .string ⟨#[]⟩]; simpa using this)
  have HR0 := Lib.hid (h.alloc (.cells #[.int .i64 0, .int .i64 0, .string ⟨#[]⟩] 31))
  have HO0 := Lib.hid ((Only.refl (r := g) (w := w)).al (.cells #[.int .i64 0, .int .i64 0, .string ⟨#[]⟩] 31))
  obtain ⟨b, o, n, c, hob, ⟨h1, h2, h3⟩, hbg, ⟨t0, t1, t2, t3⟩, hgo⟩ := HR0.out.goes (kindR_7 hc)
  have q0 := hob.cell 0
  unfold maxLen at h3
  have HO2 := Lib.hid (HO0.out.al (.cells #[.int .i64 s.hd.k, .int .i64 s.hd.p, .int .i64 s.hd.n, .string s.hd.s] 150))
  have HR2 := Lib.hid (HR0.out.alloc (.cells #[.int .i64 s.hd.k, .int .i64 s.hd.p, .int .i64 s.hd.n, .string s.hd.s] 150))
  have HBr_2 := Lib.hid (HBr_1.out.keep (Below.heap_alloc (w.alloc (.cells #[.int .i64 0, .int .i64 0, .string ⟨#[]⟩] 31)) (.cells #[.int .i64 s.hd.k, .int .i64 s.hd.p, .int .i64 s.hd.n, .string s.hd.s] 150) _ HBr_1.out.lt))
  have HBt_2 : Hid (Ob ((w.alloc (.cells #[.int .i64 0, .int .i64 0, .string ⟨#[]⟩] 31)).alloc (.cells #[.int .i64 s.hd.k, .int .i64 s.hd.p, .int .i64 s.hd.n, .string s.hd.s] 150)) (w.heap.size + 1) 150 #[.int .i64 s.hd.k, .int .i64 s.hd.p, .int .i64 s.hd.n, .string s.hd.s]) := Lib.hid (by have := Ob.made (w.alloc (.cells #[.int .i64 0, .int .i64 0, .string ⟨#[]⟩] 31)) 150 #[.int .i64 s.hd.k, .int .i64 s.hd.p, .int .i64 s.hd.n, .string s.hd.s]; simpa using this)
  have HOBg := Lib.hid hob
  have HGO := Lib.hid hgo
  have HK := Lib.hid (fun V : World => pkind_any (w := V) s.hd.k s.hd.p s.hd.n s.hd.s)
  have h5 : ¬ c = 1 := by omega
  have h6 : (1 : Int) ≤ (n : Int) := by omega
  have HCC := Lib.hid hc
  generalize kindR s.hd.k = kd at *
  clear hob hgo h hc
  go_enter Tryz.func170, Tryz.ntmps170
  go_wp2_with fail
  go_at_call 179
  refine (HK.out _).mono ?_
  rintro x u1 ⟨rfl, hb⟩
  have HO3 := Lib.hid (HO2.out.then_ hb)
  have HR3 := Lib.hid (HR2.out.then_ hb)
  have HBr_3 := Lib.hid (HBr_2.out.below hb HBr_2.out.lt)
  have HBt_3 := Lib.hid (HBt_2.out.below hb HBt_2.out.lt)
  have HQ := Lib.hid (HGO.out u1 ((Below.refl _ _).alloc (Nat.le_refl _) (.cells #[.int .i64 s.hd.k, .int .i64 s.hd.p, .int .i64 s.hd.n, .string s.hd.s] 150) |>.trans (hb.mono (by simp))))
  have OQ := Lib.hid (HOBg.out.keep ((Below.heap_alloc (w.alloc (.cells #[.int .i64 0, .int .i64 0, .string ⟨#[]⟩] 31)) (.cells #[.int .i64 s.hd.k, .int .i64 s.hd.p, .int .i64 s.hd.n, .string s.hd.s] 150) _ HOBg.out.lt) |> fun e => (hb.block g (by have := HG.out; simp; omega)).trans e))
  have q0 := OQ.out.cell 0
  have f0 := OQ.out.frozen 0
  clear hb
  have HO4 := Lib.hid (HO3.out.at_g 0 (.slice (some ⟨b, o + 4, none⟩) (n - 1) (c - 1)))
  have HR4 := Lib.hid HQ.out.1
  have HBr_4 := Lib.hid (HBr_3.out.keep (Below.heap_setCell u1 ⟨g, 0, none⟩ (.slice (some ⟨b, o + 4, none⟩) (n - 1) (c - 1)) _ (by show w.heap.size ≠ g; have := HG.out; omega)))
  have HBt_4 := Lib.hid (HBt_3.out.keep (Below.heap_setCell u1 ⟨g, 0, none⟩ (.slice (some ⟨b, o + 4, none⟩) (n - 1) (c - 1)) _ (by show (w.heap.size + 1) ≠ g; have := HG.out; omega)))
  have c5_0 := HBt_4.out.cell 0
  have c5_1 := HBt_4.out.cell 1
  have c5_2 := HBt_4.out.cell 2
  have c5_3 := HBt_4.out.cell 3
  have c6 := HBr_4.out.cell 0
  have f6 := HBr_4.out.frozen 0
  have HO6 := Lib.hid (HO4.out.new (r := w.heap.size) (by have := HG.out; omega) 0 (.int .i64 kd))
  have HR6 := Lib.hid (HR4.out.set (r := w.heap.size) (by have := HG.out; omega) 0 (.int .i64 kd))
  have HBr_6 : Hid (Ob ((u1.setCell ⟨g, 0, none⟩ (.slice (some ⟨b, o + 4, none⟩) (n - 1) (c - 1))).setCell ⟨w.heap.size, 0, none⟩ (.int .i64 kd)) (w.heap.size) 31 #[.int .i64 kd, .int .i64 0, .string ⟨#[]⟩]) := Lib.hid (by have := HBr_4.out.put 0 (.int .i64 kd); simpa using this)
  have HBt_6 := Lib.hid (HBt_4.out.keep (Below.heap_setCell (u1.setCell ⟨g, 0, none⟩ (.slice (some ⟨b, o + 4, none⟩) (n - 1) (c - 1))) ⟨w.heap.size, 0, none⟩ (.int .i64 kd) _ (by show (w.heap.size + 1) ≠ w.heap.size; have := HG.out; omega)))
  have c7 := HBr_6.out.cell 1
  have f7 := HBr_6.out.frozen 1
  have HO7 := Lib.hid (HO6.out.new (r := w.heap.size) (by have := HG.out; omega) 1 (.int .i64 s.hd.n))
  have HR7 := Lib.hid (HR6.out.set (r := w.heap.size) (by have := HG.out; omega) 1 (.int .i64 s.hd.n))
  have HBr_7 : Hid (Ob (((u1.setCell ⟨g, 0, none⟩ (.slice (some ⟨b, o + 4, none⟩) (n - 1) (c - 1))).setCell ⟨w.heap.size, 0, none⟩ (.int .i64 kd)).setCell ⟨w.heap.size, 1, none⟩ (.int .i64 s.hd.n)) (w.heap.size) 31 #[.int .i64 kd, .int .i64 s.hd.n, .string ⟨#[]⟩]) := Lib.hid (by have := HBr_6.out.put 1 (.int .i64 s.hd.n); simpa using this)
  have HBt_7 := Lib.hid (HBt_6.out.keep (Below.heap_setCell ((u1.setCell ⟨g, 0, none⟩ (.slice (some ⟨b, o + 4, none⟩) (n - 1) (c - 1))).setCell ⟨w.heap.size, 0, none⟩ (.int .i64 kd)) ⟨w.heap.size, 1, none⟩ (.int .i64 s.hd.n) _ (by show (w.heap.size + 1) ≠ w.heap.size; have := HG.out; omega)))
  have c8 := HBr_7.out.cell 2
  have f8 := HBr_7.out.frozen 2
  have HO8 := Lib.hid (HO7.out.new (r := w.heap.size) (by have := HG.out; omega) 2 (.string s.hd.s))
  have HR8 := Lib.hid (HR7.out.set (r := w.heap.size) (by have := HG.out; omega) 2 (.string s.hd.s))
  have HBr_8 : Hid (Ob ((((u1.setCell ⟨g, 0, none⟩ (.slice (some ⟨b, o + 4, none⟩) (n - 1) (c - 1))).setCell ⟨w.heap.size, 0, none⟩ (.int .i64 kd)).setCell ⟨w.heap.size, 1, none⟩ (.int .i64 s.hd.n)).setCell ⟨w.heap.size, 2, none⟩ (.string s.hd.s)) (w.heap.size) 31 #[.int .i64 kd, .int .i64 s.hd.n, .string s.hd.s]) := Lib.hid (by have := HBr_7.out.put 2 (.string s.hd.s); simpa using this)
  have HBt_8 := Lib.hid (HBt_7.out.keep (Below.heap_setCell (((u1.setCell ⟨g, 0, none⟩ (.slice (some ⟨b, o + 4, none⟩) (n - 1) (c - 1))).setCell ⟨w.heap.size, 0, none⟩ (.int .i64 kd)).setCell ⟨w.heap.size, 1, none⟩ (.int .i64 s.hd.n)) ⟨w.heap.size, 2, none⟩ (.string s.hd.s) _ (by show (w.heap.size + 1) ≠ w.heap.size; have := HG.out; omega)))
  go_wp2_with fail
  refine bodyPost_ret (value_ret rfl rfl HBr_8.out rfl) rfl ?_
  exact ⟨rfl, HO8.out, HR8.out⟩
set_option maxHeartbeats 3200000 in
theorem pmatch_any (h : Rd L w g s) : Calls Tryz.prog 159 #[.pointer (some ⟨g, 0, none⟩)] w fun x w' => x = .returned (matchR s).1.val ∧ Only g w w' ∧ Rd L w' g (matchR s).2 := by
 obtain ⟨i, s1, e1⟩ : ∃ i t, catR s = (i, t) := ⟨_, _, rfl⟩
 obtain ⟨⟨ac, an, am⟩, s2, e2⟩ : ∃ a t, attrR (i : Int) s1 = (a, t) := ⟨_, _, rfl⟩
 obtain ⟨j, s3, e3⟩ : ∃ i t, mustR [m_eqm, m_lt, m_gt] s2 = (i, t) := ⟨_, _, rfl⟩
 obtain ⟨⟨vk, vn, vs⟩, s4, e4⟩ : ∃ a t, valueR s3 = (a, t) := ⟨_, _, rfl⟩
 have HE : Hid (matchR s = (⟨⟨ac, an, am⟩, (j : Int), ⟨vk, vn, vs⟩⟩, s4)) := by show _ = _; unfold matchR; simp only [e1, e2, e3, e4]
 rw [HE.out]
 have E1 := Lib.hid e1
 have E2 := Lib.hid e2
 have E3 := Lib.hid e3
 have E4 := Lib.hid e4
 have HG : Hid (g < w.heap.size) := h.lt
 have HBr_1 : Hid (Ob (w.alloc (.cells #[.int .i64 0, .string ⟨#[]⟩, .bool false, .int .i64 0, .int .i64 0, .int .i64 0, .string ⟨#[]⟩] 116)) (w.heap.size) 116 #[.int .i64 0, .string ⟨#[]⟩, .bool false, .int .i64 0, .int .i64 0, .int .i64 0, .string ⟨#[]⟩]) := Lib.hid (by have := Ob.made w 116 #[.int .i64 0, .string ⟨#[]⟩, .bool false, .int .i64 0, .int .i64 0, .int .i64 0, .string ⟨#[]⟩]; simpa using this)
 have HBr_2 := Lib.hid (HBr_1.out.keep (Below.heap_alloc (w.alloc (.cells #[.int .i64 0, .string ⟨#[]⟩, .bool false, .int .i64 0, .int .i64 0, .int .i64 0, .string ⟨#[]⟩] 116)) (.cells #[.int .i64 0, .string ⟨#[]⟩, .bool false, .int .i64 0, .int .i64 0, .int .i64 0, .string ⟨#[]⟩] 116) _ HBr_1.out.lt))
 have HBm_2 : Hid (Ob ((w.alloc (.cells #[.int .i64 0, .string ⟨#[]⟩, .bool false, .int .i64 0, .int .i64 0, .int .i64 0, .string ⟨#[]⟩] 116)).alloc (.cells #[.int .i64 0, .string ⟨#[]⟩, .bool false, .int .i64 0, .int .i64 0, .int .i64 0, .string ⟨#[]⟩] 116)) (w.heap.size + 1) 116 #[.int .i64 0, .string ⟨#[]⟩, .bool false, .int .i64 0, .int .i64 0, .int .i64 0, .string ⟨#[]⟩]) := Lib.hid (by have := Ob.made (w.alloc (.cells #[.int .i64 0, .string ⟨#[]⟩, .bool false, .int .i64 0, .int .i64 0, .int .i64 0, .string ⟨#[]⟩] 116)) 116 #[.int .i64 0, .string ⟨#[]⟩, .bool false, .int .i64 0, .int .i64 0, .int .i64 0, .string ⟨#[]⟩]; simpa using this)
 have HR0 := Lib.hid ((h.alloc (.cells #[.int .i64 0, .string ⟨#[]⟩, .bool false, .int .i64 0, .int .i64 0, .int .i64 0, .string ⟨#[]⟩] 116)).alloc (.cells #[.int .i64 0, .string ⟨#[]⟩, .bool false, .int .i64 0, .int .i64 0, .int .i64 0, .string ⟨#[]⟩] 116))
 have HO0 := Lib.hid (((Only.refl (r := g) (w := w)).al (.cells #[.int .i64 0, .string ⟨#[]⟩, .bool false, .int .i64 0, .int .i64 0, .int .i64 0, .string ⟨#[]⟩] 116)).al (.cells #[.int .i64 0, .string ⟨#[]⟩, .bool false, .int .i64 0, .int .i64 0, .int .i64 0, .string ⟨#[]⟩] 116))
 clear h e1 e2 e3 e4
 go_enter Tryz.func159, Tryz.ntmps159
 go_wp2_with fail
 go_at_call 169
 refine (pcat_any HR0.out).mono ?_
 rintro x u3 ⟨hx, ho, hr⟩
 obtain rfl : x = .returned (.int .i64 (i : Int)) := by rw [hx, E1.out] <;> rfl
 rw [E1.out] at hr
 clear hx
 have HO3 := Lib.hid (HO0.out.trans ho)
 have HR3 := Lib.hid hr
 have HBr_3 := Lib.hid (HBr_2.out.keep (ho.heap HBr_2.out.lt (by have := HG.out; omega)))
 have HBm_3 := Lib.hid (HBm_2.out.keep (ho.heap HBm_2.out.lt (by have := HG.out; omega)))
 clear ho hr
 go_wp2_with fail
 go_at_call 168
 refine (pattr_any HR3.out (i : Int)).mono ?_
 rintro x u4 ⟨hx, ho, hr⟩
 obtain rfl : x = .returned (.agg #[.int .i64 ac, .string an, .bool am]) := by rw [hx, E2.out] <;> rfl
 rw [E2.out] at hr
 clear hx
 have HO4 := Lib.hid (HO3.out.trans ho)
 have HR4 := Lib.hid hr
 have HBr_4 := Lib.hid (HBr_3.out.keep (ho.heap HBr_3.out.lt (by have := HG.out; omega)))
 have HBm_4 := Lib.hid (HBm_3.out.keep (ho.heap HBm_3.out.lt (by have := HG.out; omega)))
 clear ho hr
 have c5 := HBm_4.out.cell 0
 have f5 := HBm_4.out.frozen 0
 have HO5 := Lib.hid (HO4.out.new (r := w.heap.size + 1) (by have := HG.out; omega) 0 (.int .i64 ac))
 have HR5 := Lib.hid (HR4.out.set (r := w.heap.size + 1) (by have := HG.out; omega) 0 (.int .i64 ac))
 have HBr_5 := Lib.hid (HBr_4.out.keep (Below.heap_setCell u4 ⟨w.heap.size + 1, 0, none⟩ (.int .i64 ac) _ (by show w.heap.size ≠ w.heap.size + 1; have := HG.out; omega)))
 have HBm_5 : Hid (Ob (u4.setCell ⟨w.heap.size + 1, 0, none⟩ (.int .i64 ac)) (w.heap.size + 1) 116 #[.int .i64 ac, .string ⟨#[]⟩, .bool false, .int .i64 0, .int .i64 0, .int .i64 0, .string ⟨#[]⟩]) := Lib.hid (by have := HBm_4.out.put 0 (.int .i64 ac); simpa using this)
 have c6 := HBm_5.out.cell 1
 have f6 := HBm_5.out.frozen 1
 have HO6 := Lib.hid (HO5.out.new (r := w.heap.size + 1) (by have := HG.out; omega) 1 (.string an))
 have HR6 := Lib.hid (HR5.out.set (r := w.heap.size + 1) (by have := HG.out; omega) 1 (.string an))
 have HBr_6 := Lib.hid (HBr_5.out.keep (Below.heap_setCell (u4.setCell ⟨w.heap.size + 1, 0, none⟩ (.int .i64 ac)) ⟨w.heap.size + 1, 1, none⟩ (.string an) _ (by show w.heap.size ≠ w.heap.size + 1; have := HG.out; omega)))
 have HBm_6 : Hid (Ob ((u4.setCell ⟨w.heap.size + 1, 0, none⟩ (.int .i64 ac)).setCell ⟨w.heap.size + 1, 1, none⟩ (.string an)) (w.heap.size + 1) 116 #[.int .i64 ac, .string an, .bool false, .int .i64 0, .int .i64 0, .int .i64 0, .string ⟨#[]⟩]) := Lib.hid (by have := HBm_5.out.put 1 (.string an); simpa using this)
 have c7 := HBm_6.out.cell 2
 have f7 := HBm_6.out.frozen 2
 have HO7 := Lib.hid (HO6.out.new (r := w.heap.size + 1) (by have := HG.out; omega) 2 (.bool am))
 have HR7 := Lib.hid (HR6.out.set (r := w.heap.size + 1) (by have := HG.out; omega) 2 (.bool am))
 have HBr_7 := Lib.hid (HBr_6.out.keep (Below.heap_setCell ((u4.setCell ⟨w.heap.size + 1, 0, none⟩ (.int .i64 ac)).setCell ⟨w.heap.size + 1, 1, none⟩ (.string an)) ⟨w.heap.size + 1, 2, none⟩ (.bool am) _ (by show w.heap.size ≠ w.heap.size + 1; have := HG.out; omega)))
 have HBm_7 : Hid (Ob (((u4.setCell ⟨w.heap.size + 1, 0, none⟩ (.int .i64 ac)).setCell ⟨w.heap.size + 1, 1, none⟩ (.string an)).setCell ⟨w.heap.size + 1, 2, none⟩ (.bool am)) (w.heap.size + 1) 116 #[.int .i64 ac, .string an, .bool am, .int .i64 0, .int .i64 0, .int .i64 0, .string ⟨#[]⟩]) := Lib.hid (by have := HBm_6.out.put 2 (.bool am); simpa using this)
 go_wp2_with fail
 go_at_call 90
 refine (pmust_lit HR7.out [m_eqm, m_lt, m_gt] #[.string ⟨#[61]⟩, .string ⟨#[60]⟩, .string ⟨#[62]⟩] 3 rfl rfl (by omega) (by first | rfl | (simp; done) | (simp [World.setCell]; done))).mono ?_
 rintro x u8 ⟨hx, ho, hr⟩
 obtain rfl : x = .returned (.int .i64 (j : Int)) := by rw [hx, E3.out] <;> rfl
 rw [E3.out] at hr
 clear hx
 have HO8 := Lib.hid (HO7.out.trans ho)
 have HR8 := Lib.hid hr
 have HBr_8 := Lib.hid (HBr_7.out.keep (ho.heap HBr_7.out.lt (by have := HG.out; omega)))
 have HBm_8 := Lib.hid (HBm_7.out.keep (ho.heap HBm_7.out.lt (by have := HG.out; omega)))
 clear ho hr
 have c9 := HBm_8.out.cell 3
 have f9 := HBm_8.out.frozen 3
 have HO9 := Lib.hid (HO8.out.new (r := w.heap.size + 1) (by have := HG.out; omega) 3 (.int .i64 (j : Int)))
 have HR9 := Lib.hid (HR8.out.set (r := w.heap.size + 1) (by have := HG.out; omega) 3 (.int .i64 (j : Int)))
 have HBr_9 := Lib.hid (HBr_8.out.keep (Below.heap_setCell u8 ⟨w.heap.size + 1, 3, none⟩ (.int .i64 (j : Int)) _ (by show w.heap.size ≠ w.heap.size + 1; have := HG.out; omega)))
 have HBm_9 : Hid (Ob (u8.setCell ⟨w.heap.size + 1, 3, none⟩ (.int .i64 (j : Int))) (w.heap.size + 1) 116 #[.int .i64 ac, .string an, .bool am, .int .i64 (j : Int), .int .i64 0, .int .i64 0, .string ⟨#[]⟩]) := Lib.hid (by have := HBm_8.out.put 3 (.int .i64 (j : Int)); simpa using this)
 go_wp2_with fail
 go_at_call 170
 refine (pvalue_any HR9.out).mono ?_
 rintro x u10 ⟨hx, ho, hr⟩
 obtain rfl : x = .returned (.agg #[.int .i64 vk, .int .i64 vn, .string vs]) := by rw [hx, E4.out] <;> rfl
 rw [E4.out] at hr
 clear hx
 have HO10 := Lib.hid (HO9.out.trans ho)
 have HR10 := Lib.hid hr
 have HBr_10 := Lib.hid (HBr_9.out.keep (ho.heap HBr_9.out.lt (by have := HG.out; omega)))
 have HBm_10 := Lib.hid (HBm_9.out.keep (ho.heap HBm_9.out.lt (by have := HG.out; omega)))
 clear ho hr
 have c11 := HBm_10.out.cell 4
 have f11 := HBm_10.out.frozen 4
 have HO11 := Lib.hid (HO10.out.new (r := w.heap.size + 1) (by have := HG.out; omega) 4 (.int .i64 vk))
 have HR11 := Lib.hid (HR10.out.set (r := w.heap.size + 1) (by have := HG.out; omega) 4 (.int .i64 vk))
 have HBr_11 := Lib.hid (HBr_10.out.keep (Below.heap_setCell u10 ⟨w.heap.size + 1, 4, none⟩ (.int .i64 vk) _ (by show w.heap.size ≠ w.heap.size + 1; have := HG.out; omega)))
 have HBm_11 : Hid (Ob (u10.setCell ⟨w.heap.size + 1, 4, none⟩ (.int .i64 vk)) (w.heap.size + 1) 116 #[.int .i64 ac, .string an, .bool am, .int .i64 (j : Int), .int .i64 vk, .int .i64 0, .string ⟨#[]⟩]) := Lib.hid (by have := HBm_10.out.put 4 (.int .i64 vk); simpa using this)
 have c12 := HBm_11.out.cell 5
 have f12 := HBm_11.out.frozen 5
 have HO12 := Lib.hid (HO11.out.new (r := w.heap.size + 1) (by have := HG.out; omega) 5 (.int .i64 vn))
 have HR12 := Lib.hid (HR11.out.set (r := w.heap.size + 1) (by have := HG.out; omega) 5 (.int .i64 vn))
 have HBr_12 := Lib.hid (HBr_11.out.keep (Below.heap_setCell (u10.setCell ⟨w.heap.size + 1, 4, none⟩ (.int .i64 vk)) ⟨w.heap.size + 1, 5, none⟩ (.int .i64 vn) _ (by show w.heap.size ≠ w.heap.size + 1; have := HG.out; omega)))
 have HBm_12 : Hid (Ob ((u10.setCell ⟨w.heap.size + 1, 4, none⟩ (.int .i64 vk)).setCell ⟨w.heap.size + 1, 5, none⟩ (.int .i64 vn)) (w.heap.size + 1) 116 #[.int .i64 ac, .string an, .bool am, .int .i64 (j : Int), .int .i64 vk, .int .i64 vn, .string ⟨#[]⟩]) := Lib.hid (by have := HBm_11.out.put 5 (.int .i64 vn); simpa using this)
 have c13 := HBm_12.out.cell 6
 have f13 := HBm_12.out.frozen 6
 have HO13 := Lib.hid (HO12.out.new (r := w.heap.size + 1) (by have := HG.out; omega) 6 (.string vs))
 have HR13 := Lib.hid (HR12.out.set (r := w.heap.size + 1) (by have := HG.out; omega) 6 (.string vs))
 have HBr_13 := Lib.hid (HBr_12.out.keep (Below.heap_setCell ((u10.setCell ⟨w.heap.size + 1, 4, none⟩ (.int .i64 vk)).setCell ⟨w.heap.size + 1, 5, none⟩ (.int .i64 vn)) ⟨w.heap.size + 1, 6, none⟩ (.string vs) _ (by show w.heap.size ≠ w.heap.size + 1; have := HG.out; omega)))
 have HBm_13 : Hid (Ob (((u10.setCell ⟨w.heap.size + 1, 4, none⟩ (.int .i64 vk)).setCell ⟨w.heap.size + 1, 5, none⟩ (.int .i64 vn)).setCell ⟨w.heap.size + 1, 6, none⟩ (.string vs)) (w.heap.size + 1) 116 #[.int .i64 ac, .string an, .bool am, .int .i64 (j : Int), .int .i64 vk, .int .i64 vn, .string vs]) := Lib.hid (by have := HBm_12.out.put 6 (.string vs); simpa using this)
 have c14_0 := HBm_13.out.cell 0
 have c14_1 := HBm_13.out.cell 1
 have c14_2 := HBm_13.out.cell 2
 have c14_3 := HBm_13.out.cell 3
 have c14_4 := HBm_13.out.cell 4
 have c14_5 := HBm_13.out.cell 5
 have c14_6 := HBm_13.out.cell 6
 have c15 := HBr_13.out.cell 0
 have f15 := HBr_13.out.frozen 0
 have HO15 := Lib.hid (HO13.out.new (r := w.heap.size) (by have := HG.out; omega) 0 (.int .i64 ac))
 have HR15 := Lib.hid (HR13.out.set (r := w.heap.size) (by have := HG.out; omega) 0 (.int .i64 ac))
 have HBr_15 : Hid (Ob ((((u10.setCell ⟨w.heap.size + 1, 4, none⟩ (.int .i64 vk)).setCell ⟨w.heap.size + 1, 5, none⟩ (.int .i64 vn)).setCell ⟨w.heap.size + 1, 6, none⟩ (.string vs)).setCell ⟨w.heap.size, 0, none⟩ (.int .i64 ac)) (w.heap.size) 116 #[.int .i64 ac, .string ⟨#[]⟩, .bool false, .int .i64 0, .int .i64 0, .int .i64 0, .string ⟨#[]⟩]) := Lib.hid (by have := HBr_13.out.put 0 (.int .i64 ac); simpa using this)
 have HBm_15 := Lib.hid (HBm_13.out.keep (Below.heap_setCell (((u10.setCell ⟨w.heap.size + 1, 4, none⟩ (.int .i64 vk)).setCell ⟨w.heap.size + 1, 5, none⟩ (.int .i64 vn)).setCell ⟨w.heap.size + 1, 6, none⟩ (.string vs)) ⟨w.heap.size, 0, none⟩ (.int .i64 ac) _ (by show w.heap.size + 1 ≠ w.heap.size; have := HG.out; omega)))
 have c16 := HBr_15.out.cell 1
 have f16 := HBr_15.out.frozen 1
 have HO16 := Lib.hid (HO15.out.new (r := w.heap.size) (by have := HG.out; omega) 1 (.string an))
 have HR16 := Lib.hid (HR15.out.set (r := w.heap.size) (by have := HG.out; omega) 1 (.string an))
 have HBr_16 : Hid (Ob (((((u10.setCell ⟨w.heap.size + 1, 4, none⟩ (.int .i64 vk)).setCell ⟨w.heap.size + 1, 5, none⟩ (.int .i64 vn)).setCell ⟨w.heap.size + 1, 6, none⟩ (.string vs)).setCell ⟨w.heap.size, 0, none⟩ (.int .i64 ac)).setCell ⟨w.heap.size, 1, none⟩ (.string an)) (w.heap.size) 116 #[.int .i64 ac, .string an, .bool false, .int .i64 0, .int .i64 0, .int .i64 0, .string ⟨#[]⟩]) := Lib.hid (by have := HBr_15.out.put 1 (.string an); simpa using this)
 have HBm_16 := Lib.hid (HBm_15.out.keep (Below.heap_setCell ((((u10.setCell ⟨w.heap.size + 1, 4, none⟩ (.int .i64 vk)).setCell ⟨w.heap.size + 1, 5, none⟩ (.int .i64 vn)).setCell ⟨w.heap.size + 1, 6, none⟩ (.string vs)).setCell ⟨w.heap.size, 0, none⟩ (.int .i64 ac)) ⟨w.heap.size, 1, none⟩ (.string an) _ (by show w.heap.size + 1 ≠ w.heap.size; have := HG.out; omega)))
 have c17 := HBr_16.out.cell 2
 have f17 := HBr_16.out.frozen 2
 have HO17 := Lib.hid (HO16.out.new (r := w.heap.size) (by have := HG.out; omega) 2 (.bool am))
 have HR17 := Lib.hid (HR16.out.set (r := w.heap.size) (by have := HG.out; omega) 2 (.bool am))
 have HBr_17 : Hid (Ob ((((((u10.setCell ⟨w.heap.size + 1, 4, none⟩ (.int .i64 vk)).setCell ⟨w.heap.size + 1, 5, none⟩ (.int .i64 vn)).setCell ⟨w.heap.size + 1, 6, none⟩ (.string vs)).setCell ⟨w.heap.size, 0, none⟩ (.int .i64 ac)).setCell ⟨w.heap.size, 1, none⟩ (.string an)).setCell ⟨w.heap.size, 2, none⟩ (.bool am)) (w.heap.size) 116 #[.int .i64 ac, .string an, .bool am, .int .i64 0, .int .i64 0, .int .i64 0, .string ⟨#[]⟩]) := Lib.hid (by have := HBr_16.out.put 2 (.bool am); simpa using this)
 have HBm_17 := Lib.hid (HBm_16.out.keep (Below.heap_setCell (((((u10.setCell ⟨w.heap.size + 1, 4, none⟩ (.int .i64 vk)).setCell ⟨w.heap.size + 1, 5, none⟩ (.int .i64 vn)).setCell ⟨w.heap.size + 1, 6, none⟩ (.string vs)).setCell ⟨w.heap.size, 0, none⟩ (.int .i64 ac)).setCell ⟨w.heap.size, 1, none⟩ (.string an)) ⟨w.heap.size, 2, none⟩ (.bool am) _ (by show w.heap.size + 1 ≠ w.heap.size; have := HG.out; omega)))
 have c18 := HBr_17.out.cell 3
 have f18 := HBr_17.out.frozen 3
 have HO18 := Lib.hid (HO17.out.new (r := w.heap.size) (by have := HG.out; omega) 3 (.int .i64 (j : Int)))
 have HR18 := Lib.hid (HR17.out.set (r := w.heap.size) (by have := HG.out; omega) 3 (.int .i64 (j : Int)))
 have HBr_18 : Hid (Ob (((((((u10.setCell ⟨w.heap.size + 1, 4, none⟩ (.int .i64 vk)).setCell ⟨w.heap.size + 1, 5, none⟩ (.int .i64 vn)).setCell ⟨w.heap.size + 1, 6, none⟩ (.string vs)).setCell ⟨w.heap.size, 0, none⟩ (.int .i64 ac)).setCell ⟨w.heap.size, 1, none⟩ (.string an)).setCell ⟨w.heap.size, 2, none⟩ (.bool am)).setCell ⟨w.heap.size, 3, none⟩ (.int .i64 (j : Int))) (w.heap.size) 116 #[.int .i64 ac, .string an, .bool am, .int .i64 (j : Int), .int .i64 0, .int .i64 0, .string ⟨#[]⟩]) := Lib.hid (by have := HBr_17.out.put 3 (.int .i64 (j : Int)); simpa using this)
 have HBm_18 := Lib.hid (HBm_17.out.keep (Below.heap_setCell ((((((u10.setCell ⟨w.heap.size + 1, 4, none⟩ (.int .i64 vk)).setCell ⟨w.heap.size + 1, 5, none⟩ (.int .i64 vn)).setCell ⟨w.heap.size + 1, 6, none⟩ (.string vs)).setCell ⟨w.heap.size, 0, none⟩ (.int .i64 ac)).setCell ⟨w.heap.size, 1, none⟩ (.string an)).setCell ⟨w.heap.size, 2, none⟩ (.bool am)) ⟨w.heap.size, 3, none⟩ (.int .i64 (j : Int)) _ (by show w.heap.size + 1 ≠ w.heap.size; have := HG.out; omega)))
 have c19 := HBr_18.out.cell 4
 have f19 := HBr_18.out.frozen 4
 have HO19 := Lib.hid (HO18.out.new (r := w.heap.size) (by have := HG.out; omega) 4 (.int .i64 vk))
 have HR19 := Lib.hid (HR18.out.set (r := w.heap.size) (by have := HG.out; omega) 4 (.int .i64 vk))
 have HBr_19 : Hid (Ob ((((((((u10.setCell ⟨w.heap.size + 1, 4, none⟩ (.int .i64 vk)).setCell ⟨w.heap.size + 1, 5, none⟩ (.int .i64 vn)).setCell ⟨w.heap.size + 1, 6, none⟩ (.string vs)).setCell ⟨w.heap.size, 0, none⟩ (.int .i64 ac)).setCell ⟨w.heap.size, 1, none⟩ (.string an)).setCell ⟨w.heap.size, 2, none⟩ (.bool am)).setCell ⟨w.heap.size, 3, none⟩ (.int .i64 (j : Int))).setCell ⟨w.heap.size, 4, none⟩ (.int .i64 vk)) (w.heap.size) 116 #[.int .i64 ac, .string an, .bool am, .int .i64 (j : Int), .int .i64 vk, .int .i64 0, .string ⟨#[]⟩]) := Lib.hid (by have := HBr_18.out.put 4 (.int .i64 vk); simpa using this)
 have HBm_19 := Lib.hid (HBm_18.out.keep (Below.heap_setCell (((((((u10.setCell ⟨w.heap.size + 1, 4, none⟩ (.int .i64 vk)).setCell ⟨w.heap.size + 1, 5, none⟩ (.int .i64 vn)).setCell ⟨w.heap.size + 1, 6, none⟩ (.string vs)).setCell ⟨w.heap.size, 0, none⟩ (.int .i64 ac)).setCell ⟨w.heap.size, 1, none⟩ (.string an)).setCell ⟨w.heap.size, 2, none⟩ (.bool am)).setCell ⟨w.heap.size, 3, none⟩ (.int .i64 (j : Int))) ⟨w.heap.size, 4, none⟩ (.int .i64 vk) _ (by show w.heap.size + 1 ≠ w.heap.size; have := HG.out; omega)))
 have c20 := HBr_19.out.cell 5
 have f20 := HBr_19.out.frozen 5
 have HO20 := Lib.hid (HO19.out.new (r := w.heap.size) (by have := HG.out; omega) 5 (.int .i64 vn))
 have HR20 := Lib.hid (HR19.out.set (r := w.heap.size) (by have := HG.out; omega) 5 (.int .i64 vn))
 have HBr_20 : Hid (Ob (((((((((u10.setCell ⟨w.heap.size + 1, 4, none⟩ (.int .i64 vk)).setCell ⟨w.heap.size + 1, 5, none⟩ (.int .i64 vn)).setCell ⟨w.heap.size + 1, 6, none⟩ (.string vs)).setCell ⟨w.heap.size, 0, none⟩ (.int .i64 ac)).setCell ⟨w.heap.size, 1, none⟩ (.string an)).setCell ⟨w.heap.size, 2, none⟩ (.bool am)).setCell ⟨w.heap.size, 3, none⟩ (.int .i64 (j : Int))).setCell ⟨w.heap.size, 4, none⟩ (.int .i64 vk)).setCell ⟨w.heap.size, 5, none⟩ (.int .i64 vn)) (w.heap.size) 116 #[.int .i64 ac, .string an, .bool am, .int .i64 (j : Int), .int .i64 vk, .int .i64 vn, .string ⟨#[]⟩]) := Lib.hid (by have := HBr_19.out.put 5 (.int .i64 vn); simpa using this)
 have HBm_20 := Lib.hid (HBm_19.out.keep (Below.heap_setCell ((((((((u10.setCell ⟨w.heap.size + 1, 4, none⟩ (.int .i64 vk)).setCell ⟨w.heap.size + 1, 5, none⟩ (.int .i64 vn)).setCell ⟨w.heap.size + 1, 6, none⟩ (.string vs)).setCell ⟨w.heap.size, 0, none⟩ (.int .i64 ac)).setCell ⟨w.heap.size, 1, none⟩ (.string an)).setCell ⟨w.heap.size, 2, none⟩ (.bool am)).setCell ⟨w.heap.size, 3, none⟩ (.int .i64 (j : Int))).setCell ⟨w.heap.size, 4, none⟩ (.int .i64 vk)) ⟨w.heap.size, 5, none⟩ (.int .i64 vn) _ (by show w.heap.size + 1 ≠ w.heap.size; have := HG.out; omega)))
 have c21 := HBr_20.out.cell 6
 have f21 := HBr_20.out.frozen 6
 have HO21 := Lib.hid (HO20.out.new (r := w.heap.size) (by have := HG.out; omega) 6 (.string vs))
 have HR21 := Lib.hid (HR20.out.set (r := w.heap.size) (by have := HG.out; omega) 6 (.string vs))
 have HBr_21 : Hid (Ob ((((((((((u10.setCell ⟨w.heap.size + 1, 4, none⟩ (.int .i64 vk)).setCell ⟨w.heap.size + 1, 5, none⟩ (.int .i64 vn)).setCell ⟨w.heap.size + 1, 6, none⟩ (.string vs)).setCell ⟨w.heap.size, 0, none⟩ (.int .i64 ac)).setCell ⟨w.heap.size, 1, none⟩ (.string an)).setCell ⟨w.heap.size, 2, none⟩ (.bool am)).setCell ⟨w.heap.size, 3, none⟩ (.int .i64 (j : Int))).setCell ⟨w.heap.size, 4, none⟩ (.int .i64 vk)).setCell ⟨w.heap.size, 5, none⟩ (.int .i64 vn)).setCell ⟨w.heap.size, 6, none⟩ (.string vs)) (w.heap.size) 116 #[.int .i64 ac, .string an, .bool am, .int .i64 (j : Int), .int .i64 vk, .int .i64 vn, .string vs]) := Lib.hid (by have := HBr_20.out.put 6 (.string vs); simpa using this)
 have HBm_21 := Lib.hid (HBm_20.out.keep (Below.heap_setCell (((((((((u10.setCell ⟨w.heap.size + 1, 4, none⟩ (.int .i64 vk)).setCell ⟨w.heap.size + 1, 5, none⟩ (.int .i64 vn)).setCell ⟨w.heap.size + 1, 6, none⟩ (.string vs)).setCell ⟨w.heap.size, 0, none⟩ (.int .i64 ac)).setCell ⟨w.heap.size, 1, none⟩ (.string an)).setCell ⟨w.heap.size, 2, none⟩ (.bool am)).setCell ⟨w.heap.size, 3, none⟩ (.int .i64 (j : Int))).setCell ⟨w.heap.size, 4, none⟩ (.int .i64 vk)).setCell ⟨w.heap.size, 5, none⟩ (.int .i64 vn)) ⟨w.heap.size, 6, none⟩ (.string vs) _ (by show w.heap.size + 1 ≠ w.heap.size; have := HG.out; omega)))
 go_wp2_with fail
 refine bodyPost_ret (match_ret rfl rfl HBr_21.out rfl) rfl ?_
 exact ⟨rfl, HO21.out, HR21.out⟩
set_option maxHeartbeats 3200000 in
theorem pleaf_any (h : Rd L w g s) : Calls Tryz.prog 172 #[.pointer (some ⟨g, 0, none⟩)] w fun x w' => x = .returned (leafR s).1.val ∧ Only g w w' ∧ Rd L w' g (leafR s).2 := by
 obtain ⟨i, s1, e1⟩ : ∃ i t, catR s = (i, t) := ⟨_, _, rfl⟩
 by_cases hc : 0 < i
 ·obtain ⟨⟨ac, an, am⟩, s2, e2⟩ : ∃ a t, attrR (i : Int) s1 = (a, t) := ⟨_, _, rfl⟩
  have HE : Hid (leafR s = (⟨2, zeroV, ⟨ac, an, am⟩⟩, s2)) := by show _ = _; unfold leafR; simp only [e1, e2, if_pos hc]
  rw [HE.out]
  have E1 := Lib.hid e1
  have E2 := Lib.hid e2
  have HG : Hid (g < w.heap.size) := h.lt
  have HBr_1 : Hid (Ob (w.alloc (.cells #[.int .i64 0, .int .i64 0, .int .i64 0, .string ⟨#[]⟩, .int .i64 0, .string ⟨#[]⟩, .bool false] 81)) (w.heap.size) 81 #[.int .i64 0, .int .i64 0, .int .i64 0, .string ⟨#[]⟩, .int .i64 0, .string ⟨#[]⟩, .bool false]) := Lib.hid (by have := Ob.made w 81 #[.int .i64 0, .int .i64 0, .int .i64 0, .string ⟨#[]⟩, .int .i64 0, .string ⟨#[]⟩, .bool false]; simpa using this)
  have HR0 := Lib.hid (h.alloc (.cells #[.int .i64 0, .int .i64 0, .int .i64 0, .string ⟨#[]⟩, .int .i64 0, .string ⟨#[]⟩, .bool false] 81))
  have HO0 := Lib.hid ((Only.refl (r := g) (w := w)).al (.cells #[.int .i64 0, .int .i64 0, .int .i64 0, .string ⟨#[]⟩, .int .i64 0, .string ⟨#[]⟩, .bool false] 81))
  clear h e1 e2
  go_enter Tryz.func172, Tryz.ntmps172
  go_wp2_with fail
  go_at_call 169
  refine (pcat_any HR0.out).mono ?_
  rintro x u2 ⟨hx, ho, hr⟩
  obtain rfl : x = .returned (.int .i64 (i : Int)) := by rw [hx, E1.out] <;> rfl
  rw [E1.out] at hr
  clear hx
  have HO2 := Lib.hid (HO0.out.trans ho)
  have HR2 := Lib.hid hr
  have HBr_2 := Lib.hid (HBr_1.out.keep (ho.heap HBr_1.out.lt (by have := HG.out; omega)))
  clear ho hr
  go_wp2_with fail
  go_at_call 168
  refine (pattr_any HR2.out (i : Int)).mono ?_
  rintro x u3 ⟨hx, ho, hr⟩
  obtain rfl : x = .returned (.agg #[.int .i64 ac, .string an, .bool am]) := by rw [hx, E2.out] <;> rfl
  rw [E2.out] at hr
  clear hx
  have HO3 := Lib.hid (HO2.out.trans ho)
  have HR3 := Lib.hid hr
  have HBr_3 := Lib.hid (HBr_2.out.keep (ho.heap HBr_2.out.lt (by have := HG.out; omega)))
  clear ho hr
  have c4 := HBr_3.out.cell 0
  have f4 := HBr_3.out.frozen 0
  have HO4 := Lib.hid (HO3.out.new (r := w.heap.size) (by have := HG.out; omega) 0 (.int .i64 2))
  have HR4 := Lib.hid (HR3.out.set (r := w.heap.size) (by have := HG.out; omega) 0 (.int .i64 2))
  have HBr_4 : Hid (Ob (u3.setCell ⟨w.heap.size, 0, none⟩ (.int .i64 2)) (w.heap.size) 81 #[.int .i64 2, .int .i64 0, .int .i64 0, .string ⟨#[]⟩, .int .i64 0, .string ⟨#[]⟩, .bool false]) := Lib.hid (by have := HBr_3.out.put 0 (.int .i64 2); simpa using this)
  have c5 := HBr_4.out.cell 1
  have f5 := HBr_4.out.frozen 1
  have HO5 := Lib.hid (HO4.out.new (r := w.heap.size) (by have := HG.out; omega) 1 (.int .i64 0))
  have HR5 := Lib.hid (HR4.out.set (r := w.heap.size) (by have := HG.out; omega) 1 (.int .i64 0))
  have HBr_5 : Hid (Ob ((u3.setCell ⟨w.heap.size, 0, none⟩ (.int .i64 2)).setCell ⟨w.heap.size, 1, none⟩ (.int .i64 0)) (w.heap.size) 81 #[.int .i64 2, .int .i64 0, .int .i64 0, .string ⟨#[]⟩, .int .i64 0, .string ⟨#[]⟩, .bool false]) := Lib.hid (by have := HBr_4.out.put 1 (.int .i64 0); simpa using this)
  have c6 := HBr_5.out.cell 2
  have f6 := HBr_5.out.frozen 2
  have HO6 := Lib.hid (HO5.out.new (r := w.heap.size) (by have := HG.out; omega) 2 (.int .i64 0))
  have HR6 := Lib.hid (HR5.out.set (r := w.heap.size) (by have := HG.out; omega) 2 (.int .i64 0))
  have HBr_6 : Hid (Ob (((u3.setCell ⟨w.heap.size, 0, none⟩ (.int .i64 2)).setCell ⟨w.heap.size, 1, none⟩ (.int .i64 0)).setCell ⟨w.heap.size, 2, none⟩ (.int .i64 0)) (w.heap.size) 81 #[.int .i64 2, .int .i64 0, .int .i64 0, .string ⟨#[]⟩, .int .i64 0, .string ⟨#[]⟩, .bool false]) := Lib.hid (by have := HBr_5.out.put 2 (.int .i64 0); simpa using this)
  have c7 := HBr_6.out.cell 3
  have f7 := HBr_6.out.frozen 3
  have HO7 := Lib.hid (HO6.out.new (r := w.heap.size) (by have := HG.out; omega) 3 (.string ⟨#[]⟩))
  have HR7 := Lib.hid (HR6.out.set (r := w.heap.size) (by have := HG.out; omega) 3 (.string ⟨#[]⟩))
  have HBr_7 : Hid (Ob ((((u3.setCell ⟨w.heap.size, 0, none⟩ (.int .i64 2)).setCell ⟨w.heap.size, 1, none⟩ (.int .i64 0)).setCell ⟨w.heap.size, 2, none⟩ (.int .i64 0)).setCell ⟨w.heap.size, 3, none⟩ (.string ⟨#[]⟩)) (w.heap.size) 81 #[.int .i64 2, .int .i64 0, .int .i64 0, .string ⟨#[]⟩, .int .i64 0, .string ⟨#[]⟩, .bool false]) := Lib.hid (by have := HBr_6.out.put 3 (.string ⟨#[]⟩); simpa using this)
  have c8 := HBr_7.out.cell 4
  have f8 := HBr_7.out.frozen 4
  have HO8 := Lib.hid (HO7.out.new (r := w.heap.size) (by have := HG.out; omega) 4 (.int .i64 ac))
  have HR8 := Lib.hid (HR7.out.set (r := w.heap.size) (by have := HG.out; omega) 4 (.int .i64 ac))
  have HBr_8 : Hid (Ob (((((u3.setCell ⟨w.heap.size, 0, none⟩ (.int .i64 2)).setCell ⟨w.heap.size, 1, none⟩ (.int .i64 0)).setCell ⟨w.heap.size, 2, none⟩ (.int .i64 0)).setCell ⟨w.heap.size, 3, none⟩ (.string ⟨#[]⟩)).setCell ⟨w.heap.size, 4, none⟩ (.int .i64 ac)) (w.heap.size) 81 #[.int .i64 2, .int .i64 0, .int .i64 0, .string ⟨#[]⟩, .int .i64 ac, .string ⟨#[]⟩, .bool false]) := Lib.hid (by have := HBr_7.out.put 4 (.int .i64 ac); simpa using this)
  have c9 := HBr_8.out.cell 5
  have f9 := HBr_8.out.frozen 5
  have HO9 := Lib.hid (HO8.out.new (r := w.heap.size) (by have := HG.out; omega) 5 (.string an))
  have HR9 := Lib.hid (HR8.out.set (r := w.heap.size) (by have := HG.out; omega) 5 (.string an))
  have HBr_9 : Hid (Ob ((((((u3.setCell ⟨w.heap.size, 0, none⟩ (.int .i64 2)).setCell ⟨w.heap.size, 1, none⟩ (.int .i64 0)).setCell ⟨w.heap.size, 2, none⟩ (.int .i64 0)).setCell ⟨w.heap.size, 3, none⟩ (.string ⟨#[]⟩)).setCell ⟨w.heap.size, 4, none⟩ (.int .i64 ac)).setCell ⟨w.heap.size, 5, none⟩ (.string an)) (w.heap.size) 81 #[.int .i64 2, .int .i64 0, .int .i64 0, .string ⟨#[]⟩, .int .i64 ac, .string an, .bool false]) := Lib.hid (by have := HBr_8.out.put 5 (.string an); simpa using this)
  have c10 := HBr_9.out.cell 6
  have f10 := HBr_9.out.frozen 6
  have HO10 := Lib.hid (HO9.out.new (r := w.heap.size) (by have := HG.out; omega) 6 (.bool am))
  have HR10 := Lib.hid (HR9.out.set (r := w.heap.size) (by have := HG.out; omega) 6 (.bool am))
  have HBr_10 : Hid (Ob (((((((u3.setCell ⟨w.heap.size, 0, none⟩ (.int .i64 2)).setCell ⟨w.heap.size, 1, none⟩ (.int .i64 0)).setCell ⟨w.heap.size, 2, none⟩ (.int .i64 0)).setCell ⟨w.heap.size, 3, none⟩ (.string ⟨#[]⟩)).setCell ⟨w.heap.size, 4, none⟩ (.int .i64 ac)).setCell ⟨w.heap.size, 5, none⟩ (.string an)).setCell ⟨w.heap.size, 6, none⟩ (.bool am)) (w.heap.size) 81 #[.int .i64 2, .int .i64 0, .int .i64 0, .string ⟨#[]⟩, .int .i64 ac, .string an, .bool am]) := Lib.hid (by have := HBr_9.out.put 6 (.bool am); simpa using this)
  go_wp2_with fail
  refine bodyPost_ret (node_ret rfl rfl HBr_10.out rfl) rfl ?_
  exact ⟨rfl, HO10.out, HR10.out⟩
 ·obtain ⟨⟨vk, vn, vs⟩, s2, e2⟩ : ∃ a t, valueR s1 = (a, t) := ⟨_, _, rfl⟩
  have HE : Hid (leafR s = (⟨1, ⟨vk, vn, vs⟩, zeroA⟩, s2)) := by show _ = _; unfold leafR; simp only [e1, e2, if_neg hc]
  obtain rfl : i = 0 := by omega
  rw [HE.out]
  have E1 := Lib.hid e1
  have E2 := Lib.hid e2
  have HG : Hid (g < w.heap.size) := h.lt
  have HBr_1 : Hid (Ob (w.alloc (.cells #[.int .i64 0, .int .i64 0, .int .i64 0, .string ⟨#[]⟩, .int .i64 0, .string ⟨#[]⟩, .bool false] 81)) (w.heap.size) 81 #[.int .i64 0, .int .i64 0, .int .i64 0, .string ⟨#[]⟩, .int .i64 0, .string ⟨#[]⟩, .bool false]) := Lib.hid (by have := Ob.made w 81 #[.int .i64 0, .int .i64 0, .int .i64 0, .string ⟨#[]⟩, .int .i64 0, .string ⟨#[]⟩, .bool false]; simpa using this)
  have HR0 := Lib.hid (h.alloc (.cells #[.int .i64 0, .int .i64 0, .int .i64 0, .string ⟨#[]⟩, .int .i64 0, .string ⟨#[]⟩, .bool false] 81))
  have HO0 := Lib.hid ((Only.refl (r := g) (w := w)).al (.cells #[.int .i64 0, .int .i64 0, .int .i64 0, .string ⟨#[]⟩, .int .i64 0, .string ⟨#[]⟩, .bool false] 81))
  clear h e1 e2
  go_enter Tryz.func172, Tryz.ntmps172
  go_wp2_with fail
  go_at_call 169
  refine (pcat_any HR0.out).mono ?_
  rintro x u2 ⟨hx, ho, hr⟩
  obtain rfl : x = .returned (.int .i64 ((0 : Nat) : Int)) := by rw [hx, E1.out] <;> rfl
  rw [E1.out] at hr
  clear hx
  have HO2 := Lib.hid (HO0.out.trans ho)
  have HR2 := Lib.hid hr
  have HBr_2 := Lib.hid (HBr_1.out.keep (ho.heap HBr_1.out.lt (by have := HG.out; omega)))
  clear ho hr
  go_wp2_with fail
  go_at_call 170
  refine (pvalue_any HR2.out).mono ?_
  rintro x u3 ⟨hx, ho, hr⟩
  obtain rfl : x = .returned (.agg #[.int .i64 vk, .int .i64 vn, .string vs]) := by rw [hx, E2.out] <;> rfl
  rw [E2.out] at hr
  clear hx
  have HO3 := Lib.hid (HO2.out.trans ho)
  have HR3 := Lib.hid hr
  have HBr_3 := Lib.hid (HBr_2.out.keep (ho.heap HBr_2.out.lt (by have := HG.out; omega)))
  clear ho hr
  have c4 := HBr_3.out.cell 0
  have f4 := HBr_3.out.frozen 0
  have HO4 := Lib.hid (HO3.out.new (r := w.heap.size) (by have := HG.out; omega) 0 (.int .i64 1))
  have HR4 := Lib.hid (HR3.out.set (r := w.heap.size) (by have := HG.out; omega) 0 (.int .i64 1))
  have HBr_4 : Hid (Ob (u3.setCell ⟨w.heap.size, 0, none⟩ (.int .i64 1)) (w.heap.size) 81 #[.int .i64 1, .int .i64 0, .int .i64 0, .string ⟨#[]⟩, .int .i64 0, .string ⟨#[]⟩, .bool false]) := Lib.hid (by have := HBr_3.out.put 0 (.int .i64 1); simpa using this)
  have c5 := HBr_4.out.cell 1
  have f5 := HBr_4.out.frozen 1
  have HO5 := Lib.hid (HO4.out.new (r := w.heap.size) (by have := HG.out; omega) 1 (.int .i64 vk))
  have HR5 := Lib.hid (HR4.out.set (r := w.heap.size) (by have := HG.out; omega) 1 (.int .i64 vk))
  have HBr_5 : Hid (Ob ((u3.setCell ⟨w.heap.size, 0, none⟩ (.int .i64 1)).setCell ⟨w.heap.size, 1, none⟩ (.int .i64 vk)) (w.heap.size) 81 #[.int .i64 1, .int .i64 vk, .int .i64 0, .string ⟨#[]⟩, .int .i64 0, .string ⟨#[]⟩, .bool false]) := Lib.hid (by have := HBr_4.out.put 1 (.int .i64 vk); simpa using this)
  have c6 := HBr_5.out.cell 2
  have f6 := HBr_5.out.frozen 2
  have HO6 := Lib.hid (HO5.out.new (r := w.heap.size) (by have := HG.out; omega) 2 (.int .i64 vn))
  have HR6 := Lib.hid (HR5.out.set (r := w.heap.size) (by have := HG.out; omega) 2 (.int .i64 vn))
  have HBr_6 : Hid (Ob (((u3.setCell ⟨w.heap.size, 0, none⟩ (.int .i64 1)).setCell ⟨w.heap.size, 1, none⟩ (.int .i64 vk)).setCell ⟨w.heap.size, 2, none⟩ (.int .i64 vn)) (w.heap.size) 81 #[.int .i64 1, .int .i64 vk, .int .i64 vn, .string ⟨#[]⟩, .int .i64 0, .string ⟨#[]⟩, .bool false]) := Lib.hid (by have := HBr_5.out.put 2 (.int .i64 vn); simpa using this)
  have c7 := HBr_6.out.cell 3
  have f7 := HBr_6.out.frozen 3
  have HO7 := Lib.hid (HO6.out.new (r := w.heap.size) (by have := HG.out; omega) 3 (.string vs))
  have HR7 := Lib.hid (HR6.out.set (r := w.heap.size) (by have := HG.out; omega) 3 (.string vs))
  have HBr_7 : Hid (Ob ((((u3.setCell ⟨w.heap.size, 0, none⟩ (.int .i64 1)).setCell ⟨w.heap.size, 1, none⟩ (.int .i64 vk)).setCell ⟨w.heap.size, 2, none⟩ (.int .i64 vn)).setCell ⟨w.heap.size, 3, none⟩ (.string vs)) (w.heap.size) 81 #[.int .i64 1, .int .i64 vk, .int .i64 vn, .string vs, .int .i64 0, .string ⟨#[]⟩, .bool false]) := Lib.hid (by have := HBr_6.out.put 3 (.string vs); simpa using this)
  have c8 := HBr_7.out.cell 4
  have f8 := HBr_7.out.frozen 4
  have HO8 := Lib.hid (HO7.out.new (r := w.heap.size) (by have := HG.out; omega) 4 (.int .i64 0))
  have HR8 := Lib.hid (HR7.out.set (r := w.heap.size) (by have := HG.out; omega) 4 (.int .i64 0))
  have HBr_8 : Hid (Ob (((((u3.setCell ⟨w.heap.size, 0, none⟩ (.int .i64 1)).setCell ⟨w.heap.size, 1, none⟩ (.int .i64 vk)).setCell ⟨w.heap.size, 2, none⟩ (.int .i64 vn)).setCell ⟨w.heap.size, 3, none⟩ (.string vs)).setCell ⟨w.heap.size, 4, none⟩ (.int .i64 0)) (w.heap.size) 81 #[.int .i64 1, .int .i64 vk, .int .i64 vn, .string vs, .int .i64 0, .string ⟨#[]⟩, .bool false]) := Lib.hid (by have := HBr_7.out.put 4 (.int .i64 0); simpa using this)
  have c9 := HBr_8.out.cell 5
  have f9 := HBr_8.out.frozen 5
  have HO9 := Lib.hid (HO8.out.new (r := w.heap.size) (by have := HG.out; omega) 5 (.string ⟨#[]⟩))
  have HR9 := Lib.hid (HR8.out.set (r := w.heap.size) (by have := HG.out; omega) 5 (.string ⟨#[]⟩))
  have HBr_9 : Hid (Ob ((((((u3.setCell ⟨w.heap.size, 0, none⟩ (.int .i64 1)).setCell ⟨w.heap.size, 1, none⟩ (.int .i64 vk)).setCell ⟨w.heap.size, 2, none⟩ (.int .i64 vn)).setCell ⟨w.heap.size, 3, none⟩ (.string vs)).setCell ⟨w.heap.size, 4, none⟩ (.int .i64 0)).setCell ⟨w.heap.size, 5, none⟩ (.string ⟨#[]⟩)) (w.heap.size) 81 #[.int .i64 1, .int .i64 vk, .int .i64 vn, .string vs, .int .i64 0, .string ⟨#[]⟩, .bool false]) := Lib.hid (by have := HBr_8.out.put 5 (.string ⟨#[]⟩); simpa using this)
  have c10 := HBr_9.out.cell 6
  have f10 := HBr_9.out.frozen 6
  have HO10 := Lib.hid (HO9.out.new (r := w.heap.size) (by have := HG.out; omega) 6 (.bool false))
  have HR10 := Lib.hid (HR9.out.set (r := w.heap.size) (by have := HG.out; omega) 6 (.bool false))
  have HBr_10 : Hid (Ob (((((((u3.setCell ⟨w.heap.size, 0, none⟩ (.int .i64 1)).setCell ⟨w.heap.size, 1, none⟩ (.int .i64 vk)).setCell ⟨w.heap.size, 2, none⟩ (.int .i64 vn)).setCell ⟨w.heap.size, 3, none⟩ (.string vs)).setCell ⟨w.heap.size, 4, none⟩ (.int .i64 0)).setCell ⟨w.heap.size, 5, none⟩ (.string ⟨#[]⟩)).setCell ⟨w.heap.size, 6, none⟩ (.bool false)) (w.heap.size) 81 #[.int .i64 1, .int .i64 vk, .int .i64 vn, .string vs, .int .i64 0, .string ⟨#[]⟩, .bool false]) := Lib.hid (by have := HBr_9.out.put 6 (.bool false); simpa using this)
  go_wp2_with fail
  refine bodyPost_ret (node_ret rfl rfl HBr_10.out rfl) rfl ?_
  exact ⟨rfl, HO10.out, HR10.out⟩
end
end Go.Proofs.YtmoglaknmlhpgaaGreatDoor
