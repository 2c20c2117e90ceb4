/- Several texts in one: Parse9. -/
import Derived.Test.YtmoglaknmlhpgaaGreatDoorOnlS
import Derived.Test.YtmoglaknmlhpgaaGreatDoorOnlT
/- The parser: rules. -/
namespace Go.Proofs.YtmoglaknmlhpgaaGreatDoor
set_option linter.unusedVariables false
open Go.RowKit

theorem rule_ret {fn : Func} {t : Tmp} {tmps : Array Value} {w : World} {g : Nat} {cs : Array Value} (h : fn.results = #[.cell t 77]) (hp : tmps.getD t undef = .pointer (some ⟨g, 0, none⟩)) (hg : Ob w g 77 cs) (h3 : cs.size = 5) :
  (results fn tmps).run Tryz.prog w = .ok (.agg cs) w := results_cell_row h tmps w g _ _ (0, 0) _ hp hg Tryz.underlying77 rfl (by rw [h3]; kernel_rfl)
theorem ruleR_eq {s s1 s2 s3 s4 s5 s6 : Pz} {i j : Nat} {nm : ByteArray} {t : Tgt} {c : List Nod} {o : List Dut} (h1 : mustR [w_permit, w_deny] s = (i, s1)) (h2 : nameR s1 = (nm, s2)) (h3 : targetR s2 = (t, s3)) (h4 : condR s3 = (c, s4)) (h5 : dutsR s4 = (o, s5)) (h6 : mustR [m_semi] s5 = (j, s6)) :
  ruleR s = (⟨nm, decide (i = 2), t, c, o⟩, s6) := by
 unfold ruleR
 simp only [h1, h2, h3, h4, h5, h6]
section
variable {L g : Nat} {w : World} {s : Pz}
set_option maxHeartbeats 3200000 in
theorem prule_any (h : Rd L w g s) : Calls Tryz.prog 124 #[.pointer (some ⟨g, 0, none⟩)] w fun x w' => ∃ A1 n1 c1 A2 n2 c2 A3 n3 c3, x = .returned (.agg #[.string (ruleR s).1.id, .bool (ruleR s).1.deny, .slice A1 n1 c1, .slice A2 n2 c2, .slice A3 n3 c3]) ∧ Only g w w' ∧ Rd L w' g (ruleR s).2 ∧
  (Tg w' (fun b => w.heap.size ≤ b) A1 n1 c1 (ruleR s).1.tg ∧ Nds w' (fun b => w.heap.size ≤ b) A2 n2 c2 (ruleR s).1.cond ∧ Dus w' (fun b => w.heap.size ≤ b) A3 n3 c3 (ruleR s).1.ob ∧ (ruleR s).1.id.size ≤ maxLen) := by
 obtain ⟨i, s1, e1⟩ : ∃ x y, mustR [w_permit, w_deny] s = (x, y) := ⟨_, _, rfl⟩
 obtain ⟨nm, s2, e2⟩ : ∃ x y, nameR s1 = (x, y) := ⟨_, _, rfl⟩
 obtain ⟨tt, s3, e3⟩ : ∃ x y, targetR s2 = (x, y) := ⟨_, _, rfl⟩
 obtain ⟨cc, s4, e4⟩ : ∃ x y, condR s3 = (x, y) := ⟨_, _, rfl⟩
 obtain ⟨dd, s5, e5⟩ : ∃ x y, dutsR s4 = (x, y) := ⟨_, _, rfl⟩
 obtain ⟨j, s6, e6⟩ : ∃ x y, mustR [m_semi] s5 = (x, y) := ⟨_, _, rfl⟩
 rw [ruleR_eq e1 e2 e3 e4 e5 e6]
 have HNM : Hid (nm.size ≤ maxLen) := by have h1 := h.ok.must [w_permit, w_deny]; rw [e1] at h1; have := nameR_size h1; rw [e2] at this; exact this
 have E1 := Lib.hid e1
 have E2 := Lib.hid e2
 have E3 := Lib.hid e3
 have E4 := Lib.hid e4
 have E5 := Lib.hid e5
 have E6 := Lib.hid e6
 have hq := eq2 i
 have HG : Hid (g < w.heap.size) := h.lt
 have HBr_1 : Hid (Ob (w.alloc (.cells #[.string ⟨#[]⟩, .bool false, .slice none 0 0, .slice none 0 0, .slice none 0 0] 77)) (w.heap.size) 77 #[.string ⟨#[]⟩, .bool false, .slice none 0 0, .slice none 0 0, .slice none 0 0]) := Lib.hid (by have := Ob.made w 77 #[.string ⟨#[]⟩, .bool false, .slice none 0 0, .slice none 0 0, .slice none 0 0]; simpa using this)
 have HBr_2 := Lib.hid (HBr_1.out.keep (Below.heap_alloc (w.alloc (.cells #[.string ⟨#[]⟩, .bool false, .slice none 0 0, .slice none 0 0, .slice none 0 0] 77)) (.cells #[.string ⟨#[]⟩, .bool false, .slice none 0 0, .slice none 0 0, .slice none 0 0] 77) _ HBr_1.out.lt))
 have HBu_2 : Hid (Ob ((w.alloc (.cells #[.string ⟨#[]⟩, .bool false, .slice none 0 0, .slice none 0 0, .slice none 0 0] 77)).alloc (.cells #[.string ⟨#[]⟩, .bool false, .slice none 0 0, .slice none 0 0, .slice none 0 0] 77)) (w.heap.size + 1) 77 #[.string ⟨#[]⟩, .bool false, .slice none 0 0, .slice none 0 0, .slice none 0 0]) := Lib.hid (by have := Ob.made (w.alloc (.cells #[.string ⟨#[]⟩, .bool false, .slice none 0 0, .slice none 0 0, .slice none 0 0] 77)) 77 #[.string ⟨#[]⟩, .bool false, .slice none 0 0, .slice none 0 0, .slice none 0 0]; simpa using this)
 have HR0 := Lib.hid ((h.alloc (.cells #[.string ⟨#[]⟩, .bool false, .slice none 0 0, .slice none 0 0, .slice none 0 0] 77)).alloc (.cells #[.string ⟨#[]⟩, .bool false, .slice none 0 0, .slice none 0 0, .slice none 0 0] 77))
 have HO0 := Lib.hid (((Only.refl (r := g) (w := w)).al (.cells #[.string ⟨#[]⟩, .bool false, .slice none 0 0, .slice none 0 0, .slice none 0 0] 77)).al (.cells #[.string ⟨#[]⟩, .bool false, .slice none 0 0, .slice none 0 0, .slice none 0 0] 77))
 clear h e1 e2 e3 e4 e5 e6
 go_enter Tryz.func124, Tryz.ntmps124
 go_wp2_with fail
 go_at_call 90
 refine (pmust_lit HR0.out [w_permit, w_deny] #[.string ⟨#[112, 101, 114, 109, 105, 116]⟩, .string ⟨#[100, 101, 110, 121]⟩] 2 rfl rfl (by omega) (by first | rfl | (simp; done) | (simp [World.setCell]; done))).mono ?_
 rintro x u3 ⟨hx, ho, hr⟩
 obtain rfl : x = .returned (.int .i64 (i : Int)) := by rw [hx, E1.out] <;> rfl
 rw [E1.out] at hr
 clear hx
 have HO3 := Lib.hid (HO0.out.trans ho)
 have HR3 := Lib.hid hr
 have HBr_3 := Lib.hid (HBr_2.out.keep (ho.heap HBr_2.out.lt (by have := HG.out; omega)))
 have HBu_3 := Lib.hid (HBu_2.out.keep (ho.heap HBu_2.out.lt (by have := HG.out; omega)))
 clear ho hr
 have c4 := HBu_3.out.cell 1
 have f4 := HBu_3.out.frozen 1
 have HO4 := Lib.hid (HO3.out.new (r := w.heap.size + 1) (by have := HG.out; omega) 1 (.bool (decide (i = 2))))
 have HR4 := Lib.hid (HR3.out.set (r := w.heap.size + 1) (by have := HG.out; omega) 1 (.bool (decide (i = 2))))
 have HBr_4 := Lib.hid (HBr_3.out.keep (Below.heap_setCell u3 ⟨w.heap.size + 1, 1, none⟩ (.bool (decide (i = 2))) _ (by show w.heap.size ≠ w.heap.size + 1; have := HG.out; omega)))
 have HBu_4 : Hid (Ob (u3.setCell ⟨w.heap.size + 1, 1, none⟩ (.bool (decide (i = 2)))) (w.heap.size + 1) 77 #[.string ⟨#[]⟩, .bool (decide (i = 2)), .slice none 0 0, .slice none 0 0, .slice none 0 0]) := Lib.hid (by have := HBu_3.out.put 1 (.bool (decide (i = 2))); simpa using this)
 go_wp2_with fail
 go_at_call 91
 refine (pname_any HR4.out).mono ?_
 rintro x u5 ⟨hx, ho, hr⟩
 obtain rfl : x = .returned (.string nm) := by rw [hx, E2.out] <;> rfl
 rw [E2.out] at hr
 clear hx
 have HO5 := Lib.hid (HO4.out.trans ho)
 have HR5 := Lib.hid hr
 have HBr_5 := Lib.hid (HBr_4.out.keep (ho.heap HBr_4.out.lt (by have := HG.out; omega)))
 have HBu_5 := Lib.hid (HBu_4.out.keep (ho.heap HBu_4.out.lt (by have := HG.out; omega)))
 clear ho hr
 have c6 := HBu_5.out.cell 0
 have f6 := HBu_5.out.frozen 0
 have HO6 := Lib.hid (HO5.out.new (r := w.heap.size + 1) (by have := HG.out; omega) 0 (.string nm))
 have HR6 := Lib.hid (HR5.out.set (r := w.heap.size + 1) (by have := HG.out; omega) 0 (.string nm))
 have HBr_6 := Lib.hid (HBr_5.out.keep (Below.heap_setCell u5 ⟨w.heap.size + 1, 0, none⟩ (.string nm) _ (by show w.heap.size ≠ w.heap.size + 1; have := HG.out; omega)))
 have HBu_6 : Hid (Ob (u5.setCell ⟨w.heap.size + 1, 0, none⟩ (.string nm)) (w.heap.size + 1) 77 #[.string nm, .bool (decide (i = 2)), .slice none 0 0, .slice none 0 0, .slice none 0 0]) := Lib.hid (by have := HBu_5.out.put 0 (.string nm); simpa using this)
 go_wp2_with fail
 go_at_call 92
 refine (ptarget_any HR6.out).mono ?_
 rintro x u7 ⟨A1, n1, c1, rfl, ho, hr, ht1⟩
 rw [E3.out] at hr ht1
 have HO7 := Lib.hid (HO6.out.trans ho)
 have HR7 := Lib.hid hr
 have HBr_7 := Lib.hid (HBr_6.out.keep (ho.heap HBr_6.out.lt (by have := HG.out; omega)))
 have HBu_7 := Lib.hid (HBu_6.out.keep (ho.heap HBu_6.out.lt (by have := HG.out; omega)))
 have HTt1_7 := Lib.hid (ht1.keep (Kept.refl _ _) (R' := fun b => w.heap.size + 2 ≤ b) (fun b hb _ => by have hb : ((u5.setCell ⟨w.heap.size + 1, 0, none⟩ (.string nm))).heap.size ≤ b := hb; have := HBu_6.out.lt; show w.heap.size + 2 ≤ b; omega))
 clear ho hr ht1
 have c8 := HBu_7.out.cell 2
 have f8 := HBu_7.out.frozen 2
 have HO8 := Lib.hid (HO7.out.new (r := w.heap.size + 1) (by have := HG.out; omega) 2 (.slice A1 n1 c1))
 have HR8 := Lib.hid (HR7.out.set (r := w.heap.size + 1) (by have := HG.out; omega) 2 (.slice A1 n1 c1))
 have HBr_8 := Lib.hid (HBr_7.out.keep (Below.heap_setCell u7 ⟨w.heap.size + 1, 2, none⟩ (.slice A1 n1 c1) _ (by show w.heap.size ≠ w.heap.size + 1; have := HG.out; omega)))
 have HBu_8 : Hid (Ob (u7.setCell ⟨w.heap.size + 1, 2, none⟩ (.slice A1 n1 c1)) (w.heap.size + 1) 77 #[.string nm, .bool (decide (i = 2)), .slice A1 n1 c1, .slice none 0 0, .slice none 0 0]) := Lib.hid (by have := HBu_7.out.put 2 (.slice A1 n1 c1); simpa using this)
 have HTt1_8 := Lib.hid (HTt1_7.out.keep (Only.kept9 ((Only.refl (r := w.heap.size + 1) (w := u7)).setCell (p := ⟨w.heap.size + 1, 2, none⟩) rfl (.slice A1 n1 c1)) (fun b hb => by have hb : w.heap.size + 2 ≤ b := hb; show b ≠ w.heap.size + 1; omega)) (fun _ h _ => h))
 go_wp2_with fail
 go_at_call 148
 refine (pcond_any HR8.out).mono ?_
 rintro x u9 ⟨A2, n2, c2, rfl, ho, hr, ht2⟩
 rw [E4.out] at hr ht2
 have HO9 := Lib.hid (HO8.out.trans ho)
 have HR9 := Lib.hid hr
 have HBr_9 := Lib.hid (HBr_8.out.keep (ho.heap HBr_8.out.lt (by have := HG.out; omega)))
 have HBu_9 := Lib.hid (HBu_8.out.keep (ho.heap HBu_8.out.lt (by have := HG.out; omega)))
 have HTt1_9 := Lib.hid (HTt1_8.out.keep (ho.kept9 (fun b hb => by have := HG.out; have hb : w.heap.size + 2 ≤ b := hb; show b ≠ g; omega)) (fun _ h _ => h))
 have HTt2_9 := Lib.hid (ht2.keep (Kept.refl _ _) (R' := fun b => w.heap.size + 2 ≤ b) (fun b hb _ => by have hb : ((u7.setCell ⟨w.heap.size + 1, 2, none⟩ (.slice A1 n1 c1))).heap.size ≤ b := hb; have := HBu_8.out.lt; show w.heap.size + 2 ≤ b; omega))
 clear ho hr ht2
 have c10 := HBu_9.out.cell 3
 have f10 := HBu_9.out.frozen 3
 have HO10 := Lib.hid (HO9.out.new (r := w.heap.size + 1) (by have := HG.out; omega) 3 (.slice A2 n2 c2))
 have HR10 := Lib.hid (HR9.out.set (r := w.heap.size + 1) (by have := HG.out; omega) 3 (.slice A2 n2 c2))
 have HBr_10 := Lib.hid (HBr_9.out.keep (Below.heap_setCell u9 ⟨w.heap.size + 1, 3, none⟩ (.slice A2 n2 c2) _ (by show w.heap.size ≠ w.heap.size + 1; have := HG.out; omega)))
 have HBu_10 : Hid (Ob (u9.setCell ⟨w.heap.size + 1, 3, none⟩ (.slice A2 n2 c2)) (w.heap.size + 1) 77 #[.string nm, .bool (decide (i = 2)), .slice A1 n1 c1, .slice A2 n2 c2, .slice none 0 0]) := Lib.hid (by have := HBu_9.out.put 3 (.slice A2 n2 c2); simpa using this)
 have HTt1_10 := Lib.hid (HTt1_9.out.keep (Only.kept9 ((Only.refl (r := w.heap.size + 1) (w := u9)).setCell (p := ⟨w.heap.size + 1, 3, none⟩) rfl (.slice A2 n2 c2)) (fun b hb => by have hb : w.heap.size + 2 ≤ b := hb; show b ≠ w.heap.size + 1; omega)) (fun _ h _ => h))
 have HTt2_10 := Lib.hid (HTt2_9.out.keep (Only.kept9 ((Only.refl (r := w.heap.size + 1) (w := u9)).setCell (p := ⟨w.heap.size + 1, 3, none⟩) rfl (.slice A2 n2 c2)) (fun b hb => by have hb : w.heap.size + 2 ≤ b := hb; show b ≠ w.heap.size + 1; omega)) (fun _ h _ => h))
 go_wp2_with fail
 go_at_call 95
 refine (pduts_any HR10.out).mono ?_
 rintro x u11 ⟨A3, n3, c3, rfl, ho, hr, ht3⟩
 rw [E5.out] at hr ht3
 have HO11 := Lib.hid (HO10.out.trans ho)
 have HR11 := Lib.hid hr
 have HBr_11 := Lib.hid (HBr_10.out.keep (ho.heap HBr_10.out.lt (by have := HG.out; omega)))
 have HBu_11 := Lib.hid (HBu_10.out.keep (ho.heap HBu_10.out.lt (by have := HG.out; omega)))
 have HTt1_11 := Lib.hid (HTt1_10.out.keep (ho.kept9 (fun b hb => by have := HG.out; have hb : w.heap.size + 2 ≤ b := hb; show b ≠ g; omega)) (fun _ h _ => h))
 have HTt2_11 := Lib.hid (HTt2_10.out.keep (ho.kept9 (fun b hb => by have := HG.out; have hb : w.heap.size + 2 ≤ b := hb; show b ≠ g; omega)) (fun _ h _ => h))
 have HTt3_11 := Lib.hid (ht3.keep (Kept.refl _ _) (R' := fun b => w.heap.size + 2 ≤ b) (fun b hb _ => by have hb : ((u9.setCell ⟨w.heap.size + 1, 3, none⟩ (.slice A2 n2 c2))).heap.size ≤ b := hb; have := HBu_10.out.lt; show w.heap.size + 2 ≤ b; omega))
 clear ho hr ht3
 have c12 := HBu_11.out.cell 4
 have f12 := HBu_11.out.frozen 4
 have HO12 := Lib.hid (HO11.out.new (r := w.heap.size + 1) (by have := HG.out; omega) 4 (.slice A3 n3 c3))
 have HR12 := Lib.hid (HR11.out.set (r := w.heap.size + 1) (by have := HG.out; omega) 4 (.slice A3 n3 c3))
 have HBr_12 := Lib.hid (HBr_11.out.keep (Below.heap_setCell u11 ⟨w.heap.size + 1, 4, none⟩ (.slice A3 n3 c3) _ (by show w.heap.size ≠ w.heap.size + 1; have := HG.out; omega)))
 have HBu_12 : Hid (Ob (u11.setCell ⟨w.heap.size + 1, 4, none⟩ (.slice A3 n3 c3)) (w.heap.size + 1) 77 #[.string nm, .bool (decide (i = 2)), .slice A1 n1 c1, .slice A2 n2 c2, .slice A3 n3 c3]) := Lib.hid (by have := HBu_11.out.put 4 (.slice A3 n3 c3); simpa using this)
 have HTt1_12 := Lib.hid (HTt1_11.out.keep (Only.kept9 ((Only.refl (r := w.heap.size + 1) (w := u11)).setCell (p := ⟨w.heap.size + 1, 4, none⟩) rfl (.slice A3 n3 c3)) (fun b hb => by have hb : w.heap.size + 2 ≤ b := hb; show b ≠ w.heap.size + 1; omega)) (fun _ h _ => h))
 have HTt2_12 := Lib.hid (HTt2_11.out.keep (Only.kept9 ((Only.refl (r := w.heap.size + 1) (w := u11)).setCell (p := ⟨w.heap.size + 1, 4, none⟩) rfl (.slice A3 n3 c3)) (fun b hb => by have hb : w.heap.size + 2 ≤ b := hb; show b ≠ w.heap.size + 1; omega)) (fun _ h _ => h))
 have HTt3_12 := Lib.hid (HTt3_11.out.keep (Only.kept9 ((Only.refl (r := w.heap.size + 1) (w := u11)).setCell (p := ⟨w.heap.size + 1, 4, none⟩) rfl (.slice A3 n3 c3)) (fun b hb => by have hb : w.heap.size + 2 ≤ b := hb; show b ≠ w.heap.size + 1; omega)) (fun _ h _ => h))
 go_wp2_with fail
 go_at_call 90
 refine (pmust_lit HR12.out [m_semi] #[.string ⟨#[59]⟩] 1 rfl rfl (by omega) (by first | rfl | (simp; done) | (simp [World.setCell]; done))).mono ?_
 rintro x u13 ⟨rfl, ho, hr⟩
 rw [E6.out] at hr
 have HO13 := Lib.hid (HO12.out.trans ho)
 have HR13 := Lib.hid hr
 have HBr_13 := Lib.hid (HBr_12.out.keep (ho.heap HBr_12.out.lt (by have := HG.out; omega)))
 have HBu_13 := Lib.hid (HBu_12.out.keep (ho.heap HBu_12.out.lt (by have := HG.out; omega)))
 have HTt1_13 := Lib.hid (HTt1_12.out.keep (ho.kept9 (fun b hb => by have := HG.out; have hb : w.heap.size + 2 ≤ b := hb; show b ≠ g; omega)) (fun _ h _ => h))
 have HTt2_13 := Lib.hid (HTt2_12.out.keep (ho.kept9 (fun b hb => by have := HG.out; have hb : w.heap.size + 2 ≤ b := hb; show b ≠ g; omega)) (fun _ h _ => h))
 have HTt3_13 := Lib.hid (HTt3_12.out.keep (ho.kept9 (fun b hb => by have := HG.out; have hb : w.heap.size + 2 ≤ b := hb; show b ≠ g; omega)) (fun _ h _ => h))
 clear ho hr
 have c14_0 := HBu_13.out.cell 0
 have c14_1 := HBu_13.out.cell 1
 have c14_2 := HBu_13.out.cell 2
 have c14_3 := HBu_13.out.cell 3
 have c14_4 := HBu_13.out.cell 4
 have c15 := HBr_13.out.cell 0
 have f15 := HBr_13.out.frozen 0
 have HO15 := Lib.hid (HO13.out.new (r := w.heap.size) (by have := HG.out; omega) 0 (.string nm))
 have HR15 := Lib.hid (HR13.out.set (r := w.heap.size) (by have := HG.out; omega) 0 (.string nm))
 have HBr_15 : Hid (Ob (u13.setCell ⟨w.heap.size, 0, none⟩ (.string nm)) (w.heap.size) 77 #[.string nm, .bool false, .slice none 0 0, .slice none 0 0, .slice none 0 0]) := Lib.hid (by have := HBr_13.out.put 0 (.string nm); simpa using this)
 have HBu_15 := Lib.hid (HBu_13.out.keep (Below.heap_setCell u13 ⟨w.heap.size, 0, none⟩ (.string nm) _ (by show w.heap.size + 1 ≠ w.heap.size; have := HG.out; omega)))
 have HTt1_15 := Lib.hid (HTt1_13.out.keep (Only.kept9 ((Only.refl (r := w.heap.size) (w := u13)).setCell (p := ⟨w.heap.size, 0, none⟩) rfl (.string nm)) (fun b hb => by have hb : w.heap.size + 2 ≤ b := hb; show b ≠ w.heap.size; omega)) (fun _ h _ => h))
 have HTt2_15 := Lib.hid (HTt2_13.out.keep (Only.kept9 ((Only.refl (r := w.heap.size) (w := u13)).setCell (p := ⟨w.heap.size, 0, none⟩) rfl (.string nm)) (fun b hb => by have hb : w.heap.size + 2 ≤ b := hb; show b ≠ w.heap.size; omega)) (fun _ h _ => h))
 have HTt3_15 := Lib.hid (HTt3_13.out.keep (Only.kept9 ((Only.refl (r := w.heap.size) (w := u13)).setCell (p := ⟨w.heap.size, 0, none⟩) rfl (.string nm)) (fun b hb => by have hb : w.heap.size + 2 ≤ b := hb; show b ≠ w.heap.size; omega)) (fun _ h _ => h))
 have c16 := HBr_15.out.cell 1
 have f16 := HBr_15.out.frozen 1
 have HO16 := Lib.hid (HO15.out.new (r := w.heap.size) (by have := HG.out; omega) 1 (.bool (decide (i = 2))))
 have HR16 := Lib.hid (HR15.out.set (r := w.heap.size) (by have := HG.out; omega) 1 (.bool (decide (i = 2))))
 have HBr_16 : Hid (Ob ((u13.setCell ⟨w.heap.size, 0, none⟩ (.string nm)).setCell ⟨w.heap.size, 1, none⟩ (.bool (decide (i = 2)))) (w.heap.size) 77 #[.string nm, .bool (decide (i = 2)), .slice none 0 0, .slice none 0 0, .slice none 0 0]) := Lib.hid (by have := HBr_15.out.put 1 (.bool (decide (i = 2))); simpa using this)
 have HBu_16 := Lib.hid (HBu_15.out.keep (Below.heap_setCell (u13.setCell ⟨w.heap.size, 0, none⟩ (.string nm)) ⟨w.heap.size, 1, none⟩ (.bool (decide (i = 2))) _ (by show w.heap.size + 1 ≠ w.heap.size; have := HG.out; omega)))
 have HTt1_16 := Lib.hid (HTt1_15.out.keep (Only.kept9 ((Only.refl (r := w.heap.size) (w := (u13.setCell ⟨w.heap.size, 0, none⟩ (.string nm)))).setCell (p := ⟨w.heap.size, 1, none⟩) rfl (.bool (decide (i = 2)))) (fun b hb => by have hb : w.heap.size + 2 ≤ b := hb; show b ≠ w.heap.size; omega)) (fun _ h _ => h))
 have HTt2_16 := Lib.hid (HTt2_15.out.keep (Only.kept9 ((Only.refl (r := w.heap.size) (w := (u13.setCell ⟨w.heap.size, 0, none⟩ (.string nm)))).setCell (p := ⟨w.heap.size, 1, none⟩) rfl (.bool (decide (i = 2)))) (fun b hb => by have hb : w.heap.size + 2 ≤ b := hb; show b ≠ w.heap.size; omega)) (fun _ h _ => h))
 have HTt3_16 := Lib.hid (HTt3_15.out.keep (Only.kept9 ((Only.refl (r := w.heap.size) (w := (u13.setCell ⟨w.heap.size, 0, none⟩ (.string nm)))).setCell (p := ⟨w.heap.size, 1, none⟩) rfl (.bool (decide (i = 2)))) (fun b hb => by have hb : w.heap.size + 2 ≤ b := hb; show b ≠ w.heap.size; omega)) (fun _ h _ => h))
 have c17 := HBr_16.out.cell 2
 have f17 := HBr_16.out.frozen 2
 have HO17 := Lib.hid (HO16.out.new (r := w.heap.size) (by have := HG.out; omega) 2 (.slice A1 n1 c1))
 have HR17 := Lib.hid (HR16.out.set (r := w.heap.size) (by have := HG.out; omega) 2 (.slice A1 n1 c1))
 have HBr_17 : Hid (Ob (((u13.setCell ⟨w.heap.size, 0, none⟩ (.string nm)).setCell ⟨w.heap.size, 1, none⟩ (.bool (decide (i = 2)))).setCell ⟨w.heap.size, 2, none⟩ (.slice A1 n1 c1)) (w.heap.size) 77 #[.string nm, .bool (decide (i = 2)), .slice A1 n1 c1, .slice none 0 0, .slice none 0 0]) := Lib.hid (by have := HBr_16.out.put 2 (.slice A1 n1 c1); simpa using this)
 have HBu_17 := Lib.hid (HBu_16.out.keep (Below.heap_setCell ((u13.setCell ⟨w.heap.size, 0, none⟩ (.string nm)).setCell ⟨w.heap.size, 1, none⟩ (.bool (decide (i = 2)))) ⟨w.heap.size, 2, none⟩ (.slice A1 n1 c1) _ (by show w.heap.size + 1 ≠ w.heap.size; have := HG.out; omega)))
 have HTt1_17 := Lib.hid (HTt1_16.out.keep (Only.kept9 ((Only.refl (r := w.heap.size) (w := ((u13.setCell ⟨w.heap.size, 0, none⟩ (.string nm)).setCell ⟨w.heap.size, 1, none⟩ (.bool (decide (i = 2)))))).setCell (p := ⟨w.heap.size, 2, none⟩) rfl (.slice A1 n1 c1)) (fun b hb => by have hb : w.heap.size + 2 ≤ b := hb; show b ≠ w.heap.size; omega)) (fun _ h _ => h))
 have HTt2_17 := Lib.hid (HTt2_16.out.keep (Only.kept9 ((Only.refl (r := w.heap.size) (w := ((u13.setCell ⟨w.heap.size, 0, none⟩ (.string nm)).setCell ⟨w.heap.size, 1, none⟩ (.bool (decide (i = 2)))))).setCell (p := ⟨w.heap.size, 2, none⟩) rfl (.slice A1 n1 c1)) (fun b hb => by have hb : w.heap.size + 2 ≤ b := hb; show b ≠ w.heap.size; omega)) (fun _ h _ => h))
 have HTt3_17 := Lib.hid (HTt3_16.out.keep (Only.kept9 ((Only.refl (r := w.heap.size) (w := ((u13.setCell ⟨w.heap.size, 0, none⟩ (.string nm)).setCell ⟨w.heap.size, 1, none⟩ (.bool (decide (i = 2)))))).setCell (p := ⟨w.heap.size, 2, none⟩) rfl (.slice A1 n1 c1)) (fun b hb => by have hb : w.heap.size + 2 ≤ b := hb; show b ≠ w.heap.size; omega)) (fun _ h _ => h))
 have c18 := HBr_17.out.cell 3
 have f18 := HBr_17.out.frozen 3
 have HO18 := Lib.hid (HO17.out.new (r := w.heap.size) (by have := HG.out; omega) 3 (.slice A2 n2 c2))
 have HR18 := Lib.hid (HR17.out.set (r := w.heap.size) (by have := HG.out; omega) 3 (.slice A2 n2 c2))
 have HBr_18 : Hid (Ob ((((u13.setCell ⟨w.heap.size, 0, none⟩ (.string nm)).setCell ⟨w.heap.size, 1, none⟩ (.bool (decide (i = 2)))).setCell ⟨w.heap.size, 2, none⟩ (.slice A1 n1 c1)).setCell ⟨w.heap.size, 3, none⟩ (.slice A2 n2 c2)) (w.heap.size) 77 #[.string nm, .bool (decide (i = 2)), .slice A1 n1 c1, .slice A2 n2 c2, .slice none 0 0]) := Lib.hid (by have := HBr_17.out.put 3 (.slice A2 n2 c2); simpa using this)
 have HBu_18 := Lib.hid (HBu_17.out.keep (Below.heap_setCell (((u13.setCell ⟨w.heap.size, 0, none⟩ (.string nm)).setCell ⟨w.heap.size, 1, none⟩ (.bool (decide (i = 2)))).setCell ⟨w.heap.size, 2, none⟩ (.slice A1 n1 c1)) ⟨w.heap.size, 3, none⟩ (.slice A2 n2 c2) _ (by show w.heap.size + 1 ≠ w.heap.size; have := HG.out; omega)))
 have HTt1_18 := Lib.hid (HTt1_17.out.keep (Only.kept9 ((Only.refl (r := w.heap.size) (w := (((u13.setCell ⟨w.heap.size, 0, none⟩ (.string nm)).setCell ⟨w.heap.size, 1, none⟩ (.bool (decide (i = 2)))).setCell ⟨w.heap.size, 2, none⟩ (.slice A1 n1 c1)))).setCell (p := ⟨w.heap.size, 3, none⟩) rfl (.slice A2 n2 c2)) (fun b hb => by have hb : w.heap.size + 2 ≤ b := hb; show b ≠ w.heap.size; omega)) (fun _ h _ => h))
 have HTt2_18 := Lib.hid (HTt2_17.out.keep (Only.kept9 ((Only.refl (r := w.heap.size) (w := (((u13.setCell ⟨w.heap.size, 0, none⟩ (.string nm)).setCell ⟨w.heap.size, 1, none⟩ (.bool (decide (i = 2)))).setCell ⟨w.heap.size, 2, none⟩ (.slice A1 n1 c1)))).setCell (p := ⟨w.heap.size, 3, none⟩) rfl (.slice A2 n2 c2)) (fun b hb => by have hb : w.heap.size + 2 ≤ b := hb; show b ≠ w.heap.size; omega)) (fun _ h _ => h))
 have HTt3_18 := Lib.hid (HTt3_17.out.keep (Only.kept9 ((Only.refl (r := w.heap.size) (w := (((u13.setCell ⟨w.heap.size, 0, none⟩ (.string nm)).setCell ⟨w.heap.size, 1, none⟩ (.bool (decide (i = 2)))).setCell ⟨w.heap.size, 2, none⟩ (.slice A1 n1 c1)))).setCell (p := ⟨w.heap.size, 3, none⟩) rfl (.slice A2 n2 c2)) (fun b hb => by have hb : w.heap.size + 2 ≤ b := hb; show b ≠ w.heap.size; omega)) (fun _ h _ => h))
 have c19 := HBr_18.out.cell 4
 have f19 := HBr_18.out.frozen 4
 have HO19 := Lib.hid (HO18.out.new (r := w.heap.size) (by have := HG.out; omega) 4 (.slice A3 n3 c3))
 have HR19 := Lib.hid (HR18.out.set (r := w.heap.size) (by have := HG.out; omega) 4 (.slice A3 n3 c3))
 have HBr_19 : Hid (Ob (((((u13.setCell ⟨w.heap.size, 0, none⟩ (.string nm)).setCell ⟨w.heap.size, 1, none⟩ (.bool (decide (i = 2)))).setCell ⟨w.heap.size, 2, none⟩ (.slice A1 n1 c1)).setCell ⟨w.heap.size, 3, none⟩ (.slice A2 n2 c2)).setCell ⟨w.heap.size, 4, none⟩ (.slice A3 n3 c3)) (w.heap.size) 77 #[.string nm, .bool (decide (i = 2)), .slice A1 n1 c1, .slice A2 n2 c2, .slice A3 n3 c3]) := Lib.hid (by have := HBr_18.out.put 4 (.slice A3 n3 c3); simpa using this)
 have HBu_19 := Lib.hid (HBu_18.out.keep (Below.heap_setCell ((((u13.setCell ⟨w.heap.size, 0, none⟩ (.string nm)).setCell ⟨w.heap.size, 1, none⟩ (.bool (decide (i = 2)))).setCell ⟨w.heap.size, 2, none⟩ (.slice A1 n1 c1)).setCell ⟨w.heap.size, 3, none⟩ (.slice A2 n2 c2)) ⟨w.heap.size, 4, none⟩ (.slice A3 n3 c3) _ (by show w.heap.size + 1 ≠ w.heap.size; have := HG.out; omega)))
 have HTt1_19 := Lib.hid (HTt1_18.out.keep (Only.kept9 ((Only.refl (r := w.heap.size) (w := ((((u13.setCell ⟨w.heap.size, 0, none⟩ (.string nm)).setCell ⟨w.heap.size, 1, none⟩ (.bool (decide (i = 2)))).setCell ⟨w.heap.size, 2, none⟩ (.slice A1 n1 c1)).setCell ⟨w.heap.size, 3, none⟩ (.slice A2 n2 c2)))).setCell (p := ⟨w.heap.size, 4, none⟩) rfl (.slice A3 n3 c3)) (fun b hb => by have hb : w.heap.size + 2 ≤ b := hb; show b ≠ w.heap.size; omega)) (fun _ h _ => h))
 have HTt2_19 := Lib.hid (HTt2_18.out.keep (Only.kept9 ((Only.refl (r := w.heap.size) (w := ((((u13.setCell ⟨w.heap.size, 0, none⟩ (.string nm)).setCell ⟨w.heap.size, 1, none⟩ (.bool (decide (i = 2)))).setCell ⟨w.heap.size, 2, none⟩ (.slice A1 n1 c1)).setCell ⟨w.heap.size, 3, none⟩ (.slice A2 n2 c2)))).setCell (p := ⟨w.heap.size, 4, none⟩) rfl (.slice A3 n3 c3)) (fun b hb => by have hb : w.heap.size + 2 ≤ b := hb; show b ≠ w.heap.size; omega)) (fun _ h _ => h))
 have HTt3_19 := Lib.hid (HTt3_18.out.keep (Only.kept9 ((Only.refl (r := w.heap.size) (w := ((((u13.setCell ⟨w.heap.size, 0, none⟩ (.string nm)).setCell ⟨w.heap.size, 1, none⟩ (.bool (decide (i = 2)))).setCell ⟨w.heap.size, 2, none⟩ (.slice A1 n1 c1)).setCell ⟨w.heap.size, 3, none⟩ (.slice A2 n2 c2)))).setCell (p := ⟨w.heap.size, 4, none⟩) rfl (.slice A3 n3 c3)) (fun b hb => by have hb : w.heap.size + 2 ≤ b := hb; show b ≠ w.heap.size; omega)) (fun _ h _ => h))
 go_wp2_with fail
 refine bodyPost_ret (rule_ret rfl rfl HBr_19.out rfl) rfl ?_
 exact ⟨A1, n1, c1, A2, n2, c2, A3, n3, c3, rfl, HO19.out, HR19.out, HTt1_19.out.keep (Kept.refl _ _) (fun b hb _ => by have hb : w.heap.size + 2 ≤ b := hb; show w.heap.size ≤ b; omega), HTt2_19.out.keep (Kept.refl _ _) (fun b hb _ => by have hb : w.heap.size + 2 ≤ b := hb; show w.heap.size ≤ b; omega), HTt3_19.out.keep (Kept.refl _ _) (fun b hb _ => by have hb : w.heap.size + 2 ≤ b := hb; show w.heap.size ≤ b; omega), HNM.out⟩
theorem Rd.meets (h : Rd L w g s) (hm : s.met + s.rest.length ≤ 5990) : Rd L (w.setCell ⟨g, 1, none⟩ (.int .i64 ((s.met : Int) + 1))) g (metR s) := by
 obtain ⟨b, o, n, c, hob, hok, ⟨hn, h1, h2, h3⟩, hbg, hc, hmk⟩ := h.at_
 have ho : Only g w (w.setCell ⟨g, 1, none⟩ (.int .i64 ((s.met : Int) + 1))) := Only.refl.at_g 1 _
 refine hmk 0 ((s.met : Int) + 1) s.err s.at_ (metR s) (by omega) (by simp [metR]) (by simp [metR]) rfl rfl (met_ok hok hm) _ (fun j hj => ho.heap (Nat.lt_trans hj hob.lt) (by omega)) ?_
 have := hob.put 1 (.int .i64 ((s.met : Int) + 1))
 simpa using this
theorem rulesR_stop {n : Nat} {l : List Rul} {s : Pz} (h : seesR [w_permit, w_deny] s = 0) : rulesR (n + 1) l s = (l, s) := by
 unfold rulesR
 rw [if_pos h]
theorem rulesR_succ {n : Nat} {l : List Rul} {s s1 s2 s3 : Pz} {u : Rul} {m : Int} (h : seesR [w_permit, w_deny] s ≠ 0) (hm : (l.length : Int) + 1 = m) (h1 : mostR m 16 (metR s) = s1) (h2 : mostR (s1.met : Int) 64 s1 = s2) (h3 : ruleR s2 = (u, s3)) : rulesR (n + 1) l s = rulesR n (l ++ [u]) s3 := by
 conv => lhs; unfold rulesR
 rw [if_neg h]
 simp only [hm, h1, h2, h3]
set_option maxHeartbeats 3200000 in
theorem prules_any (h : Rd L w g s) (hsum : s.met + s.rest.length ≤ 5990) : Calls Tryz.prog 94 #[.pointer (some ⟨g, 0, none⟩)] w fun x w' => ∃ A n c, x = .returned (.slice A n c) ∧ Only g w w' ∧ Rd L w' g (rulesR s.rest.length [] s).2 ∧ Rus w' (fun b => w.heap.size ≤ b) A n c (rulesR s.rest.length [] s).1 := by
 have HG0 : Hid (g < w.heap.size) := h.lt
 have HL0 : Hid (s.rest.length ≤ 5000) := h.ok.2.2.1.1
 have HH := Lib.hid h
 have HS := Lib.hid hsum
 obtain ⟨z, hz⟩ : ∃ z, z = rulesR s.rest.length [] s := ⟨_, rfl⟩
 have HZ : Hid (z = rulesR s.rest.length [] s) := hz
 rw [← hz]
 clear h hz hsum
 go_enter Tryz.func94, Tryz.ntmps94
 go_wp2
 go_loopw [3] (fun v wr => ∃ (k : Nat) (A : Option Addr) (c : Nat) (l : List Rul) (s' : Pz) (q : Nat), v = .slice A k c ∧ Only g w wr ∧ Rd L wr g s' ∧ Gr 5 RulAt wr w.heap.size 77 A k c l ∧ k + s'.rest.length ≤ s.rest.length ∧ s'.rest.length ≤ q ∧ s'.met + s'.rest.length ≤ 5990 ∧ rulesR q l s' = z) (fun v wr => restN wr g)
 case atStart => exact ⟨0, none, 0, [], s, s.rest.length, rfl, Only.refl, HH.out, Gr.nil _ _ (Nat.le_refl _), by omega, Nat.le_refl _, HS.out, HZ.out.symm⟩
 case round =>
  obtain ⟨k, A, c, l, s', q, rfl, ho, hr, hg, hk, hq, hs, he⟩ := hrel
  have HOw := Lib.hid ho
  have HR0 := Lib.hid hr
  have HGr := Lib.hid hg
  have HK := Lib.hid hk
  have HQ := Lib.hid hq
  have HSM := Lib.hid hs
  have HG : Hid (g < wr.heap.size) := hr.lt
  have hq1 := hr.ok.pos
  obtain ⟨q, rfl⟩ : ∃ q', q = q' + 1 := ⟨q - 1, by omega⟩
  have HRN := Lib.hid hr.restN
  have HW : Hid (w.heap.size ≤ wr.heap.size) := ho.size
  by_cases hi : seesR [w_permit, w_deny] s' = 0
  ·have HE := Lib.hid ((rulesR_stop hi).symm.trans he)
   have HI := Lib.hid hi
   clear ho hr hg hk hq hs he hi hq1
   go_wp2_with fail
   go_at_call 123
   refine (psees_lit HR0.out [w_permit, w_deny] #[.string ⟨#[112, 101, 114, 109, 105, 116]⟩, .string ⟨#[100, 101, 110, 121]⟩] 2 rfl rfl (by omega) rfl).mono ?_
   rintro x u1 ⟨hx, hb⟩
   obtain rfl : x = .returned (.int .i64 ((0 : Nat) : Int)) := by rw [hx, HI.out] <;> rfl
   have HB := Lib.hid hb
   clear hx hb
   go_wp2_with fail
   go_ret
   rw [← HE.out]
   exact ⟨A, k, c, rfl, HOw.out.then_ HB.out, HR0.out.then_ HB.out, Rus.keep ((Gr.below keeps_rul HGr.out HB.out).rw keeps_rul (by have := HL0.out; have := HK.out; omega)) (Kept.refl _ _) (fun _ h _ => h)⟩
  ·obtain ⟨s1, e1⟩ : ∃ y, mostR ((k : Int) + 1) 16 (metR s') = y := ⟨_, rfl⟩
   obtain ⟨s2, e2⟩ : ∃ y, mostR (s1.met : Int) 64 s1 = y := ⟨_, rfl⟩
   obtain ⟨u, s3, e3⟩ : ∃ x y, ruleR s2 = (x, y) := ⟨_, _, rfl⟩
   have HE := Lib.hid ((rulesR_succ hi (by rw [hg.len]) e1 e2 e3).symm.trans he)
   obtain ⟨r1, r2, r3, r4, r5, r6⟩ := round_rule hr.ok hs hi ((k : Int) + 1)
   rw [e1, e2, e3] at r4 r5 r6
   rw [e1] at r3
   have HTL : Hid (s3.rest.length + 1 ≤ s'.rest.length ∧ s3.met = s'.met + 1) := ⟨r5, r6⟩
   have hk63 : k < 1000000 := by have := HL0.out; omega
   have hm63 : s'.met < 1000000 := by omega
   obtain ⟨b, oo, nn, cd, hob, _, _, _, _, _⟩ := hr.at_
   have HOB := Lib.hid hob
   have HI := Lib.hid (show 0 < seesR [w_permit, w_deny] s' by omega)
   have E1 := Lib.hid e1
   have E2 := Lib.hid e2
   have E3 := Lib.hid e3
   have HM3 := Lib.hid r3
   clear ho hr hg hk hq hs he hi hq1 e1 e2 e3 r1 r2 r3 r4 r5 r6 hob
   generalize hsv : seesR [w_permit, w_deny] s' = sv at *
   have HSV := Lib.hid hsv
   have hsv2 : decide ((0 : Int) < (sv : Int)) = true := decide_eq_true (by have := HI.out; omega)
   clear hsv
   go_wp2_with fail
   go_at_call 123
   refine (psees_lit HR0.out [w_permit, w_deny] #[.string ⟨#[112, 101, 114, 109, 105, 116]⟩, .string ⟨#[100, 101, 110, 121]⟩] 2 rfl rfl (by omega) rfl).mono ?_
   rintro x u1 ⟨hx, hb⟩
   obtain rfl : x = .returned (.int .i64 (sv : Int)) := by rw [hx, HSV.out] <;> rfl
   have HB := Lib.hid hb
   have HR1 := Lib.hid (HR0.out.then_ hb)
   have OB1 := Lib.hid (HOB.out.below hb HOB.out.lt)
   have G1 := Lib.hid (Gr.below keeps_rul HGr.out hb)
   have O1 := Lib.hid (HOw.out.then_ hb)
   have q1 := OB1.out.cell 1
   have qf := OB1.out.frozen 1
   have HR2 := Lib.hid (HR1.out.meets HSM.out)
   have O2 := Lib.hid (O1.out.at_g 1 (.int .i64 ((s'.met : Int) + 1)))
   have G2 := Lib.hid (Gr.only keeps_rul G1.out ((Only.refl (w := u1)).at_g (g := g) 1 (.int .i64 ((s'.met : Int) + 1))) HG0.out)
   clear hx hb
   go_wp2_with fail
   go_at_call 89
   refine (pmost_any HR2.out ((k : Int) + 1) 16).mono ?_
   rintro x u2 ⟨rfl, ho, hr⟩
   rw [E1.out] at hr
   have O3 := Lib.hid (O2.out.trans ho)
   have HR3 := Lib.hid hr
   have G3 := Lib.hid (Gr.only keeps_rul G2.out ho HG0.out)
   obtain ⟨b3, o3, n3, c3, hob3, _, _, _, _, _⟩ := hr.at_
   have q3 := hob3.cell 1
   have HW3 := O3.out.size
   clear ho hr hob3
   go_wp2_with fail
   go_at_call 89
   refine (pmost_any HR3.out (s1.met : Int) 64).mono ?_
   rintro x u3 ⟨rfl, ho, hr⟩
   rw [E2.out] at hr
   have O4 := Lib.hid (O3.out.trans ho)
   have HR4 := Lib.hid hr
   have G4 := Lib.hid (Gr.only keeps_rul G3.out ho HG0.out)
   clear ho hr
   go_wp2_with fail
   go_at_call 124
   refine (prule_any HR4.out).mono ?_
   rintro x u4 ⟨A1, n1, c1, A2, n2, c2, A3, n3', c3', rfl, ho, hr, ht, hn, hd, hid⟩
   rw [E3.out] at hr ht hn hd hid
   rw [E3.out]
   have hgr := Gr.only keeps_rul G4.out ho HG0.out
   have ap : ∀ b, u3.heap.size ≤ b → Nb w.heap.size (.slice A k c) b := fun b hb => G4.out.apart b hb
   obtain ⟨A5, c5, u5, r5, g5, b5⟩ := push_rule hgr hid (ht.keep (Kept.refl _ _) (fun b hb _ => ap b hb)) (hn.keep (Kept.refl _ _) (fun b hb _ => ap b hb)) (hd.keep (Kept.refl _ _) (fun b hb _ => ap b hb)) hk63
   have O5 := Lib.hid ((O4.out.trans ho).below_at b5)
   have HR5 := Lib.hid (hr.below b5 HG0.out)
   have R5 := Lib.hid r5
   have G5 := Lib.hid g5
   clear ho hr ht hn hd hid hgr ap r5 g5 b5
   go_wp2_with (at_builtin; refine wpList_append_run (o := ⟨some 30, _, _, _, _, _⟩) rfl _ _ _ _ rfl rfl rfl R5.out ?_)
   go_roundw
   case rel => exact ⟨k + 1, A5, c5, l ++ [u], s3, q, rfl, O5.out, HR5.out, G5.out, by have := HTL.out; have := HK.out; omega, by have := HTL.out; have := HQ.out; omega, by have := HTL.out; have := HSM.out; omega, HE.out⟩
   case measure => rw [HR5.out.restN, HRN.out]; have := HTL.out; omega
end
end Go.Proofs.YtmoglaknmlhpgaaGreatDoor
