/- Several texts in one: EvalRule, CombAll, EvalParts, OperApp. -/
import Derived.Test.YtmoglaknmlhpgaaGreatDoorOnlH
import Derived.Test.YtmoglaknmlhpgaaGreatDoorOnlI
import Derived.Test.YtmoglaknmlhpgaaGreatDoorOnlM
import Derived.Laws.ResultCell
import Derived.Test.YtmoglaknmlhpgaaGreatDoorOnlG
import Derived.Test.YtmoglaknmlhpgaaGreatDoorOnlA
/- Package eval: effect, Rule. -/
namespace Go.Proofs.YtmoglaknmlhpgaaGreatDoor
set_option linter.unusedVariables false
open Go.RowKit Go.Sort
attribute [local go_sem] eq0 feq2 eq4 fgt0 gt2 ord_eq ord_gt ord_lt

theorem ev_store {P : Program} {w : World} {a : Addr} {m : Mode} (k : FloatKind) (x y : Nat) : (store a (.complex k x y) m).run P w = stored P w a (.complex k x y) m := run_store P w a _ m rfl
attribute [local go_sem] ev_store
theorem Ob.grownI {w : World} {g i : Nat} {t : TypeId} {cs : Array Value} {a : Value} (h : Ob w g t cs) (hi : cs[i]? = some a) : ∀ d os, (grow (redrawn w d) os).cell? ⟨g, i, none⟩ = some a :=
 fun d os => cell_regrown ((h.cell i).trans hi) d os
theorem res_ret {fn : Func} {t : Tmp} {tmps : Array Value} {w : World} {g : Nat} {m : Value} {A : Option Addr} {n c : Nat} (h : fn.results = #[.cell t 44]) (hp : tmps.getD t undef = .pointer (some ⟨g, 0, none⟩))
  (hg : Ob w g 44 #[m, .slice A n c]) : (results fn tmps).run Tryz.prog w = .ok (.agg #[m, .slice A n c]) w :=
 results_cell_row h tmps w g _ _ (0, 0) _ hp hg Tryz.underlying44 rfl (by kernel_rfl)
theorem Dus.set2 {w : World} {g B B0 : Nat} {A : Option Addr} {n c : Nat} {l : List Dut} (h : Dus w (fun b => B ≤ b) A n c l) (hg : g < B) (hB : B0 ≤ B) (u v : Value) : Dus ((w.setCell ⟨g, 0, none⟩ u).setCell ⟨g, 1, none⟩ v) (fun b => B0 ≤ b) A n c l :=
 h.keep ⟨by simp [World.setCell], fun b hb _ => (Below.heap_setCell _ _ _ _ (by have h1 : B ≤ b := hb; show b ≠ g; omega)).trans (Below.heap_setCell _ _ _ _ (by have h1 : B ≤ b := hb; show b ≠ g; omega))⟩ (fun b hb _ => Nat.le_trans hB hb)
theorem below_set2 {w w' : World} {g : Nat} (h : Below w.heap.size w w') (hg : w.heap.size ≤ g) (u v : Value) : Below w.heap.size w ((w'.setCell ⟨g, 0, none⟩ u).setCell ⟨g, 1, none⟩ v) :=
 (h.setCell (p := ⟨g, 0, none⟩) hg u).setCell (p := ⟨g, 1, none⟩) hg v
theorem Ob.set2 {w : World} {g : Nat} {t : TypeId} {a b : Value} (h : Ob w g t #[a, b]) (u v : Value) : Ob ((w.setCell ⟨g, 0, none⟩ u).setCell ⟨g, 1, none⟩ v) g t #[u, v] := by
 simpa using (h.put 0 u).put 1 v
theorem mark_na (m : Mk) (h : m = (0, 0)) : (.complex .f64 0 0 : Value) = .complex .f64 (fl m.1) (fl m.2) := by rw [h, fl0]

set_option maxHeartbeats 800000 in
theorem effect_any (w : World) (s : ByteArray) (b : Bool) (A1 : Option Addr) (n1 c1 : Nat) (A2 : Option Addr) (n2 c2 : Nat) (A3 : Option Addr) (n3 c3 : Nat) :
  Calls Tryz.prog 98 #[.agg #[.string s, .bool b, .slice A1 n1 c1, .slice A2 n2 c2, .slice A3 n3 c3]] w fun e w' => e = .returned (.complex .f64 (fl (effM b).1) (fl (effM b).2)) ∧ Below w.heap.size w w' := by
 have a1 := Lib.hid ((Below.refl w.heap.size w).alloc (Nat.le_refl _) (.cells #[.string s, .bool b, .slice A1 n1 c1, .slice A2 n2 c2, .slice A3 n3 c3] 77))
 cases b
 ·go_enter Tryz.func98, Tryz.ntmps98
  go_wp2_with fail
  go_ret
  refine ⟨?_, a1.out⟩
  show _ = Ending.returned (.complex .f64 (fl 4) (fl 0))
  rw [fl0, fl4]
  rfl
 ·go_enter Tryz.func98, Tryz.ntmps98
  go_wp2_with fail
  go_ret
  refine ⟨?_, a1.out⟩
  show _ = Ending.returned (.complex .f64 (fl 0) (fl 4))
  rw [fl0, fl4]
  rfl

def ShortD (l : List Dut) : Prop := ∀ o ∈ l, o.arg.size ≤ 1000000
set_option maxRecDepth 100000 in
set_option maxHeartbeats 3200000 in
theorem evrule_any {ask : List Giv} {w : World} {R R2 : Nat → Prop} {A : Option Addr} {n c : Nat} {r : Rul} {A1 A2 A3 : Option Addr} {n1 n2 n3 c1 c2 c3 : Nat} (h1 : Tg w R A1 n1 c1 r.tg) (h2 : Nds w R A2 n2 c2 r.cond) (h3 : Dus w R A3 n3 c3 r.ob)
  (hs : ShortD r.ob) (hn : n3 ≤ 500000) (hA : Gvs w R2 A n c ask) (hG : ShortG ask) :
  Calls Tryz.prog 64 #[.agg #[.string r.id, .bool r.deny, .slice A1 n1 c1, .slice A2 n2 c2, .slice A3 n3 c3], .slice A n c] w fun e w' => ∃ A' n' c', e = .returned (.agg #[.complex .f64 (fl (ruleV ask r).m.1) (fl (ruleV ask r).m.2), .slice A' n' c']) ∧ Below w.heap.size w w' ∧ Dus w' (fun b => w.heap.size ≤ b) A' n' c' (ruleV ask r).ob := by
 have HM := Lib.hid (fun W (hW : Below w.heap.size w W) => tgmet_any (w := W) (h1.keep (Kept.all hW R) (fun _ h _ => h)) (hA.keep (Kept.all hW R2) (fun _ h _ => h)) hG)
 have HC := Lib.hid (fun W (hW : Below w.heap.size w W) => econd_any (w := W) (h2.keep (Kept.all hW R) (fun _ h _ => h)) (hA.keep (Kept.all hW R2) (fun _ h _ => h)) hG)
 have HD := Lib.hid (fun W (hW : Below w.heap.size w W) (p d : Fin 5) => duties_any (w := W) p d (h3.keep (Kept.all hW R) (fun _ h _ => h)) hs hn)
 have HN := Lib.hid hn
 have HL3 := Lib.hid (Rw.len h3)
 have HE := Lib.hid (fun W => effect_any W r.id r.deny A1 n1 c1 A2 n2 c2 A3 n3 c3)
 have HV : Hid (ruleV ask r = ruleO (metI ask r.tg) (condP ask r.cond) r) := rfl
 have HT := Lib.hid (tri_met ask r.tg)
 have HK : Hid (condP ask r.cond = 0 ∨ condP ask r.cond = 1 ∨ condP ask r.cond = 2) := by
  show _ ∨ _
  unfold condP
  repeat' split
  all_goals simp
 have HO : Hid (ruleO (metI ask r.tg) (condP ask r.cond) r = if metI ask r.tg = 0 ∨ metI ask r.tg = 2 ∧ condP ask r.cond = 0 then noRes else if metI ask r.tg = 1 ∨ condP ask r.cond = 1 then ⟨indM (effM r.deny), []⟩ else ⟨effM r.deny, dutsM r.ob (effM r.deny)⟩) := rfl
 generalize metI ask r.tg = t at *
 generalize condP ask r.cond = cc at *
 generalize ruleV ask r = v at *
 generalize ruleO t cc r = v' at *
 obtain ⟨q, hq⟩ : ∃ q, q = effM r.deny := ⟨_, rfl⟩
 rw [← hq] at HE HO
 obtain ⟨p, d⟩ := q
 obtain ⟨s, b, tg, cond, ob⟩ := r
 simp only at HE HO HD HL3
 have OB := Lib.hid (Ob.made w 77 #[.string s, .bool b, .slice A1 n1 c1, .slice A2 n2 c2, .slice A3 n3 c3])
 have a1 : Below w.heap.size w (w.alloc (.cells #[.string s, .bool b, .slice A1 n1 c1, .slice A2 n2 c2, .slice A3 n3 c3] 77)) := (Below.refl w.heap.size w).alloc (Nat.le_refl _) _
 have OB2 := Lib.hid (OB.out.keep (w' := (w.alloc (.cells #[.string s, .bool b, .slice A1 n1 c1, .slice A2 n2 c2, .slice A3 n3 c3] 77)).alloc (.cells #[.complex .f64 0 0, .slice none 0 0] 44)) (Below.heap_alloc _ _ _ OB.out.lt))
 have OR := Ob.made (w.alloc (.cells #[.string s, .bool b, .slice A1 n1 c1, .slice A2 n2 c2, .slice A3 n3 c3] 77)) 44 #[.complex .f64 0 0, .slice none 0 0]
 rw [size_al] at OR
 have OR2 := Lib.hid OR
 have D2 := Lib.hid (a1.alloc (by rw [size_al]; omega) (.cells #[.complex .f64 0 0, .slice none 0 0] 44))
 have HZ2 : Hid (((w.alloc (.cells #[.string s, .bool b, .slice A1 n1 c1, .slice A2 n2 c2, .slice A3 n3 c3] 77)).alloc (.cells #[.complex .f64 0 0, .slice none 0 0] 44)).heap.size = w.heap.size + 2) := by show _ = _; rw [size_al, size_al]
 have o0 := OB2.out.cell 0
 have o1 := OB2.out.cell 1
 have o2 := OB2.out.cell 2
 have o3 := OB2.out.cell 3
 have o4 := OB2.out.cell 4
 clear h1 h2 h3 hs hn hA hG OB OR a1 hq
 go_enter Tryz.func64, Tryz.ntmps64
 go_wp2_with fail
 refine (HE.out _).mono ?_
 rintro e w1 ⟨rfl, hb⟩
 have D3 := Lib.hid (below_step D2.out hb)
 have OB3 := Lib.hid (OB2.out.below hb OB2.out.lt)
 have OR3 := Lib.hid (OR2.out.below hb OR2.out.lt)
 have HZ3 : Hid (w.heap.size + 2 ≤ w1.heap.size) := by have h1 := hb.size; have h2 := HZ2.out; show _ ≤ _; omega
 clear hb o0 o1 o2 o3 o4
 have g2 := OB3.out.grownI (i := 2) rfl
 have g3 := OB3.out.grownI (i := 3) rfl
 have QM := Lib.hid (fun d os => Calls.regrown_of (w := w1) (d := d) (os := os) (HM.out (grow (redrawn w1 d) os) (D3.out.trans ((below_regrown w1 d os).mono D3.out.size))))
 have QC := Lib.hid (fun d os => Calls.regrown_of (w := w1) (d := d) (os := os) (HC.out (grow (redrawn w1 d) os) (D3.out.trans ((below_regrown w1 d os).mono D3.out.size))))
 go_wp2_with fail
 refine wp_region_quiet_below (by kernel_rfl) (by kernel_rfl) ?_
 repeat (go_big_quiet_step (first | (go_at_call 32; with_reducible exact QM.out _ _) | (go_at_call 99; with_reducible exact QC.out _ _)))
 refine wpQuiet_nil ?_
 intro _ hw'
 obtain ⟨⟨dq, osq⟩, hw''⟩ := hw'
 subst hw''
 have hb := below_regrown w1 dq osq
 generalize grow (redrawn w1 dq) osq = w2 at *
 have D4 := Lib.hid (below_step D3.out hb)
 have OB4 := Lib.hid (OB3.out.below hb OB3.out.lt)
 have OR4 := Lib.hid (OR3.out.below hb OR3.out.lt)
 have HZ4 : Hid (w.heap.size + 2 ≤ w2.heap.size) := by have h1 := hb.size; have h2 := HZ3.out; show _ ≤ _; omega
 clear hb g2 g3 QM QC
 rcases (show t = 0 ∨ t = 1 ∨ t = 2 by have := HT.out; unfold Tri at this; omega) with rfl | rfl | rfl
 ·have HQ : Hid (v' = noRes) := HO.out.trans (if_pos (.inl rfl))
  have r0 := OR4.out.cell 0
  have r1 := OR4.out.cell 1
  have s0 := OR4.out.frozen 0
  have s1 := OR4.out.frozen 1
  go_wp2_with fail
  try simp only [Exit.inBlock, Exit.then]
  refine bodyPost_ret (res_ret rfl rfl (OR4.out.set2 (.complex .f64 0 0) (.slice none 0 0))) rfl ?_
  exact ⟨none, 0, 0, by rw [HV.out, HQ.out, mark_na noRes.m rfl], below_set2 D4.out (by omega) _ _, by rw [HV.out, HQ.out]; exact Rw.nil_ _ _ _ _⟩
 ·have HQ : Hid (v' = ⟨indM (p, d), []⟩) := HO.out.trans ((if_neg (by omega)).trans (if_pos (.inl rfl)))
  have HI := Lib.hid (indet_any p d)
  have r0 := OR4.out.cell 0
  have r1 := OR4.out.cell 1
  have s0 := OR4.out.frozen 0
  have s1 := OR4.out.frozen 1
  go_wp2_with fail
  refine (HI.out _).mono ?_
  rintro z w' ⟨rfl, rfl⟩
  go_wp2_with fail
  try simp only [Exit.inBlock, Exit.then]
  refine bodyPost_ret (res_ret rfl rfl (OR4.out.set2 (.complex .f64 (fl (indetP p d)) (fl (indetD p d))) (.slice none 0 0))) rfl ?_
  exact ⟨none, 0, 0, by rw [HV.out, HQ.out]; rfl, below_set2 D4.out (by omega) _ _, by rw [HV.out, HQ.out]; exact Rw.nil_ _ _ _ _⟩
 ·rcases HK.out with rfl | rfl | rfl
  ·have HQ : Hid (v' = noRes) := HO.out.trans (if_pos (.inr ⟨rfl, rfl⟩))
   have r0 := OR4.out.cell 0
   have r1 := OR4.out.cell 1
   have s0 := OR4.out.frozen 0
   have s1 := OR4.out.frozen 1
   go_wp2_with fail
   try simp only [Exit.inBlock, Exit.then]
   refine bodyPost_ret (res_ret rfl rfl (OR4.out.set2 (.complex .f64 0 0) (.slice none 0 0))) rfl ?_
   exact ⟨none, 0, 0, by rw [HV.out, HQ.out, mark_na noRes.m rfl], below_set2 D4.out (by omega) _ _, by rw [HV.out, HQ.out]; exact Rw.nil_ _ _ _ _⟩
  ·have HQ : Hid (v' = ⟨indM (p, d), []⟩) := HO.out.trans ((if_neg (by omega)).trans (if_pos (.inr rfl)))
   have HI := Lib.hid (indet_any p d)
   have r0 := OR4.out.cell 0
   have r1 := OR4.out.cell 1
   have s0 := OR4.out.frozen 0
   have s1 := OR4.out.frozen 1
   go_wp2_with fail
   refine (HI.out _).mono ?_
   rintro z w' ⟨rfl, rfl⟩
   go_wp2_with fail
   try simp only [Exit.inBlock, Exit.then]
   refine bodyPost_ret (res_ret rfl rfl (OR4.out.set2 (.complex .f64 (fl (indetP p d)) (fl (indetD p d))) (.slice none 0 0))) rfl ?_
   exact ⟨none, 0, 0, by rw [HV.out, HQ.out]; rfl, below_set2 D4.out (by omega) _ _, by rw [HV.out, HQ.out]; exact Rw.nil_ _ _ _ _⟩
  ·have HQ : Hid (v' = ⟨(p, d), dutsM ob (p, d)⟩) := HO.out.trans ((if_neg (by omega)).trans (if_neg (by omega)))
   have o4 := OB4.out.cell 4
   go_wp2_with fail
   refine (HD.out _ D4.out p d).mono ?_
   rintro z w3 ⟨A', n', c', rfl, hb, ho⟩
   have OR5 := Lib.hid (OR4.out.below hb OR4.out.lt)
   have D5 := Lib.hid (below_step D4.out hb)
   have HLn : Hid ((dutsM ob (p, d)).length = n') := ho.2.1
   have HLe := Lib.hid (dutsM_len ob (p, d))
   have HLo : Hid (ob.length = n3) := HL3.out
   have DU := Lib.hid (ho.dus (by have h1 := HLn.out; have h2 := HLe.out; have h3 := HLo.out; have h4 := HN.out; omega))
   clear hb ho
   have r0 := OR5.out.cell 0
   have r1 := OR5.out.cell 1
   have s0 := OR5.out.frozen 0
   have s1 := OR5.out.frozen 1
   go_wp2_with fail
   try simp only [Exit.inBlock, Exit.then]
   refine bodyPost_ret (res_ret rfl rfl (OR5.out.set2 (.complex .f64 (fl p) (fl d)) (.slice A' n' c'))) rfl ?_
   exact ⟨A', n', c', by rw [HV.out, HQ.out], below_set2 D5.out (by omega) _ _, by rw [HV.out, HQ.out]; exact DU.out.set2 (by have := HZ4.out; omega) (by have := HZ4.out; omega) _ _⟩
end Go.Proofs.YtmoglaknmlhpgaaGreatDoor
/- All for any algorithm and any marks. -/
namespace Go.Proofs.YtmoglaknmlhpgaaGreatDoor
set_option linter.unusedVariables false
open Go.RowKit
attribute [local go_sem] eq0 feq2 eq4 fgt0 gt2 ord_eq ord_gt ord_lt run_max_fl

theorem allK_bad1 {a : Int} (h : algB a = false) (l : List Mk) : allK a l = ((0, 0), 1) := by unfold allK; rw [h]; rfl
theorem allK_bad2 (a : Int) {l : List Mk} (h : l.all rightK = false) : allK a l = ((0, 0), 1) := by unfold allK; rw [h, Bool.and_false]; rfl

set_option maxHeartbeats 1600000 in
theorem comball_any {w : World} {B n c : Nat} {A : Option Addr} {l : List Mk} (a : Int) {p d : Fin 5} {e : Int} (h : Sl w B A n c (mv l)) (hr : allK a l = ((p, d), e)) :
  Calls Tryz.prog 65 #[.int .i64 a, .slice A n c] w fun z w' => z = .returned (.tuple #[.complex .f64 (fl p) (fl d), .int .i64 e]) ∧ w = w' := by
 by_cases ha : algB a = true
 ·by_cases hl : l.all rightK = true
  ·obtain ⟨i, rfl⟩ := alg_of ha
   rw [allK_right i (List.all_eq_true.1 hl)] at hr
   obtain ⟨hm, rfl⟩ := Prod.mk.inj hr
   exact all_to i h (List.all_eq_true.1 hl) hm
  ·have hl' : l.all rightK = false := by simpa using hl
   rw [allK_bad2 a hl'] at hr
   obtain ⟨hm, rfl⟩ := Prod.mk.inj hr
   obtain ⟨rfl, rfl⟩ := Prod.mk.inj hm
   have c1 := cmarks_any h
   have c2 := cright_any a
   rw [hl'] at c1
   rw [ha] at c2
   have C1 := Lib.hid c1
   have C2 := Lib.hid c2
   clear c1 c2 h hl hl' ha hm hr
   go_enter Tryz.func65, Tryz.ntmps65
   go_wp2_with fail
   refine (C2.out _).mono ?_
   rintro z w' ⟨rfl, rfl⟩
   go_wp2_with fail
   refine C1.out.mono ?_
   rintro z w' ⟨rfl, rfl⟩
   go_wp2_with fail
   go_ret2
   exact ⟨by rw [fl0]; rfl, rfl⟩
 ·have ha' : algB a = false := by simpa using ha
  rw [allK_bad1 ha'] at hr
  obtain ⟨hm, rfl⟩ := Prod.mk.inj hr
  obtain ⟨rfl, rfl⟩ := Prod.mk.inj hm
  have c2 := cright_any a
  rw [ha'] at c2
  have C2 := Lib.hid c2
  clear c2 h ha ha' hm hr
  go_enter Tryz.func65, Tryz.ntmps65
  go_wp2_with fail
  refine (C2.out _).mono ?_
  rintro z w' ⟨rfl, rfl⟩
  go_wp2_with fail
  go_ret2
  exact ⟨by rw [fl0]; rfl, rfl⟩

end Go.Proofs.YtmoglaknmlhpgaaGreatDoor
/- Package eval: joined, along. -/
namespace Go.Proofs.YtmoglaknmlhpgaaGreatDoor
set_option linter.unusedVariables false
open Go.RowKit
attribute [local go_sem] eq0 feq2 eq4 fgt0 gt2 ord_eq ord_gt ord_lt ev_store

theorem map_step {α β : Type} (f : α → β) {l : List α} {k : Nat} {x : α} (h : l[k]? = some x) : (l.take (k + 1)).map f = (l.take k).map f ++ [f x] := by
 obtain ⟨hk, e⟩ := List.getElem?_eq_some_iff.1 h
 rw [List.take_succ_eq_append_getElem hk, e, List.map_append]
 rfl
set_option maxRecDepth 100000 in
set_option maxHeartbeats 1600000 in
theorem joined_any {w : World} {R : Nat → Prop} {A : Option Addr} {n c : Nat} {l : List Res} (alg : Int) (h : Rss w R A n c l) (hn : n ≤ 700000) :
  Calls Tryz.prog 34 #[.int .i64 alg, .slice A n c] w fun e w' => e = .returned (.complex .f64 (fl (joinV alg l).1) (fl (joinV alg l).2)) ∧ Below w.heap.size w w' := by
 have hle := Rw.le h
 have hcap := Rw.cap h
 have HL := Lib.hid (Rw.len h)
 unfold maxLen at hcap
 have H := Lib.hid h
 obtain ⟨⟨⟨p, d⟩, e⟩, hq⟩ : ∃ q, allK alg (l.map Res.m) = q := ⟨_, rfl⟩
 have HQ := Lib.hid hq
 have HJ : Hid (joinV alg l = (p, d)) := by show _ = _; unfold joinV; rw [hq]
 generalize joinV alg l = j at *
 clear h hq
 go_enter Tryz.func34, Tryz.ntmps34
 go_wp2
 go_loopw [5, 12] (fun out i wr => ∃ (k : Nat) (A' : Option Addr) (c' : Nat), k ≤ n ∧ i = .int .i64 k ∧ out = .slice A' k c' ∧ OwM wr w.heap.size A' k c' ((l.take k).map Res.m) ∧ Below w.heap.size w wr) (fun out i _ => n - (intOf i).toNat)
 case atStart => exact ⟨0, none, 0, Nat.zero_le _, rfl, rfl, OwM.nil _ _ (Nat.le_refl _), Below.refl _ _⟩
 case round =>
  obtain ⟨k, A', c', hk, rfl, rfl, ho, hb⟩ := hrel
  have HO := Lib.hid ho
  have HB := Lib.hid hb
  clear ho hb
  by_cases hlt : k < n
  ·obtain ⟨b, o, r, Ax, nx, cx, rfl, hRb, hbl, hx, ⟨x0, x1⟩, hin⟩ := (H.out.keep (Kept.all HB.out R) (fun _ h _ => h)).at_ hlt
   have HF := Lib.hid (map_step Res.m hx)
   obtain ⟨⟨rp, rd⟩, rob⟩ := r
   simp only at x0 x1
   have a1 : Below wr.heap.size wr (wr.alloc (.cells #[.complex .f64 (fl rp) (fl rd), .slice Ax nx cx] 44)) := (Below.refl _ _).alloc (Nat.le_refl _) _
   obtain ⟨A2, c2, w3, r3, o3, b3⟩ := (HO.out.below a1).push (m := (rp, rd)) (by omega) 133
   rw [size_al] at r3
   simp only at r3
   have R3 := Lib.hid r3
   have O3 := Lib.hid o3
   have B3 := Lib.hid (HB.out.trans ((a1.mono HB.out.size).trans b3))
   clear hx hin a1 r3 o3 b3
   go_wp2_with (first
    | (at_builtin; refine wpList_append_run (o := ⟨some 20, _, _, _, _, _⟩) rfl _ _ _ _ rfl rfl rfl R3.out ?_))
   go_roundw
   case rel => exact ⟨k + 1, A2, c2, by omega, by go_num, rfl, by rw [HF.out]; exact O3.out, B3.out⟩
   case measure => simp [intOf]; omega
  ·obtain rfl : k = n := by omega
   have ho := HO.out
   rw [List.take_of_length_le (by have := HL.out; omega)] at ho
   have HA := Lib.hid (comball_any (w := wr) alg ho.sl HQ.out)
   clear ho
   go_wp2_with fail
   refine HA.out.mono ?_
   rintro z w' ⟨rfl, rfl⟩
   go_wp2_with fail
   go_ret
   exact ⟨by rw [HJ.out]; rfl, HB.out⟩
theorem obS_step {l : List Res} {k : Nat} {x : Res} (h : l[k]? = some x) : obS (l.take (k + 1)) = obS (l.take k) + x.ob.length := by
 obtain ⟨hk, e⟩ := List.getElem?_eq_some_iff.1 h
 rw [List.take_succ_eq_append_getElem hk, e, obS_app]
 rfl
theorem along_step {alg : Int} {m : Mk} {l : List Res} {k : Nat} {x : Res} (h : l[k]? = some x) (hn : alg = 3 → ∀ r ∈ l.take k, r.m ≠ m) : alongV alg m (l.take (k + 1)) = alongV alg m (l.take k) ++ if x.m = m then x.ob else [] := by
 obtain ⟨hk, e⟩ := List.getElem?_eq_some_iff.1 h
 rw [List.take_succ_eq_append_getElem hk, e]
 have h1 : alongV alg m [x] = if x.m = m then x.ob else [] := by
  unfold alongV
  simp only [alongV, List.append_nil]
  split
  ·split <;> rfl
  ·rfl
 by_cases h3 : alg = 3
 ·have h0 := along_none (alg := alg) [] (hn h3)
  rw [List.append_nil] at h0
  rw [along_none [x] (hn h3), h0, h1]
  rfl
 ·rw [along_app h3, h1]
theorem along_stop {alg : Int} {m : Mk} {l : List Res} {k : Nat} {x : Res} (h : l[k]? = some x) (h3 : alg = 3) (hn : ∀ r ∈ l.take k, r.m ≠ m) (hx : x.m = m) : alongV alg m l = alongV alg m (l.take (k + 1)) := by
 obtain ⟨hk, e⟩ := List.getElem?_eq_some_iff.1 h
 conv => lhs; rw [← List.take_append_drop k l, List.drop_eq_getElem_cons hk, e]
 rw [List.take_succ_eq_append_getElem hk, e, along_none _ hn, along_none _ hn]
 unfold alongV
 rw [if_pos hx, if_pos h3, if_pos hx, if_pos h3]
set_option maxRecDepth 100000 in
set_option maxHeartbeats 1600000 in
theorem along_any {w : World} {R : Nat → Prop} {A : Option Addr} {n c : Nat} {l : List Res} (alg : Int) (p d : Fin 5) (h : Rss w R A n c l) (hn : obS l ≤ 700000) :
  Calls Tryz.prog 36 #[.int .i64 alg, .slice A n c, .complex .f64 (fl p) (fl d)] w fun e w' => ∃ A' n' c', e = .returned (.slice A' n' c') ∧ Below w.heap.size w w' ∧ OwD w' w.heap.size A' n' c' (alongV alg (p, d) l) := by
 have hle := Rw.le h
 have hcap := Rw.cap h
 have HL := Lib.hid (Rw.len h)
 unfold maxLen at hcap
 have H := Lib.hid h
 clear h
 have HN := Lib.hid hn
 go_enter Tryz.func36, Tryz.ntmps36
 go_wp2
 go_loopw [7, 12] (fun out i wr => ∃ (k : Nat) (A' : Option Addr) (n' c' : Nat), k ≤ n ∧ i = .int .i64 k ∧ out = .slice A' n' c' ∧ (n' ≤ obS (l.take k) ∧ OwD wr w.heap.size A' n' c' (alongV alg (p, d) (l.take k)) ∧ (alg = 3 → ∀ r ∈ l.take k, r.m ≠ (p, d))) ∧ Below w.heap.size w wr) (fun out i _ => n - (intOf i).toNat)
 case atStart => exact ⟨0, none, 0, 0, Nat.zero_le _, rfl, rfl, ⟨Nat.zero_le _, OwD.nil _ _ (Nat.le_refl _), fun _ r hr => by simp at hr⟩, Below.refl _ _⟩
 case round =>
  obtain ⟨k, A', n', c', hk, rfl, rfl, ho, hb⟩ := hrel
  have HO := Lib.hid ho
  have HB := Lib.hid hb
  clear ho hb
  by_cases hlt : k < n
  ·obtain ⟨b, o, r, Ax, nx, cx, rfl, hRb, hbl, hx, ⟨x0, x1⟩, hin⟩ := (H.out.keep (Kept.all HB.out R) (fun _ h _ => h)).at_ hlt
   have HX := Lib.hid hx
   have HF := Lib.hid (along_step hx HO.out.2.2)
   have HS := Lib.hid (obS_step hx)
   have HS2 := Lib.hid (obS_take l (k + 1))
   obtain ⟨⟨rp, rd⟩, rob⟩ := r
   simp only at x0 x1 hin
   have a1 : Below wr.heap.size wr (wr.alloc (.cells #[.complex .f64 (fl rp) (fl rd), .slice Ax nx cx] 44)) := (Below.refl _ _).alloc (Nat.le_refl _) _
   have HNX : Hid (nx = rob.length) := (Rw.len hin).symm
   by_cases hm : (rp, rd) = (p, d)
   ·obtain ⟨rfl, rfl⟩ := Prod.mk.inj hm
    obtain ⟨A2, c2, w3, r3, o3, b3⟩ := (HO.out.2.1.below a1).app (hin.keep (Kept.all a1 R) (fun _ h _ => h)) (by have h1 := HO.out.1; have h2 := HS.out; have h3 := HS2.out; have h4 := HNX.out; have h5 := HN.out; simp only at h2; omega) 26
    have R3 := Lib.hid r3
    have O3 := Lib.hid o3
    have B3 := Lib.hid (HB.out.trans ((a1.mono HB.out.size).trans b3))
    have HE : Hid (alongV alg (rp, rd) (l.take (k + 1)) = alongV alg (rp, rd) (l.take k) ++ rob) := HF.out.trans (by rw [if_pos rfl])
    have HLen : Hid (n' + nx ≤ obS (l.take (k + 1))) := by have h1 := HO.out.1; have h2 := HS.out; have h4 := HNX.out; simp only at h2; show _ ≤ _; omega
    clear hx hin a1 r3 o3 b3 hm HF
    by_cases h3 : alg = 3
    ·have hb3 : (alg == 3) = true := by rw [beq_iff_eq]; exact h3
     have HW := Lib.hid (along_stop HX.out h3 (HO.out.2.2 h3) rfl)
     clear h3
     go_wp2_with (first
      | (at_builtin; refine wpList_append_run (o := ⟨some 23, _, _, _, _, _⟩) rfl _ _ _ _ rfl rfl rfl R3.out ?_))
     go_ret
     exact ⟨A2, n' + nx, c2, rfl, B3.out, by rw [HW.out, HE.out]; exact O3.out⟩
    ·have hb3 : (alg == 3) = false := by rw [beq_eq_false_iff_ne]; exact h3
     have H3 := Lib.hid h3
     clear h3
     go_wp2_with (first
      | (at_builtin; refine wpList_append_run (o := ⟨some 23, _, _, _, _, _⟩) rfl _ _ _ _ rfl rfl rfl R3.out ?_))
     go_roundw
     case rel => exact ⟨k + 1, A2, n' + nx, c2, by omega, by go_num, rfl, ⟨HLen.out, by rw [HE.out]; exact O3.out, fun h => absurd h H3.out⟩, B3.out⟩
     case measure => simp [intOf]; omega
   ·have hmb : (rp == p && rd == d) = false := by
     rw [Bool.eq_false_iff]
     intro h
     rw [Bool.and_eq_true, beq_iff_eq, beq_iff_eq] at h
     exact hm (by rw [h.1, h.2])
    have HE : Hid (alongV alg (p, d) (l.take (k + 1)) = alongV alg (p, d) (l.take k)) := HF.out.trans (by rw [if_neg hm, List.append_nil])
    have HM : Hid (alg = 3 → ∀ r ∈ l.take (k + 1), r.m ≠ (p, d)) := fun h3 r hr => by
     obtain ⟨hk', e⟩ := List.getElem?_eq_some_iff.1 HX.out
     rw [List.take_succ_eq_append_getElem hk', e] at hr
     rcases List.mem_append.1 hr with hr | hr
     ·exact HO.out.2.2 h3 r hr
     ·simp at hr
      subst hr
      exact hm
    have A1 := Lib.hid a1
    clear hx hin a1 hm HF
    go_wp2_with fail
    go_roundw
    case rel => exact ⟨k + 1, A', n', c', by omega, by go_num, rfl, ⟨by have h1 := HO.out.1; have h2 := HS.out; omega, by rw [HE.out]; exact HO.out.2.1.below A1.out, HM.out⟩, below_step HB.out A1.out⟩
    case measure => simp [intOf]; omega
  ·obtain rfl : k = n := by omega
   go_wp2
   go_ret
   have ho := HO.out
   rw [List.take_of_length_le (by have := HL.out; omega)] at ho
   exact ⟨A', n', c', rfl, HB.out, ho.2.1⟩
end Go.Proofs.YtmoglaknmlhpgaaGreatDoor
/- A builtin append whose run is known, as an operation of a region's head. -/
namespace Go.Proofs.YtmoglaknmlhpgaaGreatDoor
set_option linter.unusedVariables false
open Go.RowKit

theorem oper_append {P : Program} {o : Oper} {a : Act} {w w' : World} {K : Act → World → Prop} {Q : Exit → Act → World → Prop} (s x : Operand) (t u : TypeId)
  (hop : o.op = Op.call { callee := Callee.builtin Builtin.append, args := #[s, x], argTypes := #[t, u] }) {sv xv v' : Value} (hs : a.eval s = sv) (hx : a.eval x = xv) (hrun : (Builtin.append_ #[t, u] o.type #[sv, xv]).run P w = .ok v' w') (hK : K (a.put o.dst v') w') : Oper.wp P o a w K Q := by
 unfold Oper.wp
 simp [execOp, hop, resolve, invoke, builtin, hs, hx, hrun, Result.andThen]
 exact hK
end Go.Proofs.YtmoglaknmlhpgaaGreatDoor
