/- Several texts in one: PolRule, PolPol, PolSucc. -/
import Derived.Test.YtmoglaknmlhpgaaGreatDoorOnlD
import Derived.Test.YtmoglaknmlhpgaaGreatDoorOnlB
/- A rule on the way through a policy (the project's walk.rule, and each over rules). -/
namespace Go.Proofs.YtmoglaknmlhpgaaGreatDoor
set_option linter.unusedVariables false
open Go.RowKit Go.Sort

def Only2 (g B : Nat) (w w' : World) : Prop := w'.os = w.os ∧ w'.tape = w.tape ∧ w'.output = w.output ∧ w.heap.size ≤ w'.heap.size ∧ ∀ k, k < w.heap.size → k ≠ g → k ≠ B → w'.heap[k]? = w.heap[k]?
section
variable {g B : Nat} {w w' w'' : World}
theorem Only2.refl : Only2 g B w w := ⟨rfl, rfl, rfl, Nat.le_refl _, fun _ _ _ _ => rfl⟩
theorem Only2.trans (h : Only2 g B w w') (k : Only2 g B w' w'') : Only2 g B w w'' :=
 ⟨k.1.trans h.1, k.2.1.trans h.2.1, k.2.2.1.trans h.2.2.1, Nat.le_trans h.2.2.2.1 k.2.2.2.1, fun i hi h1 h2 => (k.2.2.2.2 i (Nat.lt_of_lt_of_le hi h.2.2.2.1) h1 h2).trans (h.2.2.2.2 i hi h1 h2)⟩
theorem Only2.of_B (h : Only B w w') : Only2 g B w w' := ⟨h.os, h.tape, h.output, h.size, fun k hk _ h2 => h.heap hk h2⟩
theorem Only2.of_g (h : Only g w w') : Only2 g B w w' := ⟨h.os, h.tape, h.output, h.size, fun k hk h1 _ => h.heap hk h1⟩
theorem Only2.of_below (h : Below w.heap.size w w') : Only2 g B w w' := ⟨h.os, h.tape, h.output, h.size, fun k hk _ _ => h.block k hk⟩
theorem Only2.size (h : Only2 g B w w') : w.heap.size ≤ w'.heap.size := h.2.2.2.1
theorem Only2.heap (h : Only2 g B w w') {k : Nat} (hk : k < w.heap.size) (h1 : k ≠ g) (h2 : k ≠ B) : w'.heap[k]? = w.heap[k]? := h.2.2.2.2 k hk h1 h2
theorem Only2.kept (h : Only2 g B w w') {R : Nat → Prop} (hR : ∀ b, R b → b ≠ g ∧ b ≠ B) : Kept R w w' := ⟨h.size, fun b hb hl => h.heap hl (hR b hb).1 (hR b hb).2⟩
theorem Only2.below (h : Only2 g B w w') {L : Nat} (hL : L ≤ w.heap.size) (h1 : L ≤ g) (h2 : L ≤ B) : Below L w w' :=
 ⟨h.1, h.2.1, h.2.2.1, h.size, fun k hk => h.heap (by omega) (by omega) (by omega)⟩
theorem Only2.alloc (o : Obj) : Only2 g B w (w.alloc o) := Only2.of_below ((Below.refl _ _).alloc (Nat.le_refl _) _)
end

structure Wk (w : World) (g B : Nat) (s : Seen) : Prop where
 ob : Ob w g 59 #[.map (some B), .int .i64 s.n]
 map : MapIs w B s.ids
 ne : g ≠ B
 few : s.n ≤ s.ids.length
theorem Wk.below {w w' : World} {g B : Nat} {s : Seen} (h : Wk w g B s) (hb : Below w.heap.size w w') : Wk w' g B s :=
 ⟨h.ob.below hb h.ob.lt, h.map.below hb, h.ne, h.few⟩
theorem Wk.alloc {w : World} {g B : Nat} {s : Seen} (h : Wk w g B s) (o : Obj) : Wk (w.alloc o) g B s := h.below ((Below.refl _ _).alloc (Nat.le_refl _) _)
def WkE (w : World) (g B : Nat) (z : Int × Seen) : Prop := ∃ s, Wk w g B s ∧ (z.1 = 0 → s = z.2)
theorem WkE.ok {w : World} {g B : Nat} {z : Int × Seen} (h : WkE w g B z) (h0 : z.1 = 0) : Wk w g B z.2 := by obtain ⟨s, h1, h2⟩ := h; exact h2 h0 ▸ h1
theorem idS_some {x : ByteArray} {s : Seen} (h : (decide (Named (bl x)) && !metB x s.ids) = true) : idS x s = some ⟨s.ids ++ [x], s.n⟩ := by
 simp at h
 unfold idS
 rw [if_pos h]
theorem idS_none {x : ByteArray} {s : Seen} (h : (decide (Named (bl x)) && !metB x s.ids) = false) : idS x s = none := by
 unfold idS
 rw [if_neg]
 rintro ⟨h1, h2⟩
 simp [h1, h2] at h

set_option maxRecDepth 100000 in
set_option maxHeartbeats 3200000 in
theorem rule_any {w : World} {g B : Nat} {s : Seen} {R : Nat → Prop} {r : Rul} {A1 A2 A3 : Option Addr} {n1 k1 n2 k2 n3 k3 : Nat} (hk : Wk w g B s) (hlen : s.ids.length < 900000) (hR : ∀ b, R b → b ≠ g ∧ b ≠ B)
  (hid : r.id.size ≤ maxLen) (h1 : Tg w R A1 n1 k1 r.tg) (h2 : Nds w R A2 n2 k2 r.cond) (h3 : Dus w R A3 n3 k3 r.ob) :
  Calls Tryz.prog 57 #[.pointer (some ⟨g, 0, none⟩), .agg #[.string r.id, .bool r.deny, .slice A1 n1 k1, .slice A2 n2 k2, .slice A3 n3 k3]] w
   fun e w' => e = .returned (.int .i64 (ruleS r s).1) ∧ Only2 g B w w' ∧ WkE w' g B (ruleS r s) := by
 obtain ⟨id, dn, tg, cond, ob⟩ := r
 simp only at hid h1 h2 h3 ⊢
 have HW := Lib.hid hk
 have H1 := Lib.hid h1
 have H2 := Lib.hid h2
 have H3 := Lib.hid h3
 have HRR := Lib.hid hR
 have hkeep0 := hk.alloc (.cells #[.string id, .bool dn, .slice A1 n1 k1, .slice A2 n2 k2, .slice A3 n3 k3] 77)
 have HF := Lib.hid (fresh_any id hid hkeep0.ob hkeep0.map hkeep0.ne (by omega))
 have HW0 := Lib.hid hkeep0
 have hfew := hk.few
 have hgl : g < w.heap.size := hk.ob.lt
 have hBl : B < w.heap.size := hk.map.lt
 have hne := hk.ne
 clear hk hkeep0 h1 h2 h3 hR
 by_cases hfr : (decide (Named (bl id)) && !metB id s.ids) = true
 ·rw [hfr] at HF
  have HE : Hid (ruleS ⟨id, dn, tg, cond, ob⟩ s = if 64 < s.n + 1 then (6, ⟨s.ids ++ [id], s.n + 1⟩) else (orE (tgE tg) (orE (exprE cond) (obE ob)), ⟨s.ids ++ [id], s.n + 1⟩)) := by
   show ruleS ⟨id, dn, tg, cond, ob⟩ s = _
   unfold ruleS
   simp only [idS_some hfr]
  clear hfr
  generalize ruleS ⟨id, dn, tg, cond, ob⟩ s = z at *
  go_enter Tryz.func57, Tryz.ntmps57
  by_cases h64 : 64 < s.n + 1
  ·go_wp2_with (first
    | (go_at_call 51; refine HF.out.mono ?_; rintro e w1 ⟨rfl, hb1, hm1⟩; have O1 := Lib.hid (Ob.keep HW0.out.ob (hb1.heap HW0.out.ob.lt hne)); have c1 := O1.out.cell 1; have f1 := O1.out.frozen 1))
   go_ret
   rw [HE.out, if_pos h64]
   refine ⟨rfl, ((Only2.alloc _).trans (Only2.of_B hb1)).trans (Only2.of_g (Only.refl.setCell rfl _)), ⟨s.ids ++ [id], s.n + 1⟩, ⟨O1.out.put 1 (.int .i64 ((s.n : Int) + 1)), ?_, hne, ?_⟩, fun h => by cases h⟩
   ·exact hm1.kept (Only.refl.setCell (r := g) (p := ⟨g, 1, none⟩) rfl (.int .i64 ((s.n : Int) + 1))) (Ne.symm hne)
   ·show s.n + 1 ≤ (s.ids ++ [id]).length
    rw [List.length_append, List.length_singleton]; omega
  ·rw [if_neg h64] at HE
   go_wp2_with (first
    | (go_at_call 51; refine HF.out.mono ?_; rintro e w1 ⟨rfl, hb1, hm1⟩; have O1 := Lib.hid (Ob.keep HW0.out.ob (hb1.heap HW0.out.ob.lt hne)); have c1 := O1.out.cell 1; have f1 := O1.out.frozen 1))
   have O3 := Lib.hid (O1.out.put 1 (.int .i64 ((s.n : Int) + 1)))
   have M3 := Lib.hid (hm1.kept (Only.refl.setCell (r := g) (p := ⟨g, 1, none⟩) rfl (.int .i64 ((s.n : Int) + 1))) (Ne.symm hne))
   have G3 := Lib.hid (((Only2.alloc (g := g) (B := B) (w := w) (.cells #[.string id, .bool dn, .slice A1 n1 k1, .slice A2 n2 k2, .slice A3 n3 k3] 77)).trans (Only2.of_B hb1)).trans (Only2.of_g (Only.refl.setCell (r := g) (p := ⟨g, 1, none⟩) rfl (.int .i64 ((s.n : Int) + 1)))))
   have X3 := Lib.hid (show Ob (w1.setCell ⟨g, 1, none⟩ (.int .i64 ((s.n : Int) + 1))) w.heap.size 77 #[.string id, .bool dn, .slice A1 n1 k1, .slice A2 n2 k2, .slice A3 n3 k3] from
    Ob.keep (Ob.keep (Ob.made w _ _) (hb1.heap (by simp) (by omega))) (Below.heap_setCell _ _ _ _ (by simp; omega)))
   clear c1 f1 O1 hb1 hm1 HF HW0
   generalize w1.setCell ⟨g, 1, none⟩ (.int .i64 ((s.n : Int) + 1)) = W3 at *
   have K3 := Lib.hid (G3.out.kept HRR.out)
   have T1 := Lib.hid (H1.out.keep K3.out (fun _ h _ => h))
   have T2 := Lib.hid (H2.out.keep K3.out (fun _ h _ => h))
   have T3 := Lib.hid (H3.out.keep K3.out (fun _ h _ => h))
   have KK := Lib.hid (below_regrown W3)
   have Q1 : Hid (∀ d os, Calls Tryz.prog 54 #[.slice A1 n1 k1] (grow (redrawn W3 d) os) fun e w'' => e = .returned (.int .i64 (tgE tg)) ∧ ∃ p : Regrown, w'' = grow (redrawn W3 p.d) p.os) := fun d os => Calls.regrown_of (target_any _ (T1.out.keep (Kept.all (KK.out d os) R) (fun _ h _ => h)))
   have Q2 : Hid (∀ d os, Calls Tryz.prog 78 #[.slice A2 n2 k2] (grow (redrawn W3 d) os) fun e w'' => e = .returned (.int .i64 (exprE cond)) ∧ ∃ p : Regrown, w'' = grow (redrawn W3 p.d) p.os) := fun d os => Calls.regrown_of (expr_any _ (T2.out.keep (Kept.all (KK.out d os) R) (fun _ h _ => h)))
   have Q3 : Hid (∀ d os, Calls Tryz.prog 55 #[.slice A3 n3 k3] (grow (redrawn W3 d) os) fun e w'' => e = .returned (.int .i64 (obE ob)) ∧ ∃ p : Regrown, w'' = grow (redrawn W3 p.d) p.os) := fun d os => Calls.regrown_of (obls_any _ (T3.out.keep (Kept.all (KK.out d os) R) (fun _ h _ => h)))
   have x2 := fun d os => cell_regrown (X3.out.cell 2) d os
   have x3 := fun d os => cell_regrown (X3.out.cell 3) d os
   have x4 := fun d os => cell_regrown (X3.out.cell 4) d os
   have HOR := Lib.hid (or3 (tgE tg) (exprE cond) (obE ob))
   generalize tgE tg = a1 at *
   generalize exprE cond = a2 at *
   generalize obE ob = a3 at *
   refine wp_region_below_tail 9 (by kernel_rfl) (by kernel_rfl) ?_
   simp only [List.take_succ_cons, List.take_zero, List.drop_succ_cons, List.drop_zero]
   repeat (go_big_quiet_step ((first
    | (go_at_call 54; exact Q1.out _ _)
    | (go_at_call 78; exact Q2.out _ _)
    | (go_at_call 55; exact Q3.out _ _))))
   refine wpQuiet_nil ?_
   intro _ hw'
   obtain ⟨⟨dq, osq⟩, hw''⟩ := hw'
   subst hw''
   have hbel := below_regrown W3 dq osq
   have O4 := Lib.hid (O3.out.below hbel O3.out.lt)
   have M4 := Lib.hid (M3.out.below hbel)
   have G4 := Lib.hid (G3.out.trans (Only2.of_below hbel))
   clear x2 x3 x4 hbel Q1 Q2 Q3 KK O3 M3 G3 K3 T1 T2 T3 X3
   dsimp only at O4 M4 G4 ⊢
   generalize grow (redrawn W3 dq) osq = W4 at *
   have HSL := Lib.hid (Sl.lit W4 37 (ev [a1, a2, a3]) 3 rfl (by simp [maxLen]))
   go_wp2_with (first
    | (go_at_call 53; refine (or_any (l := [a1, a2, a3]) HSL.out (by omega) (by simp)).mono ?_; rintro e w5 ⟨rfl, rfl⟩))
   go_ret
   rw [HE.out]
   refine ⟨by rw [HOR.out]; rfl, G4.out.trans (Only2.alloc _), ⟨s.ids ++ [id], s.n + 1⟩, ⟨?_, ?_, hne, ?_⟩, fun _ => rfl⟩
   ·exact (O4.out.keep (Below.heap_alloc _ _ _ O4.out.lt))
   ·exact M4.out.below ((Below.refl _ _).alloc (Nat.le_refl _) _)
   ·show s.n + 1 ≤ (s.ids ++ [id]).length
    rw [List.length_append, List.length_singleton]; omega
 ·rw [Bool.not_eq_true] at hfr
  rw [hfr] at HF
  have HE : Hid (ruleS ⟨id, dn, tg, cond, ob⟩ s = (1, s)) := by
   show ruleS ⟨id, dn, tg, cond, ob⟩ s = _
   unfold ruleS
   simp only [idS_none hfr]
  clear hfr
  generalize ruleS ⟨id, dn, tg, cond, ob⟩ s = z at *
  go_enter Tryz.func57, Tryz.ntmps57
  go_wp2_with (first
   | (go_at_call 51; refine HF.out.mono ?_; rintro e w1 ⟨rfl, hb1, hm1⟩))
  go_ret
  rw [HE.out]
  exact ⟨rfl, (Only2.alloc _).trans (Only2.of_B hb1), ⟨s.ids ++ [id], s.n⟩, ⟨HW0.out.ob.keep (hb1.heap HW0.out.ob.lt hne), hm1, hne, by show s.n ≤ (s.ids ++ [id]).length; rw [List.length_append, List.length_singleton]; omega⟩, fun h => by cases h⟩

theorem firstS_app {α : Type} (f : α → Seen → Int × Seen) : ∀ (l m : List α) (s : Seen), firstS f (l ++ m) s = if (firstS f l s).1 ≠ 0 then firstS f l s else firstS f m (firstS f l s).2
 | [], m, s => by simp [firstS]
 | x :: l, m, s => by
  simp only [List.cons_append, firstS]
  by_cases h : (f x s).1 = 0
  ·simp only [h, ne_eq, not_true, if_false]
   exact firstS_app f l m (f x s).2
  ·simp [h]
def StTo {α : Type} (f : α → Seen → Int × Seen) (l : List α) (s0 : Seen) (k : Nat) (s : Seen) : Prop := firstS f (l.take k) s0 = (0, s)
section
variable {α : Type} {f : α → Seen → Int × Seen} {l : List α} {s0 s : Seen} {k : Nat} {x : α}
theorem StTo.zero (f : α → Seen → Int × Seen) (l : List α) (s0 : Seen) : StTo f l s0 0 s0 := rfl
theorem StTo.step (h : StTo f l s0 k s) (hx : l[k]? = some x) (h0 : (f x s).1 = 0) : StTo f l s0 (k + 1) (f x s).2 := by
 unfold StTo at h ⊢
 rw [take_next hx, firstS_app, h]
 simp only [ne_eq, not_true, if_false, firstS, h0]
theorem StTo.err (h : StTo f l s0 k s) (hx : l[k]? = some x) (h0 : (f x s).1 ≠ 0) : firstS f l s0 = f x s := by
 have e : firstS f (l.take (k + 1)) s0 = f x s := by
  unfold StTo at h
  rw [take_next hx, firstS_app, h]
  simp [firstS, h0]
 rw [← List.take_append_drop (k + 1) l, firstS_app, e, if_pos h0]
theorem StTo.all {n : Nat} (h : StTo f l s0 n s) (hn : l.length = n) : firstS f l s0 = (0, s) := by
 unfold StTo at h
 rwa [List.take_of_length_le (by omega)] at h
end
theorem idS_ids {x : ByteArray} {s s1 : Seen} (h : idS x s = some s1) : s1.ids.length = s.ids.length + 1 := by
 unfold idS at h
 split at h
 ·obtain rfl := Option.some.inj h; simp
 ·cases h
theorem ruleS_ids (r : Rul) (s : Seen) : (ruleS r s).2.ids.length ≤ s.ids.length + 1 := by
 unfold ruleS
 split
 ·exact Nat.le_succ _
 ·rename_i s1 h
  have := idS_ids h
  split <;> (simp only; omega)

set_option maxHeartbeats 1600000 in
theorem each_rule {w : World} {g B : Nat} {s : Seen} {R : Nat → Prop} {A : Option Addr} {n c : Nat} {l : List Rul} (hk : Wk w g B s) (hlen : s.ids.length < 800000) (hn : n ≤ 1000) (hR : ∀ b, R b → b ≠ g ∧ b ≠ B) (h : Rus w R A n c l) :
  Calls Tryz.prog 56 #[.slice A n c, .func (.func 57) #[.pointer (some ⟨g, 0, none⟩)] #[]] w
   fun e w' => e = .returned (.int .i64 (firstS ruleS l s).1) ∧ Only2 g B w w' ∧ WkE w' g B (firstS ruleS l s) := by
 have hle := Rw.le h
 have hcap := Rw.cap h
 have HL := Lib.hid (Rw.len h)
 unfold maxLen at hcap
 have H := Lib.hid h
 have HW := Lib.hid hk
 have HRR := Lib.hid hR
 have HGL : Hid (g < w.heap.size ∧ B < w.heap.size) := ⟨hk.ob.lt, hk.map.lt⟩
 clear h hk hR
 go_enter Tryz.func56, Tryz.ntmps56
 go_wp2
 go_loopw [10] (fun i wr => ∃ (k : Nat) (s' : Seen), k ≤ n ∧ i = .int .i64 k ∧ StTo ruleS l s k s' ∧ s'.ids.length ≤ s.ids.length + k ∧ Wk wr g B s' ∧ Only2 g B w wr) (fun i _ => n - (intOf i).toNat)
 case atStart => exact ⟨0, s, Nat.zero_le _, rfl, StTo.zero _ _ _, Nat.le_refl _, HW.out, Only2.refl⟩
 case round =>
  obtain ⟨k, s', hk, rfl, hf, hids, hw, hb⟩ := hrel
  have HF := Lib.hid hf
  have HB := Lib.hid hb
  have HW' := Lib.hid hw
  have HI := Lib.hid hids
  clear hf hb hw hids
  by_cases hlt : k < n
  ·obtain ⟨b, o, x, A1, n1, k1, A2, n2, k2, A3, n3, k3, rfl, hRb, hbl, hx, hid, ⟨c0, c1, c2, c3, c4⟩, h1, h2, h3⟩ := (H.out.keep (HB.out.kept HRR.out) (fun _ h _ => h)).at_ hlt
   have HX := Lib.hid hx
   have hka := Kept.all ((Below.refl _ wr).alloc (Nat.le_refl _) (.cells #[.string x.id, .bool x.deny, .slice A1 n1 k1, .slice A2 n2 k2, .slice A3 n3 k3] 77)) R
   have hcon := rule_any (HW'.out.alloc (.cells #[.string x.id, .bool x.deny, .slice A1 n1 k1, .slice A2 n2 k2, .slice A3 n3 k3] 77)) (by have := HI.out; omega) HRR.out hid (h1.keep hka (fun _ h _ => h)) (h2.keep hka (fun _ h _ => h)) (h3.keep hka (fun _ h _ => h))
   have HIX := Lib.hid (ruleS_ids x s')
   clear hx hka h1 h2 h3
   by_cases hz : (ruleS x s').1 = 0
   ·have HZ := Lib.hid hz
    rw [hz] at hcon
    have HC := Lib.hid hcon
    clear hz hcon
    go_wp2_with (go_at_call 57; refine HC.out.mono ?_; rintro e w1 ⟨rfl, hb1, hw1⟩; have B1 := Lib.hid hb1; have W1 := Lib.hid (hw1.ok HZ.out))
    go_roundw
    case rel => exact ⟨k + 1, _, by omega, by go_num, HF.out.step HX.out HZ.out, by have := HI.out; have := HIX.out; omega, W1.out, HB.out.trans ((Only2.alloc _).trans B1.out)⟩
    case measure => simp [intOf]; omega
   ·have HZ := Lib.hid hz
    obtain ⟨r, hr⟩ : ∃ r, r = ruleS x s' := ⟨_, rfl⟩
    have HR := Lib.hid hr
    rw [← hr] at hz hcon
    have hne : (r.1 != 0) = true := by simpa using hz
    have HC := Lib.hid hcon
    clear hcon hr
    clear hz
    go_wp2_with (go_at_call 57; refine HC.out.mono ?_; rintro e w1 ⟨rfl, hb1, hw1⟩; have B1 := Lib.hid hb1; have W1 := Lib.hid hw1; clear hw1)
    go_ret
    rw [HF.out.err HX.out HZ.out, ← HR.out]
    exact ⟨rfl, HB.out.trans ((Only2.alloc _).trans B1.out), W1.out⟩
  ·obtain rfl : k = n := by omega
   go_wp2
   go_ret
   rw [HF.out.all HL.out]
   exact ⟨rfl, HB.out, s', HW'.out, fun _ => rfl⟩
end Go.Proofs.YtmoglaknmlhpgaaGreatDoor
/- A policy and its kids, on the way through (the project's walk.policy, its closure, each over policies). -/
namespace Go.Proofs.YtmoglaknmlhpgaaGreatDoor
set_option linter.unusedVariables false
open Go.RowKit Go.Sort

def idsB : Nat → Nat
 | 0 => 0
 | d + 1 => 17 + 16 * idsB d
theorem firstS_ids {α : Type} {f : α → Seen → Int × Seen} {c : Nat} (hf : ∀ x s, (f x s).2.ids.length ≤ s.ids.length + c) : ∀ (l : List α) (s : Seen), (firstS f l s).2.ids.length ≤ s.ids.length + l.length * c
 | [], s => by simp [firstS]
 | x :: l, s => by
  have h1 := hf x s
  have h2 := firstS_ids hf l (f x s).2
  simp only [firstS, List.length_cons, Nat.add_mul, Nat.one_mul]
  split <;> omega
theorem polS_ids : ∀ (d : Nat) (p : Pol) (s : Seen), (polS d p s).2.ids.length ≤ s.ids.length + idsB d
 | 0, p, s => by simp [polS, idsB]
 | d + 1, p, s => by
  simp only [polS, idsB]
  split
  ·simp only; omega
  ·rename_i s1 h
   have h1 := idS_ids h
   split
   ·simp only; omega
   split
   ·simp only; omega
   split
   ·simp only; omega
   rename_i hn
   have h2 := firstS_ids (c := 1) ruleS_ids p.rules s1
   have hr : p.rules.length ≤ 16 := by omega
   have hk : p.kids.length ≤ 16 := by omega
   split
   ·omega
   have h3 := firstS_ids (c := idsB d) (polS_ids d) p.kids (firstS ruleS p.rules s1).2
   have h4 : p.kids.length * idsB d ≤ 16 * idsB d := Nat.mul_le_mul_right _ hk
   omega

def PolOk (d : Nat) : Prop :=
 ∀ {w : World} {g B : Nat} {s : Seen} {R : Nat → Prop} {m : Nat} {p : Pol} {A1 A2 A3 A4 : Option Addr} {n1 k1 n2 k2 n3 k3 n4 k4 : Nat}, Wk w g B s → s.ids.length + idsB d < 800000 → (∀ b, R b → b ≠ g ∧ b ≠ B) →
  p.id.size ≤ maxLen → Tg w R A1 n1 k1 p.tg → Rus w R A2 n2 k2 p.rules → Pls w R m A3 n3 k3 p.kids → Dus w R A4 n4 k4 p.ob →
  Calls Tryz.prog 30 #[.pointer (some ⟨g, 0, none⟩), .agg #[.string p.id, .bool p.set, .int .i64 p.alg, .slice A1 n1 k1, .slice A2 n2 k2, .slice A3 n3 k3, .slice A4 n4 k4], .int .i64 (5 - (d : Int))] w
   fun e w' => e = .returned (.int .i64 (polS d p s).1) ∧ Only2 g B w w' ∧ WkE w' g B (polS d p s)

theorem pol_zero : PolOk 0 := by
 intro w g B s R m p A1 A2 A3 A4 n1 k1 n2 k2 n3 k3 n4 k4 hk _ _ _ _ _ _ _
 go_enter Tryz.func30, Tryz.ntmps30
 go_wp2_with fail
 go_ret
 exact ⟨rfl, ((Only2.alloc _).trans (Only2.alloc _)).trans (Only2.alloc _), s, ((hk.alloc _).alloc _).alloc _, fun h => by cases h⟩

set_option maxHeartbeats 800000 in
theorem deeper_any {d : Nat} (ih : PolOk d) {w : World} {g B h3 h5 : Nat} {s : Seen} {R : Nat → Prop} {m : Nat} {p : Pol} {A1 A2 A3 A4 : Option Addr} {n1 k1 n2 k2 n3 k3 n4 k4 : Nat} (hd : d ≤ 4) (hk : Wk w g B s) (hlen : s.ids.length + idsB d < 800000) (hR : ∀ b, R b → b ≠ g ∧ b ≠ B)
  (hid : p.id.size ≤ maxLen) (h1 : Tg w R A1 n1 k1 p.tg) (h2 : Rus w R A2 n2 k2 p.rules) (h3' : Pls w R m A3 n3 k3 p.kids) (h4 : Dus w R A4 n4 k4 p.ob)
  (hp : Ob w h3 118 #[.pointer (some ⟨g, 0, none⟩)]) (hi : Ob w h5 3 #[.int .i64 (4 - (d : Int))]) :
  Calls Tryz.prog 59 #[.agg #[.string p.id, .bool p.set, .int .i64 p.alg, .slice A1 n1 k1, .slice A2 n2 k2, .slice A3 n3 k3, .slice A4 n4 k4], .pointer (some ⟨h3, 0, none⟩), .pointer (some ⟨h5, 0, none⟩)] w
   fun e w' => e = .returned (.int .i64 (polS d p s).1) ∧ Only2 g B w w' ∧ WkE w' g B (polS d p s) := by
 have c3 := hp.cell 0
 have c5 := hi.cell 0
 have l3 := hp.lt
 have l5 := hi.lt
 have hka := Kept.all ((Below.refl _ w).alloc (Nat.le_refl _) (.cells #[.string p.id, .bool p.set, .int .i64 p.alg, .slice A1 n1 k1, .slice A2 n2 k2, .slice A3 n3 k3, .slice A4 n4 k4] 28)) R
 have hcon := ih (hk.alloc (.cells #[.string p.id, .bool p.set, .int .i64 p.alg, .slice A1 n1 k1, .slice A2 n2 k2, .slice A3 n3 k3, .slice A4 n4 k4] 28)) hlen hR hid (h1.keep hka (fun _ h _ => h)) (h2.keep hka (fun _ h _ => h)) (h3'.keep hka (fun _ h _ => h)) (h4.keep hka (fun _ h _ => h))
 have hdd : (4 - (d : Int)) + 1 = 5 - (d : Int) := by omega
 have hd2 : -10 ≤ (4 - (d : Int)) ∧ (4 - (d : Int)) ≤ 4 := by omega
 rw [← hdd] at hcon
 have HC := Lib.hid hcon
 clear hcon hka hk hlen hR hid h1 h2 h3' h4 hp hi hdd ih
 generalize 4 - (d : Int) = q at *
 go_enter Tryz.func59, Tryz.ntmps59
 go_wp2_with (go_at_call 30; refine HC.out.mono ?_; rintro e w1 ⟨rfl, hb1, hw1⟩)
 go_ret
 exact ⟨rfl, (Only2.alloc _).trans hb1, hw1⟩

set_option maxHeartbeats 1600000 in
theorem each_pol {d : Nat} (ih : PolOk d) {w : World} {g B h3 h5 : Nat} {s : Seen} {R : Nat → Prop} {m : Nat} {A : Option Addr} {n c : Nat} {l : List Pol} (hd : d ≤ 4) (hk : Wk w g B s) (hlen : s.ids.length + n * idsB d < 800000) (hR : ∀ b, R b → b ≠ g ∧ b ≠ B)
  (hp : Ob w h3 118 #[.pointer (some ⟨g, 0, none⟩)]) (hi : Ob w h5 3 #[.int .i64 (4 - (d : Int))]) (hh : (h3 ≠ g ∧ h3 ≠ B) ∧ h5 ≠ g ∧ h5 ≠ B) (h : Pls w R m A n c l) :
  Calls Tryz.prog 58 #[.slice A n c, .func (.func 59) #[] #[.pointer (some ⟨h3, 0, none⟩), .pointer (some ⟨h5, 0, none⟩)]] w
   fun e w' => e = .returned (.int .i64 (firstS (polS d) l s).1) ∧ Only2 g B w w' ∧ WkE w' g B (firstS (polS d) l s) := by
 have hle := Rw.le h
 have hcap := Rw.cap h
 have HL := Lib.hid (Rw.len h)
 unfold maxLen at hcap
 have H := Lib.hid h
 have HW := Lib.hid hk
 have HRR := Lib.hid hR
 have HP := Lib.hid hp
 have HII := Lib.hid hi
 have HH := Lib.hid hh
 have HLEN := Lib.hid hlen
 clear h hk hR hp hi hh hlen
 go_enter Tryz.func58, Tryz.ntmps58
 go_wp2
 go_loopw [10] (fun i wr => ∃ (k : Nat) (s' : Seen), k ≤ n ∧ i = .int .i64 k ∧ StTo (polS d) l s k s' ∧ s'.ids.length ≤ s.ids.length + k * idsB d ∧ Wk wr g B s' ∧ Only2 g B w wr) (fun i _ => n - (intOf i).toNat)
 case atStart => exact ⟨0, s, Nat.zero_le _, rfl, StTo.zero _ _ _, by omega, HW.out, Only2.refl⟩
 case round =>
  obtain ⟨k, s', hk, rfl, hf, hids, hw, hb⟩ := hrel
  have HF := Lib.hid hf
  have HB := Lib.hid hb
  have HW' := Lib.hid hw
  have HI := Lib.hid hids
  clear hf hb hw hids
  by_cases hlt : k < n
  ·obtain ⟨b, o, x, m', A1, n1, k1, A2, n2, k2, A3, n3, k3, A4, n4, k4, rfl, hRb, hbl, hx, hm, ⟨hid, halg⟩, ⟨c0, c1, c2, c3, c4, c5, c6⟩, h1, h2, h3', h4⟩ := (H.out.keep (HB.out.kept HRR.out) (fun _ h _ => h)).at_ hlt
   have HX := Lib.hid hx
   have hbel := (Below.refl _ wr).alloc (Nat.le_refl _) (.cells #[.string x.id, .bool x.set, .int .i64 x.alg, .slice A1 n1 k1, .slice A2 n2 k2, .slice A3 n3 k3, .slice A4 n4 k4] 28)
   have hka := Kept.all hbel R
   have hp' := (HP.out.keep (HB.out.heap HP.out.lt HH.out.1.1 HH.out.1.2))
   have hi' := (HII.out.keep (HB.out.heap HII.out.lt HH.out.2.1 HH.out.2.2))
   have hlen' : s'.ids.length + idsB d < 800000 := by
    have e1 := HI.out
    have e2 := HLEN.out
    have e3 : (k + 1) * idsB d ≤ n * idsB d := Nat.mul_le_mul_right _ hlt
    rw [Nat.add_mul, Nat.one_mul] at e3
    omega
   have hcon := deeper_any ih hd (HW'.out.alloc (.cells #[.string x.id, .bool x.set, .int .i64 x.alg, .slice A1 n1 k1, .slice A2 n2 k2, .slice A3 n3 k3, .slice A4 n4 k4] 28)) hlen' HRR.out hid (h1.keep hka (fun _ h _ => h)) (h2.keep hka (fun _ h _ => h)) (h3'.keep hka (fun _ h _ => h)) (h4.keep hka (fun _ h _ => h))
    (hp'.below hbel hp'.lt) (hi'.below hbel hi'.lt)
   have HIX := Lib.hid (polS_ids d x s')
   have HRel : Hid ((k + 1) * idsB d = k * idsB d + idsB d) := by show (k + 1) * idsB d = _; rw [Nat.add_mul, Nat.one_mul]
   clear hx hka h1 h2 h3' h4 hbel hp' hi' hlen' halg hid hm
   by_cases hz : (polS d x s').1 = 0
   ·have HZ := Lib.hid hz
    rw [hz] at hcon
    have HC := Lib.hid hcon
    clear hz hcon
    go_wp2_with (go_at_call 59; refine HC.out.mono ?_; rintro e w1 ⟨rfl, hb1, hw1⟩; have B1 := Lib.hid hb1; have W1 := Lib.hid (hw1.ok HZ.out))
    go_roundw
    case rel => exact ⟨k + 1, _, by omega, by go_num, HF.out.step HX.out HZ.out, by have := HI.out; have := HIX.out; have := HRel.out; omega, W1.out, HB.out.trans ((Only2.alloc _).trans B1.out)⟩
    case measure => simp [intOf]; omega
   ·have HZ := Lib.hid hz
    obtain ⟨r, hr⟩ : ∃ r, r = polS d x s' := ⟨_, rfl⟩
    have HR := Lib.hid hr
    rw [← hr] at hz hcon
    have hne : (r.1 != 0) = true := by simpa using hz
    have HC := Lib.hid hcon
    clear hcon hr
    clear hz
    go_wp2_with (go_at_call 59; refine HC.out.mono ?_; rintro e w1 ⟨rfl, hb1, hw1⟩; have B1 := Lib.hid hb1; have W1 := Lib.hid hw1; clear hw1)
    go_ret
    rw [HF.out.err HX.out HZ.out, ← HR.out]
    exact ⟨rfl, HB.out.trans ((Only2.alloc _).trans B1.out), W1.out⟩
  ·obtain rfl : k = n := by omega
   go_wp2
   go_ret
   rw [HF.out.all HL.out]
   exact ⟨rfl, HB.out, s', HW'.out, fun _ => rfl⟩
end Go.Proofs.YtmoglaknmlhpgaaGreatDoor
/- A policy, one depth more (the project's walk.policy); Right, Rules. -/
namespace Go.Proofs.YtmoglaknmlhpgaaGreatDoor
set_option linter.unusedVariables false
open Go.RowKit Go.Sort

theorem each_len {a b d n2 n3 l : Nat} (h : a + (16 + 16 * d) < 800000) (h1 : b ≤ a + l * 1) (hl : l = n2) (h2 : n2 ≤ 16) (h3 : n3 ≤ 16) : b + n3 * d < 800000 := by
 have : n3 * d ≤ 16 * d := Nat.mul_le_mul_right _ h3
 omega
set_option maxRecDepth 100000 in
set_option maxHeartbeats 3200000 in
theorem pol_succ {d : Nat} (ih : PolOk d) (hd : d ≤ 3) : PolOk (d + 1) := by
 intro w g B s R m p A1 A2 A3 A4 n1 k1 n2 k2 n3 k3 n4 k4 hk hlen hR hid h1 h2 h3 h4
 have e5 : (5 : Int) - ((d + 1 : Nat) : Int) = 4 - (d : Int) := by omega
 rw [e5]
 have hdd : 1 ≤ (4 - (d : Int)) ∧ (4 - (d : Int)) ≤ 4 := by omega
 have HW := Lib.hid hk
 have H1 := Lib.hid h1
 have H2 := Lib.hid h2
 have H3 := Lib.hid h3
 have H4 := Lib.hid h4
 have HRR := Lib.hid hR
 have HLEN := Lib.hid hlen
 have HN : Hid (p.rules.length = n2 ∧ p.kids.length = n3) := ⟨Rw.len h2, Rw.len h3⟩
 have HC23 : Hid ((n2 ≤ k2 ∧ k2 ≤ maxLen) ∧ n3 ≤ k3 ∧ k3 ≤ maxLen) := ⟨⟨Rw.le h2, Rw.cap h2⟩, Rw.le h3, Rw.cap h3⟩
 obtain ⟨q, hq⟩ : ∃ q, q = 4 - (d : Int) := ⟨_, rfl⟩
 rw [← hq] at hdd ⊢
 have HQ := Lib.hid hq
 clear hq e5
 have hkeep0 := ((hk.alloc (.cells #[.pointer (some ⟨g, 0, none⟩)] 118)).alloc (.cells #[.string p.id, .bool p.set, .int .i64 p.alg, .slice A1 n1 k1, .slice A2 n2 k2, .slice A3 n3 k3, .slice A4 n4 k4] 28)).alloc (.cells #[.int .i64 q] 3)
 have hl : s.ids.length < 1000000 := by omega
 have HF := Lib.hid (fresh_any p.id hid hkeep0.ob hkeep0.map hkeep0.ne hl)
 have hgl : g < w.heap.size := hk.ob.lt
 have hBl : B < w.heap.size := hk.map.lt
 have hne := hk.ne
 have HFT := Lib.hid (fun W => fits_any p.id p.set p.alg A1 A2 A3 A4 n1 n2 n3 n4 k1 k2 k3 k4 W)
 have HFE : Hid (fitsB p = fitsN p.set p.alg n2 n3) := by
  show fitsB p = fitsN p.set p.alg n2 n3
  rw [fits_eq, HN.out.1, HN.out.2]
 have PA : Hid (Ob (((w.alloc (.cells #[.pointer (some ⟨g, 0, none⟩)] 118)).alloc (.cells #[.string p.id, .bool p.set, .int .i64 p.alg, .slice A1 n1 k1, .slice A2 n2 k2, .slice A3 n3 k3, .slice A4 n4 k4] 28)).alloc (.cells #[.int .i64 q] 3)) w.heap.size 118 #[.pointer (some ⟨g, 0, none⟩)]) :=
  ((Ob.made w _ _).keep (Below.heap_alloc _ _ _ (by simp))).keep (Below.heap_alloc _ _ _ (by simp; omega))
 have XA : Hid (Ob (((w.alloc (.cells #[.pointer (some ⟨g, 0, none⟩)] 118)).alloc (.cells #[.string p.id, .bool p.set, .int .i64 p.alg, .slice A1 n1 k1, .slice A2 n2 k2, .slice A3 n3 k3, .slice A4 n4 k4] 28)).alloc (.cells #[.int .i64 q] 3)) (w.heap.size + 1) 28 #[.string p.id, .bool p.set, .int .i64 p.alg, .slice A1 n1 k1, .slice A2 n2 k2, .slice A3 n3 k3, .slice A4 n4 k4]) := by
  have := Ob.made (w.alloc (.cells #[.pointer (some ⟨g, 0, none⟩)] 118)) 28 #[.string p.id, .bool p.set, .int .i64 p.alg, .slice A1 n1 k1, .slice A2 n2 k2, .slice A3 n3 k3, .slice A4 n4 k4]
  rw [size_al] at this
  exact this.keep (Below.heap_alloc _ _ _ (by simp))
 have IA : Hid (Ob (((w.alloc (.cells #[.pointer (some ⟨g, 0, none⟩)] 118)).alloc (.cells #[.string p.id, .bool p.set, .int .i64 p.alg, .slice A1 n1 k1, .slice A2 n2 k2, .slice A3 n3 k3, .slice A4 n4 k4] 28)).alloc (.cells #[.int .i64 q] 3)) (w.heap.size + 1 + 1) 3 #[.int .i64 q]) := by
  have := Ob.made ((w.alloc (.cells #[.pointer (some ⟨g, 0, none⟩)] 118)).alloc (.cells #[.string p.id, .bool p.set, .int .i64 p.alg, .slice A1 n1 k1, .slice A2 n2 k2, .slice A3 n3 k3, .slice A4 n4 k4] 28)) 3 #[.int .i64 q]
  rw [size_al, size_al] at this
  exact this
 have GA : Hid (Only2 g B w (((w.alloc (.cells #[.pointer (some ⟨g, 0, none⟩)] 118)).alloc (.cells #[.string p.id, .bool p.set, .int .i64 p.alg, .slice A1 n1 k1, .slice A2 n2 k2, .slice A3 n3 k3, .slice A4 n4 k4] 28)).alloc (.cells #[.int .i64 q] 3))) := ((Only2.alloc _).trans (Only2.alloc _)).trans (Only2.alloc _)
 clear hk hkeep0 h1 h2 h3 h4 hR hlen hl hid
 by_cases hfr : (decide (Named (bl p.id)) && !metB p.id s.ids) = true
 ·rw [hfr] at HF
  have HE : Hid (polS (d + 1) p s = (if fitsB p = false then (1, ⟨s.ids ++ [p.id], s.n⟩)
    else if orE (tgE p.tg) (obE p.ob) ≠ 0 then (orE (tgE p.tg) (obE p.ob), ⟨s.ids ++ [p.id], s.n⟩)
    else if 16 < n2 ∨ 16 < n3 then (6, ⟨s.ids ++ [p.id], s.n⟩)
    else if (firstS ruleS p.rules ⟨s.ids ++ [p.id], s.n⟩).1 ≠ 0 then firstS ruleS p.rules ⟨s.ids ++ [p.id], s.n⟩
    else firstS (polS d) p.kids (firstS ruleS p.rules ⟨s.ids ++ [p.id], s.n⟩).2)) := by
   show polS (d + 1) p s = _
   simp only [polS, idS_some hfr, HN.out.1, HN.out.2]
  have HS1 : Hid ((⟨s.ids ++ [p.id], s.n⟩ : Seen).ids.length = s.ids.length + 1) := by simp [Hid]
  clear hfr
  generalize polS (d + 1) p s = z at *
  by_cases hfit : fitsN p.set p.alg n2 n3 = false
  ·rw [hfit] at HFE HFT
   rw [HFE.out, if_pos rfl] at HE
   clear hfit
   go_enter Tryz.func30, Tryz.ntmps30
   go_wp2_with (first
    | (go_at_call 51; refine HF.out.mono ?_; rintro e w1 ⟨rfl, hb1, hm1⟩; have X1 := Lib.hid (XA.out.keep (hb1.heap XA.out.lt (by omega))); have x0 := X1.out.cell 0; have x1 := X1.out.cell 1; have x2 := X1.out.cell 2; have x3 := X1.out.cell 3; have x4 := X1.out.cell 4; have x5 := X1.out.cell 5; have x6 := X1.out.cell 6)
    | (go_at_call 52; refine (HFT.out _).mono ?_; rintro e w2 ⟨rfl, hb2⟩))
   go_ret
   rw [HE.out]
   refine ⟨rfl, (GA.out.trans (Only2.of_B hb1)).trans (Only2.of_below hb2), ⟨s.ids ++ [p.id], s.n⟩, ?_, fun h => by cases h⟩
   have o0 : Ob w1 g 59 #[.map (some B), .int .i64 s.n] := (((HW.out.alloc _).alloc _).alloc _).ob.keep (hb1.heap (((HW.out.alloc _).alloc _).alloc _).ob.lt hne)
   exact ⟨o0.below hb2 o0.lt, hm1.below hb2, hne, by have := HW.out.few; show s.n ≤ (s.ids ++ [p.id]).length; simp; omega⟩
  ·rw [Bool.not_eq_false] at hfit
   rw [hfit] at HFE HFT
   rw [HFE.out, if_neg (by simp)] at HE
   clear hfit
   go_enter Tryz.func30, Tryz.ntmps30
   go_wp2_with (first
    | (go_at_call 51; refine HF.out.mono ?_; rintro e w1 ⟨rfl, hb1, hm1⟩; have X1 := Lib.hid (XA.out.keep (hb1.heap XA.out.lt (by omega))); have x0 := X1.out.cell 0; have x1 := X1.out.cell 1; have x2 := X1.out.cell 2; have x3 := X1.out.cell 3; have x4 := X1.out.cell 4; have x5 := X1.out.cell 5; have x6 := X1.out.cell 6)
    | (go_at_call 52; refine (HFT.out _).mono ?_; rintro e w2 ⟨rfl, hb2⟩))
   have hB2 := (below_step hb2 (Below.refl _ _))
   have W2 : Hid (Wk w2 g B ⟨s.ids ++ [p.id], s.n⟩) := by
    have o0 : Ob w1 g 59 #[.map (some B), .int .i64 s.n] := (((HW.out.alloc _).alloc _).alloc _).ob.keep (hb1.heap (((HW.out.alloc _).alloc _).alloc _).ob.lt hne)
    exact ⟨o0.below hb2 o0.lt, hm1.below hb2, hne, by have := HW.out.few; show s.n ≤ (s.ids ++ [p.id]).length; simp; omega⟩
   have X2 := Lib.hid (X1.out.below hb2 X1.out.lt)
   have P2 : Hid (Ob w2 w.heap.size 118 #[.pointer (some ⟨g, 0, none⟩)]) := by
    have o0 := PA.out.keep (hb1.heap PA.out.lt (by omega))
    exact o0.below hb2 o0.lt
   have I2 : Hid (Ob w2 (w.heap.size + 1 + 1) 3 #[.int .i64 q]) := by
    have o0 := IA.out.keep (hb1.heap IA.out.lt (by omega))
    exact o0.below hb2 o0.lt
   have G2 : Hid (Only2 g B w w2) := (GA.out.trans (Only2.of_B hb1)).trans (Only2.of_below hb2)
   clear x0 x1 x2 x3 x4 x5 x6 hb1 hm1 hb2 hB2 X1 HF HFT PA XA IA GA
   have T1 := Lib.hid (H1.out.keep (G2.out.kept HRR.out) (fun _ h _ => h))
   have T4 := Lib.hid (H4.out.keep (G2.out.kept HRR.out) (fun _ h _ => h))
   have KK := Lib.hid (below_regrown w2)
   have Q1 : Hid (∀ d os, Calls Tryz.prog 54 #[.slice A1 n1 k1] (grow (redrawn w2 d) os) fun e w'' => e = .returned (.int .i64 (tgE p.tg)) ∧ ∃ p : Regrown, w'' = grow (redrawn w2 p.d) p.os) := fun d os => Calls.regrown_of (target_any _ (T1.out.keep (Kept.all (KK.out d os) R) (fun _ h _ => h)))
   have Q4 : Hid (∀ d os, Calls Tryz.prog 55 #[.slice A4 n4 k4] (grow (redrawn w2 d) os) fun e w'' => e = .returned (.int .i64 (obE p.ob)) ∧ ∃ p : Regrown, w'' = grow (redrawn w2 p.d) p.os) := fun d os => Calls.regrown_of (obls_any _ (T4.out.keep (Kept.all (KK.out d os) R) (fun _ h _ => h)))
   have y3 := fun d os => cell_regrown (X2.out.cell 3) d os
   have y6 := fun d os => cell_regrown (X2.out.cell 6) d os
   have HOR := Lib.hid (or2 (tgE p.tg) (obE p.ob))
   generalize tgE p.tg = a1 at *
   generalize obE p.ob = a3 at *
   refine wp_region_below_tail 6 (by kernel_rfl) (by kernel_rfl) ?_
   simp only [List.take_succ_cons, List.take_zero, List.drop_succ_cons, List.drop_zero]
   repeat (go_big_quiet_step ((first
    | (go_at_call 54; exact Q1.out _ _)
    | (go_at_call 55; exact Q4.out _ _))))
   refine wpQuiet_nil ?_
   intro _ hw'
   obtain ⟨⟨dq, osq⟩, hw''⟩ := hw'
   subst hw''
   have hbel := below_regrown w2 dq osq
   have W4 := Lib.hid (W2.out.below hbel)
   have X4 := Lib.hid (X2.out.below hbel X2.out.lt)
   have P4 := Lib.hid (P2.out.below hbel P2.out.lt)
   have I4 := Lib.hid (I2.out.below hbel I2.out.lt)
   have G4 := Lib.hid (G2.out.trans (Only2.of_below hbel))
   clear y3 y6 hbel Q1 Q4 KK W2 X2 P2 I2 G2 T1 T4
   dsimp only at W4 X4 P4 I4 G4 ⊢
   generalize grow (redrawn w2 dq) osq = w4 at *
   have HSL := Lib.hid (Sl.lit w4 37 (ev [a1, a3]) 2 rfl (by simp [maxLen]))
   have HOA := Lib.hid (or_any (l := [a1, a3]) HSL.out (by omega) (by simp))
   rw [HOR.out] at HOA
   obtain ⟨r, hr⟩ : ∃ r, r = orE a1 a3 := ⟨_, rfl⟩
   rw [← hr] at HOA HE
   have L4 : Hid (Below w4.heap.size w4 (w4.alloc (.cells (ev [a1, a3]).toArray 37))) := (Below.refl _ _).alloc (Nat.le_refl _) _
   have W5 := Lib.hid (W4.out.below L4.out)
   have X5 := Lib.hid (X4.out.below L4.out X4.out.lt)
   have P5 := Lib.hid (P4.out.below L4.out P4.out.lt)
   have I5 := Lib.hid (I4.out.below L4.out I4.out.lt)
   have G5 := Lib.hid (G4.out.trans (Only2.of_below L4.out))
   clear hr HOR W4 X4 P4 I4 G4 HSL
   by_cases hor : r = 0
   ·subst hor
    rw [if_neg (by simp)] at HE
    by_cases hn : 16 < n2 ∨ 16 < n3
    ·rw [if_pos hn] at HE
     by_cases hn2 : 16 < n2
     ·have hz2 : (16 : Int) < (n2 : Int) := by omega
      clear hn
      go_wp2_with (first
       | (go_at_call 53; refine HOA.out.mono ?_; rintro e w5 ⟨rfl, hw5⟩; rw [← hw5] at W5 X5 P5 I5 G5; clear hw5; have x4 := X5.out.cell 4; have x5 := X5.out.cell 5))
      go_ret
      rw [HE.out]
      exact ⟨rfl, G5.out, _, W5.out, fun h => by cases h⟩
     ·have hz2 : ¬ (16 : Int) < (n2 : Int) := by omega
      have hz3 : (16 : Int) < (n3 : Int) := by omega
      clear hn
      go_wp2_with (first
       | (go_at_call 53; refine HOA.out.mono ?_; rintro e w5 ⟨rfl, hw5⟩; rw [← hw5] at W5 X5 P5 I5 G5; clear hw5; have x4 := X5.out.cell 4; have x5 := X5.out.cell 5))
      go_ret
      rw [HE.out]
      exact ⟨rfl, G5.out, _, W5.out, fun h => by cases h⟩
    ·rw [if_neg hn] at HE
     have hz2 : ¬ (16 : Int) < (n2 : Int) := by omega
     have hz3 : ¬ (16 : Int) < (n3 : Int) := by omega
     have HN16 : Hid (n2 ≤ 16 ∧ n3 ≤ 16) := ⟨by omega, by omega⟩
     clear hn
     have hl1 : (⟨s.ids ++ [p.id], s.n⟩ : Seen).ids.length + (16 + 16 * idsB d) < 800000 := by
      have e1 := HLEN.out
      have e3 : idsB (d + 1) = 17 + 16 * idsB d := rfl
      show (s.ids ++ [p.id]).length + (16 + 16 * idsB d) < 800000
      rw [List.length_append, List.length_singleton]
      omega
     have HL1 := Lib.hid hl1
     have R5 := Lib.hid (H2.out.keep (G5.out.kept HRR.out) (fun _ h _ => h))
     have HER := Lib.hid (each_rule W5.out (by have := HL1.out; omega) (by have := HN16.out; omega) HRR.out R5.out)
     have HRI := Lib.hid (firstS_ids (c := 1) ruleS_ids p.rules ⟨s.ids ++ [p.id], s.n⟩)
     have HGL : Hid ((w.heap.size < (w4.alloc (.cells (ev [a1, a3]).toArray 37)).heap.size) ∧ w.heap.size + 1 + 1 < (w4.alloc (.cells (ev [a1, a3]).toArray 37)).heap.size) := ⟨P5.out.lt, I5.out.lt⟩
     clear hl1
     generalize (⟨s.ids ++ [p.id], s.n⟩ : Seen) = s1 at *
     obtain ⟨r1, hr1⟩ : ∃ r1, r1 = firstS ruleS p.rules s1 := ⟨_, rfl⟩
     rw [← hr1] at HER HE HRI
     clear hr1
     by_cases hrz : r1.1 = 0
     ·have HRZ := Lib.hid hrz
      rw [hrz] at HER HE
      rw [if_neg (by simp)] at HE
      clear hrz
      have HHH : Hid ((w.heap.size ≠ g ∧ w.heap.size ≠ B) ∧ w.heap.size + 1 + 1 ≠ g ∧ w.heap.size + 1 + 1 ≠ B) := ⟨⟨by omega, by omega⟩, by omega, by omega⟩
      have HD4 : Hid (d ≤ 4) := Nat.le_succ_of_le hd
      have HEL := Lib.hid (each_len HL1.out HRI.out HN.out.1 HN16.out.1 HN16.out.2)
      have I5' := I5.out
      rw [HQ.out] at I5'
      have J5 := Lib.hid I5'
      clear I5'
      go_wp2_with (first
       | (go_at_call 53; refine HOA.out.mono ?_; rintro e w5 ⟨rfl, hw5⟩; rw [← hw5] at W5 X5 P5 I5 G5 HER HGL J5; clear hw5; have x4 := X5.out.cell 4; have x5 := X5.out.cell 5; have p5 := P5.out.cell 0)
       | (go_at_call 56; refine HER.out.mono ?_; rintro e w6 ⟨rfl, hb6, hw6⟩; have B6 := Lib.hid hb6; have W6 := Lib.hid (hw6.ok HRZ.out); have X6 := Lib.hid (X5.out.keep (hb6.heap X5.out.lt (by omega) (by omega))); have P6 := Lib.hid (P5.out.keep (hb6.heap P5.out.lt (by omega) (by omega))); have I6 := Lib.hid (J5.out.keep (hb6.heap J5.out.lt (by omega) (by omega))); have y5 := X6.out.cell 5; have K6 := Lib.hid (H3.out.keep ((G5.out.trans hb6).kept HRR.out) (fun _ h _ => h)); clear hb6 hw6 x4 x5 p5)
       | (go_at_call 58; refine (each_pol ih HD4.out W6.out HEL.out HRR.out P6.out I6.out HHH.out K6.out).mono ?_; rintro e w7 ⟨rfl, hb7, hw7⟩))
      go_ret
      rw [HE.out]
      exact ⟨rfl, (G5.out.trans B6.out).trans hb7, hw7⟩
     ·have hne1 : (r1.1 != 0) = true := by simpa using hrz
      rw [if_pos hrz] at HE
      have HRZ := Lib.hid hrz
      clear hrz
      go_wp2_with (first
       | (go_at_call 53; refine HOA.out.mono ?_; rintro e w5 ⟨rfl, hw5⟩; rw [← hw5] at W5 X5 P5 I5 G5 HER HGL; clear hw5; have x4 := X5.out.cell 4; have x5 := X5.out.cell 5; have p5 := P5.out.cell 0)
       | (go_at_call 56; refine HER.out.mono ?_; rintro e w6 ⟨rfl, hb6, hw6⟩; have B6 := Lib.hid hb6; have W6 := Lib.hid hw6; clear hw6))
      go_ret
      rw [HE.out]
      exact ⟨rfl, G5.out.trans B6.out, W6.out⟩
   ·have hne0 : (r != 0) = true := by simpa using hor
    rw [if_pos hor] at HE
    have HOZ := Lib.hid hor
    clear hor
    go_wp2_with (first
     | (go_at_call 53; refine HOA.out.mono ?_; rintro e w5 ⟨rfl, rfl⟩))
    go_ret
    rw [HE.out]
    exact ⟨rfl, G5.out, _, W5.out, fun h => absurd h HOZ.out⟩
 ·rw [Bool.not_eq_true] at hfr
  rw [hfr] at HF
  have HE : Hid (polS (d + 1) p s = (1, s)) := by
   show polS (d + 1) p s = _
   simp only [polS, idS_none hfr]
  clear hfr
  generalize polS (d + 1) p s = z at *
  go_enter Tryz.func30, Tryz.ntmps30
  go_wp2_with (first
   | (go_at_call 51; refine HF.out.mono ?_; rintro e w1 ⟨rfl, hb1, hm1⟩))
  go_ret
  rw [HE.out]
  have o0 : Ob w1 g 59 #[.map (some B), .int .i64 s.n] := (((HW.out.alloc _).alloc _).alloc _).ob.keep (hb1.heap (((HW.out.alloc _).alloc _).alloc _).ob.lt hne)
  exact ⟨rfl, (((Only2.alloc _).trans (Only2.alloc _)).trans (Only2.alloc _)).trans (Only2.of_B hb1), ⟨s.ids ++ [p.id], s.n⟩, ⟨o0, hm1, hne, by have := HW.out.few; show s.n ≤ (s.ids ++ [p.id]).length; simp; omega⟩, fun h => by cases h⟩
end Go.Proofs.YtmoglaknmlhpgaaGreatDoor
