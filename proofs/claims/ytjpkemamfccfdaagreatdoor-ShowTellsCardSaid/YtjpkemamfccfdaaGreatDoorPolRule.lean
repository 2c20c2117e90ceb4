/- A rule on the way through a policy (the project's walk.rule, and each over rules). -/
import Derived.Test.YtjpkemamfccfdaaGreatDoorPolOr
import Derived.Test.YtjpkemamfccfdaaGreatDoorQTail
namespace Go.Proofs.YtjpkemamfccfdaaGreatDoor
set_option linter.unusedVariables false
open Go.RowKit Go.Sort

/-- Only blocks g and B, and what is new, have changed. -/
def Only2 (g B : Nat) (w w' : World) : Prop := w'.os = w.os ∧ w'.tape = w.tape ∧ w'.output = w.output ∧ w.heap.size ≤ w'.heap.size ∧ ∀ k, k < w.heap.size → k ≠ g → k ≠ B → w'.heap[k]? = w.heap[k]?
section
variable {g B : Nat} {w w' w'' : World}
theorem Only2.refl : Only2 g B w w := ⟨rfl, rfl, rfl, Nat.le_refl _, fun _ _ _ _ => rfl⟩
theorem Only2.trans (h : Only2 g B w w') (k : Only2 g B w' w'') : Only2 g B w w'' :=
  ⟨k.1.trans h.1, k.2.1.trans h.2.1, k.2.2.1.trans h.2.2.1, Nat.le_trans h.2.2.2.1 k.2.2.2.1, fun i hi h1 h2 => (k.2.2.2.2 i (Nat.lt_of_lt_of_le hi h.2.2.2.1) h1 h2).trans (h.2.2.2.2 i hi h1 h2)⟩
theorem Only2.of_B (h : Only B w w') : Only2 g B w w' := ⟨h.os, h.tape, h.output, h.size, fun k hk _ h2 => h.heap hk h2⟩
theorem Only2.of_g (h : Only g w w') : Only2 g B w w' := ⟨h.os, h.tape, h.output, h.size, fun k hk h1 _ => h.heap hk h1⟩
theorem Only2.of_below (h : Below w.heap.size w w') : Only2 g B w w' := ⟨h.os, h.tape, h.output, h.size, fun k hk _ _ => h.block k hk⟩
theorem Only2.size (h : Only2 g B w w') : w.heap.size ≤ w'.heap.size := h.2.2.2.1
theorem Only2.heap (h : Only2 g B w w') {k : Nat} (hk : k < w.heap.size) (h1 : k ≠ g) (h2 : k ≠ B) : w'.heap[k]? = w.heap[k]? := h.2.2.2.2 k hk h1 h2
theorem Only2.kept (h : Only2 g B w w') {R : Nat → Prop} (hR : ∀ b, R b → b ≠ g ∧ b ≠ B) : Kept R w w' := ⟨h.size, fun b hb hl => h.heap hl (hR b hb).1 (hR b hb).2⟩
theorem Only2.below (h : Only2 g B w w') {L : Nat} (hL : L ≤ w.heap.size) (h1 : L ≤ g) (h2 : L ≤ B) : Below L w w' :=
  ⟨h.1, h.2.1, h.2.2.1, h.size, fun k hk => h.heap (by omega) (by omega) (by omega)⟩
theorem Only2.alloc (o : Obj) : Only2 g B w (w.alloc o) := Only2.of_below ((Below.refl _ _).alloc (Nat.le_refl _) _)
end

/-- What the project knows of the way so far. -/
structure Wk (w : World) (g B : Nat) (s : Seen) : Prop where
  ob : Ob w g 82 #[.map (some B), .int .i64 s.n]
  map : MapIs w B s.ids
  ne : g ≠ B
  few : s.n ≤ s.ids.length
theorem Wk.below {w w' : World} {g B : Nat} {s : Seen} (h : Wk w g B s) (hb : Below w.heap.size w w') : Wk w' g B s :=
  ⟨h.ob.below hb h.ob.lt, h.map.below hb, h.ne, h.few⟩
theorem Wk.alloc {w : World} {g B : Nat} {s : Seen} (h : Wk w g B s) (o : Obj) : Wk (w.alloc o) g B s := h.below ((Below.refl _ _).alloc (Nat.le_refl _) _)
/-- What is known of it behind a call: in an error whatever was met. -/
def WkE (w : World) (g B : Nat) (z : Int × Seen) : Prop := ∃ s, Wk w g B s ∧ (z.1 = 0 → s = z.2)
theorem WkE.ok {w : World} {g B : Nat} {z : Int × Seen} (h : WkE w g B z) (h0 : z.1 = 0) : Wk w g B z.2 := by obtain ⟨s, h1, h2⟩ := h; exact h2 h0 ▸ h1
theorem idS_some {x : ByteArray} {s : Seen} (h : (decide (Named (bl x)) && !metB x s.ids) = true) : idS x s = some ⟨s.ids ++ [x], s.n⟩ := by
  simp at h
  unfold idS
  rw [if_pos h]
theorem idS_none {x : ByteArray} {s : Seen} (h : (decide (Named (bl x)) && !metB x s.ids) = false) : idS x s = none := by
  unfold idS
  rw [if_neg]
  rintro ⟨h1, h2⟩
  simp [h1, h2] at h

set_option maxRecDepth 100000 in
set_option maxHeartbeats 3200000 in
theorem rule_any {w : World} {g B : Nat} {s : Seen} {R : Nat → Prop} {r : Rul} {A1 A2 A3 : Option Addr} {n1 k1 n2 k2 n3 k3 : Nat} (hk : Wk w g B s) (hlen : s.ids.length < 900000) (hR : ∀ b, R b → b ≠ g ∧ b ≠ B)
    (hid : r.id.size ≤ maxLen) (h1 : Tg w R A1 n1 k1 r.tg) (h2 : Nds w R A2 n2 k2 r.cond) (h3 : Dus w R A3 n3 k3 r.ob) :
    Calls Tryz.prog 81 #[.pointer (some ⟨g, 0, none⟩), .agg #[.string r.id, .bool r.deny, .slice A1 n1 k1, .slice A2 n2 k2, .slice A3 n3 k3]] w
      fun e w' => e = .returned (.int .i64 (ruleS r s).1) ∧ Only2 g B w w' ∧ WkE w' g B (ruleS r s) := by
  obtain ⟨id, dn, tg, cond, ob⟩ := r
  simp only at hid h1 h2 h3 ⊢
  have HW := Lib.hid hk
  have H1 := Lib.hid h1
  have H2 := Lib.hid h2
  have H3 := Lib.hid h3
  have HRR := Lib.hid hR
  have hkeep0 := hk.alloc (.cells #[.string id, .bool dn, .slice A1 n1 k1, .slice A2 n2 k2, .slice A3 n3 k3] 54)
  have HF := Lib.hid (fresh_any id hid hkeep0.ob hkeep0.map hkeep0.ne (by omega))
  have HW0 := Lib.hid hkeep0
  have hfew := hk.few
  have hgl : g < w.heap.size := hk.ob.lt
  have hBl : B < w.heap.size := hk.map.lt
  have hne := hk.ne
  clear hk hkeep0 h1 h2 h3 hR
  by_cases hfr : (decide (Named (bl id)) && !metB id s.ids) = true
  · rw [hfr] at HF
    have HE : Hid (ruleS ⟨id, dn, tg, cond, ob⟩ s = if 64 < s.n + 1 then (6, ⟨s.ids ++ [id], s.n + 1⟩) else (orE (tgE tg) (orE (exprE cond) (obE ob)), ⟨s.ids ++ [id], s.n + 1⟩)) := by
      show ruleS ⟨id, dn, tg, cond, ob⟩ s = _
      unfold ruleS
      simp only [idS_some hfr]
    clear hfr
    generalize ruleS ⟨id, dn, tg, cond, ob⟩ s = z at *
    go_enter Tryz.func81, Tryz.ntmps81
    by_cases h64 : 64 < s.n + 1
    · go_wp2_with (first
        | (go_at_call 75; refine HF.out.mono ?_; rintro e w1 ⟨rfl, hb1, hm1⟩; have O1 := Lib.hid (Ob.keep HW0.out.ob (hb1.heap HW0.out.ob.lt hne)); have c1 := O1.out.cell 1; have f1 := O1.out.frozen 1))
      go_ret
      rw [HE.out, if_pos h64]
      refine ⟨rfl, ((Only2.alloc _).trans (Only2.of_B hb1)).trans (Only2.of_g (Only.refl.setCell rfl _)), ⟨s.ids ++ [id], s.n + 1⟩, ⟨O1.out.put 1 (.int .i64 ((s.n : Int) + 1)), ?_, hne, ?_⟩, fun h => by cases h⟩
      · exact hm1.kept (Only.refl.setCell (r := g) (p := ⟨g, 1, none⟩) rfl (.int .i64 ((s.n : Int) + 1))) (Ne.symm hne)
      · show s.n + 1 ≤ (s.ids ++ [id]).length
        rw [List.length_append, List.length_singleton]; omega
    · rw [if_neg h64] at HE
      go_wp2_with (first
        | (go_at_call 75; refine HF.out.mono ?_; rintro e w1 ⟨rfl, hb1, hm1⟩; have O1 := Lib.hid (Ob.keep HW0.out.ob (hb1.heap HW0.out.ob.lt hne)); have c1 := O1.out.cell 1; have f1 := O1.out.frozen 1))
      have O3 := Lib.hid (O1.out.put 1 (.int .i64 ((s.n : Int) + 1)))
      have M3 := Lib.hid (hm1.kept (Only.refl.setCell (r := g) (p := ⟨g, 1, none⟩) rfl (.int .i64 ((s.n : Int) + 1))) (Ne.symm hne))
      have G3 := Lib.hid (((Only2.alloc (g := g) (B := B) (w := w) (.cells #[.string id, .bool dn, .slice A1 n1 k1, .slice A2 n2 k2, .slice A3 n3 k3] 54)).trans (Only2.of_B hb1)).trans (Only2.of_g (Only.refl.setCell (r := g) (p := ⟨g, 1, none⟩) rfl (.int .i64 ((s.n : Int) + 1)))))
      have X3 := Lib.hid (show Ob (w1.setCell ⟨g, 1, none⟩ (.int .i64 ((s.n : Int) + 1))) w.heap.size 54 #[.string id, .bool dn, .slice A1 n1 k1, .slice A2 n2 k2, .slice A3 n3 k3] from
        Ob.keep (Ob.keep (Ob.made w _ _) (hb1.heap (by simp) (by omega))) (Below.heap_setCell _ _ _ _ (by simp; omega)))
      clear c1 f1 O1 hb1 hm1 HF HW0
      generalize w1.setCell ⟨g, 1, none⟩ (.int .i64 ((s.n : Int) + 1)) = W3 at *
      have K3 := Lib.hid (G3.out.kept HRR.out)
      have T1 := Lib.hid (H1.out.keep K3.out (fun _ h _ => h))
      have T2 := Lib.hid (H2.out.keep K3.out (fun _ h _ => h))
      have T3 := Lib.hid (H3.out.keep K3.out (fun _ h _ => h))
      have KK := Lib.hid (below_regrown W3)
      have Q1 : Hid (∀ d os, Calls Tryz.prog 78 #[.slice A1 n1 k1] (grow (redrawn W3 d) os) fun e w'' => e = .returned (.int .i64 (tgE tg)) ∧ ∃ p : Regrown, w'' = grow (redrawn W3 p.d) p.os) := fun d os => Calls.regrown_of (target_any _ (T1.out.keep (Kept.all (KK.out d os) R) (fun _ h _ => h)))
      have Q2 : Hid (∀ d os, Calls Tryz.prog 28 #[.slice A2 n2 k2] (grow (redrawn W3 d) os) fun e w'' => e = .returned (.int .i64 (exprE cond)) ∧ ∃ p : Regrown, w'' = grow (redrawn W3 p.d) p.os) := fun d os => Calls.regrown_of (expr_any _ (T2.out.keep (Kept.all (KK.out d os) R) (fun _ h _ => h)))
      have Q3 : Hid (∀ d os, Calls Tryz.prog 79 #[.slice A3 n3 k3] (grow (redrawn W3 d) os) fun e w'' => e = .returned (.int .i64 (obE ob)) ∧ ∃ p : Regrown, w'' = grow (redrawn W3 p.d) p.os) := fun d os => Calls.regrown_of (obls_any _ (T3.out.keep (Kept.all (KK.out d os) R) (fun _ h _ => h)))
      have x2 := fun d os => cell_regrown (X3.out.cell 2) d os
      have x3 := fun d os => cell_regrown (X3.out.cell 3) d os
      have x4 := fun d os => cell_regrown (X3.out.cell 4) d os
      have HOR := Lib.hid (or3 (tgE tg) (exprE cond) (obE ob))
      generalize tgE tg = a1 at *
      generalize exprE cond = a2 at *
      generalize obE ob = a3 at *
      refine wp_region_below_tail 9 (by kernel_rfl) (by kernel_rfl) ?_
      simp only [List.take_succ_cons, List.take_zero, List.drop_succ_cons, List.drop_zero]
      repeat (go_big_quiet_step ((first
        | (go_at_call 78; exact Q1.out _ _)
        | (go_at_call 28; exact Q2.out _ _)
        | (go_at_call 79; exact Q3.out _ _))))
      refine wpQuiet_nil ?_
      intro _ hw'
      obtain ⟨⟨dq, osq⟩, hw''⟩ := hw'
      subst hw''
      have hbel := below_regrown W3 dq osq
      have O4 := Lib.hid (O3.out.below hbel O3.out.lt)
      have M4 := Lib.hid (M3.out.below hbel)
      have G4 := Lib.hid (G3.out.trans (Only2.of_below hbel))
      clear x2 x3 x4 hbel Q1 Q2 Q3 KK O3 M3 G3 K3 T1 T2 T3 X3
      dsimp only at O4 M4 G4 ⊢
      generalize grow (redrawn W3 dq) osq = W4 at *
      have HSL := Lib.hid (Sl.lit W4 64 (ev [a1, a2, a3]) 3 rfl (by simp [maxLen]))
      go_wp2_with (first
        | (go_at_call 77; refine (or_any (l := [a1, a2, a3]) HSL.out (by omega) (by simp)).mono ?_; rintro e w5 ⟨rfl, rfl⟩))
      go_ret
      rw [HE.out]
      refine ⟨by rw [HOR.out]; rfl, G4.out.trans (Only2.alloc _), ⟨s.ids ++ [id], s.n + 1⟩, ⟨?_, ?_, hne, ?_⟩, fun _ => rfl⟩
      · exact (O4.out.keep (Below.heap_alloc _ _ _ O4.out.lt))
      · exact M4.out.below ((Below.refl _ _).alloc (Nat.le_refl _) _)
      · show s.n + 1 ≤ (s.ids ++ [id]).length
        rw [List.length_append, List.length_singleton]; omega
  · rw [Bool.not_eq_true] at hfr
    rw [hfr] at HF
    have HE : Hid (ruleS ⟨id, dn, tg, cond, ob⟩ s = (1, s)) := by
      show ruleS ⟨id, dn, tg, cond, ob⟩ s = _
      unfold ruleS
      simp only [idS_none hfr]
    clear hfr
    generalize ruleS ⟨id, dn, tg, cond, ob⟩ s = z at *
    go_enter Tryz.func81, Tryz.ntmps81
    go_wp2_with (first
      | (go_at_call 75; refine HF.out.mono ?_; rintro e w1 ⟨rfl, hb1, hm1⟩))
    go_ret
    rw [HE.out]
    exact ⟨rfl, (Only2.alloc _).trans (Only2.of_B hb1), ⟨s.ids ++ [id], s.n⟩, ⟨HW0.out.ob.keep (hb1.heap HW0.out.ob.lt hne), hm1, hne, by show s.n ≤ (s.ids ++ [id]).length; rw [List.length_append, List.length_singleton]; omega⟩, fun h => by cases h⟩

theorem firstS_app {α : Type} (f : α → Seen → Int × Seen) : ∀ (l m : List α) (s : Seen), firstS f (l ++ m) s = if (firstS f l s).1 ≠ 0 then firstS f l s else firstS f m (firstS f l s).2
  | [], m, s => by simp [firstS]
  | x :: l, m, s => by
    simp only [List.cons_append, firstS]
    by_cases h : (f x s).1 = 0
    · simp only [h, ne_eq, not_true, if_false]
      exact firstS_app f l m (f x s).2
    · simp [h]
/-- So far without an error, and this was met. -/
def StTo {α : Type} (f : α → Seen → Int × Seen) (l : List α) (s0 : Seen) (k : Nat) (s : Seen) : Prop := firstS f (l.take k) s0 = (0, s)
section
variable {α : Type} {f : α → Seen → Int × Seen} {l : List α} {s0 s : Seen} {k : Nat} {x : α}
theorem StTo.zero (f : α → Seen → Int × Seen) (l : List α) (s0 : Seen) : StTo f l s0 0 s0 := rfl
theorem StTo.step (h : StTo f l s0 k s) (hx : l[k]? = some x) (h0 : (f x s).1 = 0) : StTo f l s0 (k + 1) (f x s).2 := by
  unfold StTo at h ⊢
  rw [take_next hx, firstS_app, h]
  simp only [ne_eq, not_true, if_false, firstS, h0]
theorem StTo.err (h : StTo f l s0 k s) (hx : l[k]? = some x) (h0 : (f x s).1 ≠ 0) : firstS f l s0 = f x s := by
  have e : firstS f (l.take (k + 1)) s0 = f x s := by
    unfold StTo at h
    rw [take_next hx, firstS_app, h]
    simp [firstS, h0]
  rw [← List.take_append_drop (k + 1) l, firstS_app, e, if_pos h0]
theorem StTo.all {n : Nat} (h : StTo f l s0 n s) (hn : l.length = n) : firstS f l s0 = (0, s) := by
  unfold StTo at h
  rwa [List.take_of_length_le (by omega)] at h
end
theorem idS_ids {x : ByteArray} {s s1 : Seen} (h : idS x s = some s1) : s1.ids.length = s.ids.length + 1 := by
  unfold idS at h
  split at h
  · obtain rfl := Option.some.inj h; simp
  · cases h
theorem ruleS_ids (r : Rul) (s : Seen) : (ruleS r s).2.ids.length ≤ s.ids.length + 1 := by
  unfold ruleS
  split
  · exact Nat.le_succ _
  · rename_i s1 h
    have := idS_ids h
    split <;> (simp only; omega)

set_option maxHeartbeats 1600000 in
theorem each_rule {w : World} {g B : Nat} {s : Seen} {R : Nat → Prop} {A : Option Addr} {n c : Nat} {l : List Rul} (hk : Wk w g B s) (hlen : s.ids.length < 800000) (hn : n ≤ 1000) (hR : ∀ b, R b → b ≠ g ∧ b ≠ B) (h : Rus w R A n c l) :
    Calls Tryz.prog 80 #[.slice A n c, .func (.func 81) #[.pointer (some ⟨g, 0, none⟩)] #[]] w
      fun e w' => e = .returned (.int .i64 (firstS ruleS l s).1) ∧ Only2 g B w w' ∧ WkE w' g B (firstS ruleS l s) := by
  have hle := Rw.le h
  have hcap := Rw.cap h
  have HL := Lib.hid (Rw.len h)
  unfold maxLen at hcap
  have H := Lib.hid h
  have HW := Lib.hid hk
  have HRR := Lib.hid hR
  have HGL : Hid (g < w.heap.size ∧ B < w.heap.size) := ⟨hk.ob.lt, hk.map.lt⟩
  clear h hk hR
  go_enter Tryz.func80, Tryz.ntmps80
  go_wp2
  go_loopw [10] (fun i wr => ∃ (k : Nat) (s' : Seen), k ≤ n ∧ i = .int .i64 k ∧ StTo ruleS l s k s' ∧ s'.ids.length ≤ s.ids.length + k ∧ Wk wr g B s' ∧ Only2 g B w wr) (fun i _ => n - (intOf i).toNat)
  case atStart => exact ⟨0, s, Nat.zero_le _, rfl, StTo.zero _ _ _, Nat.le_refl _, HW.out, Only2.refl⟩
  case round =>
    obtain ⟨k, s', hk, rfl, hf, hids, hw, hb⟩ := hrel
    have HF := Lib.hid hf
    have HB := Lib.hid hb
    have HW' := Lib.hid hw
    have HI := Lib.hid hids
    clear hf hb hw hids
    by_cases hlt : k < n
    · obtain ⟨b, o, x, A1, n1, k1, A2, n2, k2, A3, n3, k3, rfl, hRb, hbl, hx, hid, ⟨c0, c1, c2, c3, c4⟩, h1, h2, h3⟩ := (H.out.keep (HB.out.kept HRR.out) (fun _ h _ => h)).at_ hlt
      have HX := Lib.hid hx
      have hka := Kept.all ((Below.refl _ wr).alloc (Nat.le_refl _) (.cells #[.string x.id, .bool x.deny, .slice A1 n1 k1, .slice A2 n2 k2, .slice A3 n3 k3] 54)) R
      have hcon := rule_any (HW'.out.alloc (.cells #[.string x.id, .bool x.deny, .slice A1 n1 k1, .slice A2 n2 k2, .slice A3 n3 k3] 54)) (by have := HI.out; omega) HRR.out hid (h1.keep hka (fun _ h _ => h)) (h2.keep hka (fun _ h _ => h)) (h3.keep hka (fun _ h _ => h))
      have HIX := Lib.hid (ruleS_ids x s')
      clear hx hka h1 h2 h3
      by_cases hz : (ruleS x s').1 = 0
      · have HZ := Lib.hid hz
        rw [hz] at hcon
        have HC := Lib.hid hcon
        clear hz hcon
        go_wp2_with (go_at_call 81; refine HC.out.mono ?_; rintro e w1 ⟨rfl, hb1, hw1⟩; have B1 := Lib.hid hb1; have W1 := Lib.hid (hw1.ok HZ.out))
        go_roundw
        case rel => exact ⟨k + 1, _, by omega, by go_num, HF.out.step HX.out HZ.out, by have := HI.out; have := HIX.out; omega, W1.out, HB.out.trans ((Only2.alloc _).trans B1.out)⟩
        case measure => simp [intOf]; omega
      · have HZ := Lib.hid hz
        obtain ⟨r, hr⟩ : ∃ r, r = ruleS x s' := ⟨_, rfl⟩
        have HR := Lib.hid hr
        rw [← hr] at hz hcon
        have hne : (r.1 != 0) = true := by simpa using hz
        have HC := Lib.hid hcon
        clear hcon hr
        clear hz
        go_wp2_with (go_at_call 81; refine HC.out.mono ?_; rintro e w1 ⟨rfl, hb1, hw1⟩; have B1 := Lib.hid hb1; have W1 := Lib.hid hw1; clear hw1)
        go_ret
        rw [HF.out.err HX.out HZ.out, ← HR.out]
        exact ⟨rfl, HB.out.trans ((Only2.alloc _).trans B1.out), W1.out⟩
    · obtain rfl : k = n := by omega
      go_wp2
      go_ret
      rw [HF.out.all HL.out]
      exact ⟨rfl, HB.out, s', HW'.out, fun _ => rfl⟩
end Go.Proofs.YtjpkemamfccfdaaGreatDoor
