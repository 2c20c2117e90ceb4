/- Several texts in one: ShowExprW, ShowRul. -/
import Derived.Test.YtmoglaknmlhpgaaGreatDoorOnlg
/- An expression's text (the project's). -/
namespace Go.Proofs.YtmoglaknmlhpgaaGreatDoor
set_option linter.unusedVariables false
open Go.RowKit Go.Sort

theorem TR.drop {w : World} {base n c : Nat} {A : Option Addr} {xs : List (List UInt8)} (h : TR w base A n c xs) {k : Nat} (hk : k ≤ n) : Sl w w.heap.size (if c = k then A else A.map (·.add k)) (n - k) (c - k) (tv (xs.drop k)) := by
 have := h.sl.drop hk
 unfold tv at this ⊢
 rwa [← List.map_drop] at this

set_option maxHeartbeats 3200000 in
theorem show_expr {R : Nat → Prop} {A : Option Addr} {n c : Nat} {l : List Nod} (w : World) (h : Nds w R A n c l) (ht : Tbl w) :
    Calls Tryz.prog 72 #[.slice A n c] w fun e w' => e = .returned (.string ⟨(exprS l).toArray⟩) ∧ Below w.heap.size w w' := by
  have hle := Rw.le h
  have hcap := Rw.cap h
  have hbig := Rw.big h
  have HL := Lib.hid (Rw.len h)
  unfold maxLen at hcap
  have hcon := expr_any w h
  by_cases h0 : n = 0
  · subst h0
    obtain rfl : l = [] := List.eq_nil_of_length_eq_zero HL.out
    clear hcon h ht
    go_enter Tryz.func72, Tryz.ntmps72
    go_wp2_with fail
    go_ret
    exact ⟨rfl, Below.refl _ _⟩
  · have hne : l ≠ [] := by rintro rfl; have := HL.out; simp at this; omega
    have hz : ((n : Int) == 0) = false := by rw [beq_eq_false_iff_ne]; omega
    by_cases hf : exprE l = 0
    case neg =>
      obtain ⟨r, hr⟩ : ∃ r, r = exprE l := ⟨_, rfl⟩
      have HE : Hid (exprS l = []) := by
        show exprS l = []
        unfold exprS
        rw [if_neg (by rintro ⟨_, h⟩; exact hf h)]
      rw [← hr] at hf hcon
      have hrne : (r != 0) = true := by simpa using hf
      have HC := Lib.hid hcon
      clear hcon h ht hf hr hne
      go_enter Tryz.func72, Tryz.ntmps72
      go_wp2_with (go_at_call 78; refine HC.out.mono ?_; rintro e w1 ⟨rfl, hb1⟩; have B1 := Lib.hid hb1)
      go_ret
      exact ⟨ret_text (by rw [HE.out]; rfl), B1.out⟩
    have hok := Rw.all h
    have HS := Lib.hid (stack_at hf hok)
    have HNL := Lib.hid (fun k x (hx : l[k]? = some x) => node_len hf hok hx)
    have HEND : Hid (stackT l = [exprS l]) := by
      show stackT l = [exprS l]
      rw [stack_end hf hne]
      unfold exprS
      rw [if_pos ⟨hne, hf⟩]
    rw [hf] at hcon
    have HC := Lib.hid hcon
    have H := Lib.hid h
    have HT := Lib.hid ht
    clear hcon h ht hf hne hok
    go_enter Tryz.func72, Tryz.ntmps72
    go_wp2_with (go_at_call 78; refine HC.out.mono ?_; rintro e w1 ⟨rfl, hb1⟩; have B1 := Lib.hid hb1; clear hb1)
    go_loopw [3, 17] (fun s i wr => ∃ (k m : Nat) (B : Option Addr) (d : Nat), k ≤ n ∧ s = .slice B m d ∧ i = .int .i64 k ∧ TR wr w.heap.size B m d (stackT (l.take k)) ∧ Below w.heap.size w wr) (fun _ i _ => n - (intOf i).toNat)
    case atStart => exact ⟨0, 0, none, 0, Nat.zero_le _, rfl, rfl, TR.nil _ _, B1.out⟩
    case round =>
     obtain ⟨k, m, B, d, hk, rfl, rfl, hr, hb⟩ := hrel
     have HR := Lib.hid hr
     have HB := Lib.hid hb
     clear hr hb
     by_cases hlt : k < n
     · obtain ⟨b, o, x, rfl, hRb, hbl, hx, hok, c0, c1, c2, c3, c4, c5, c6⟩ := (H.out.keep (Kept.all HB.out R) (fun _ h _ => h)).at_ hlt
       obtain ⟨s1, s2, s3⟩ := HS.out k
       obtain ⟨hh, h13, htk⟩ := s3 x hx
       have hml := HR.out.len
       have hmd := (HR.out.sl).le
       have hdm := (HR.out.sl).cap
       unfold maxLen at hdm
       have hm32 : m ≤ 32 := by omega
       obtain ⟨q, hq⟩ : ∃ q, q = m - takesT x.op := ⟨_, rfl⟩
       have hqm : q ≤ m := by omega
       have hqd : q ≤ d := by omega
       have e1 : (m : Int) - (takesT x.op : Int) = (q : Int) := by omega
       have HX : Hid (stackT (l.take (k + 1)) = (stackT (l.take k)).take q ++ [nodeT x ((stackT (l.take k)).drop q)]) := by
         show stackT (l.take (k + 1)) = _
         rw [stackT_next hx]
         unfold stepT
         rw [hml, ← hq]
       have hnl : (nodeT x ((stackT (l.take k)).drop q)).length ≤ 14000 := by
         have := HNL.out k x hx
         rwa [hml, ← hq] at this
       have CT := Lib.hid (show_takes x.op)
       generalize takesT x.op = tk at *
       have CN := Lib.hid (fun (W : World) (hb : Below wr.heap.size wr W) => show_node x hok hh h13 W ((HR.out.below hb).drop hqm) (Nat.le_refl _) (show m - q ≤ 1000 by omega) hnl (HT.out.then_ (below_step HB.out hb)))
       have TK := Lib.hid (HR.out.take hqm)
       have HNX := Lib.hid hnl
       clear s1 s2 s3 hh h13 htk hx hok hnl hml hq
       have B0 := Lib.hid (al9' wr (.cells #[.int .i64 x.op, .int .i64 x.v.k, .int .i64 x.v.n, .string x.v.s, .int .i64 x.a.cat, .string x.a.name, .bool x.a.must] 81))
       have OB := Lib.hid (Ob.made wr 81 #[.int .i64 x.op, .int .i64 x.v.k, .int .i64 x.v.n, .string x.v.s, .int .i64 x.a.cat, .string x.a.name, .bool x.a.must])
       have f0 := OB.out.cell 0
       go_wp2_with (go_at_call 108; refine (CT.out _).mono ?_; rintro e w2 ⟨rfl, rfl⟩)
       generalize hW1 : wr.alloc (.cells #[.int .i64 x.op, .int .i64 x.v.k, .int .i64 x.v.n, .string x.v.s, .int .i64 x.a.cat, .string x.a.name, .bool x.a.must] 81) = W1 at *
       have hsz : W1.heap.size = wr.heap.size + 1 := by rw [← hW1]; exact size_al _ _
       have HSZ := Lib.hid hsz
       have KO : Hid (∀ W, Below W1.heap.size W1 W → W.cell? ⟨wr.heap.size, 0, none⟩ = some (.int .i64 x.op) ∧ W.cell? ⟨wr.heap.size, 1, none⟩ = some (.int .i64 x.v.k) ∧ W.cell? ⟨wr.heap.size, 2, none⟩ = some (.int .i64 x.v.n) ∧ W.cell? ⟨wr.heap.size, 3, none⟩ = some (.string x.v.s) ∧ W.cell? ⟨wr.heap.size, 4, none⟩ = some (.int .i64 x.a.cat) ∧ W.cell? ⟨wr.heap.size, 5, none⟩ = some (.string x.a.name) ∧ W.cell? ⟨wr.heap.size, 6, none⟩ = some (.bool x.a.must)) := by
         show ∀ W, _ → _
         intro W hb
         have o := OB.out.below hb (by omega)
         exact ⟨o.cell 0, o.cell 1, o.cell 2, o.cell 3, o.cell 4, o.cell 5, o.cell 6⟩
       clear hW1 f0 hsz

       refine wp_region_held_tail (fun w' => Below W1.heap.size W1 w') 9 (by kernel_rfl) (by kernel_rfl) ?_
       intro G
       change HeadW _ _ _ _ _ _ _ _ _ _ (W1.drewN 1)
       have S0 := Lib.hid (below_drewN (Below.refl W1.heap.size W1) 1)
       generalize W1.drewN 1 = v0 at *
       refine HeadW_take (i := 0) (v := ?_) G rfl (by kernel_rfl) (by kernel_rfl) (by kernel_rfl) (fun _ _ _ h => h) (Or.inl ⟨by rfl, ?_⟩) S0.out ?_
       rotate_left
       · intro wz hS
         go_simp
         try with_reducible rfl
       refine HeadW_take (i := 1) (v := ?_) G rfl (by kernel_rfl) (by kernel_rfl) (by kernel_rfl) (fun _ _ _ h => h) (Or.inl ⟨by rfl, ?_⟩) S0.out ?_
       rotate_left
       · intro wz hS
         go_simp
         try with_reducible rfl
       refine HeadW_take (i := 2) (v := ?_) G rfl (by kernel_rfl) (by kernel_rfl) (by kernel_rfl) (fun _ _ _ h => h) (Or.inl ⟨by rfl, ?_⟩) S0.out ?_
       rotate_left
       · intro wz hS
         go_simp
         try with_reducible rfl
       refine HeadW_take (i := 3) (v := ?_) G rfl (by kernel_rfl) (by kernel_rfl) (by kernel_rfl) (fun _ _ _ h => h) (Or.inl ⟨by rfl, ?_⟩) S0.out ?_
       rotate_left
       · intro wz hS
         have hk1 := KO.out _ hS
         go_simp
         try with_reducible rfl
       refine HeadW_take (i := 4) (v := ?_) G rfl (by kernel_rfl) (by kernel_rfl) (by kernel_rfl) (fun _ _ _ h => h) (Or.inl ⟨by rfl, ?_⟩) S0.out ?_
       rotate_left
       · intro wz hS
         go_simp
         try with_reducible rfl
       refine HeadW_take (i := 5) (v := ?_) G rfl (by kernel_rfl) (by kernel_rfl) (by kernel_rfl) (fun _ _ _ h => h) (Or.inl ⟨by rfl, ?_⟩) S0.out ?_
       rotate_left
       · intro wz hS
         go_simp
         try with_reducible rfl
       refine HeadW_take (i := 6) (v := ?_) G rfl (by kernel_rfl) (by kernel_rfl) (by kernel_rfl) (fun _ _ _ h => h) (Or.inl ⟨by rfl, ?_⟩) S0.out ?_
       rotate_left
       · intro wz hS
         go_simp
         try with_reducible rfl
       refine HeadW_ready (rs := [7]) (by kernel_rfl) rfl rfl ?_
       refine AllW.cons rfl (fun K hK => ?_) AllW.nil
       go_simp
       refine (CN.out _ (B0.out.trans (S0.out.mono B0.out.size))).mono ?_
       rintro e v1 ⟨rfl, hb⟩
       have S1 := Lib.hid (S0.out.trans (hb.mono S0.out.size))
       refine hK _ _ S1.out ?_
       clear hK K hb
       refine HeadW_ready (rs := [8]) (by kernel_rfl) rfl rfl ?_
       refine AllW.cons rfl (fun K hK => ?_) AllW.nil
       go_simp
       refine hK _ _ (S1.out.alloc S1.out.size _) ?_
       clear hK K
       intro _
       refine ⟨by kernel_rfl, ?_⟩
       simp only [List.drop_succ_cons, List.drop_zero]
       have HBV := Lib.hid (B0.out.trans (S1.out.mono B0.out.size))
       obtain ⟨B', d', w9, hap, hr2, hb2⟩ := (TK.out.below HBV.out).push ⟨(nodeT x ((stackT (l.take k)).drop q)).toArray⟩ (by omega) (Nat.le_trans HB.out.size HBV.out.size) 68
       have HAP := Lib.hid hap
       have HR2 := Lib.hid hr2
       have HB2 := Lib.hid ((below_step HB.out HBV.out).trans hb2)
       clear hap hr2 hb2
       go_wp2_with (at_builtin; refine wpList_append_run rfl _ _ _ _ rfl rfl rfl HAP.out ?_)
       go_roundw
       case rel => exact ⟨k + 1, q + 1, B', d', by omega, rfl, by go_num, by rw [HX.out]; exact HR2.out, HB2.out⟩
       case measure => simp [intOf]; omega
     · obtain rfl : k = n := by omega
       have hrr := HR.out
       rw [List.take_of_length_le (by rw [HL.out]; exact Nat.le_refl _), HEND.out] at hrr
       have hm1 := hrr.len
       obtain rfl : m = 1 := by simpa using hm1.symm
       obtain ⟨b, o, u, rfl, hbl, hu, hc⟩ := hrr.sl.at_ (k := 0) (by omega)
       have hcap2 := hrr.sl.cap
       unfold maxLen at hcap2
       obtain rfl : u = .string ⟨(exprS l).toArray⟩ := by simpa [tv] using hu.symm
       have HRX := Lib.hid hrr
       rw [Nat.add_zero] at hc
       clear hrr hm1 hu
       go_wp2_with fail
       go_ret
       exact ⟨rfl, HB.out⟩
end Go.Proofs.YtmoglaknmlhpgaaGreatDoor
/- A rule's text (the project's). -/
namespace Go.Proofs.YtmoglaknmlhpgaaGreatDoor
set_option linter.unusedVariables false
open Go.RowKit Go.Sort

theorem condW_ne {l : List Nod} (h : l ≠ []) : condW l = [⟨#[105, 102]⟩, ⟨(exprS l).toArray⟩].map bl := by unfold condW; rw [if_neg h]; rfl
theorem tr_two (w : World) (x y : ByteArray) : TR (w.alloc (.cells #[.string x, .string y] 9)) w.heap.size (some ⟨w.heap.size, 0, none⟩) 2 2 [bl x, bl y] := TR.lit w [x, y] (n := 2) rfl (by omega)

set_option maxHeartbeats 6400000 in
set_option maxRecDepth 100000 in
theorem show_rule {R : Nat → Prop} {A1 A2 A3 : Option Addr} {n1 c1 n2 c2 n3 c3 : Nat} (r : Rul) (w : World) (h1 : Tg w R A1 n1 c1 r.tg) (h2 : Nds w R A2 n2 c2 r.cond) (h3 : Dus w R A3 n3 c3 r.ob) (hf : r.fine) (ht : Tbl w) :
    Calls Tryz.prog 42 #[.agg #[.string r.id, .bool r.deny, .slice A1 n1 c1, .slice A2 n2 c2, .slice A3 n3 c3]] w fun e w' => e = .returned (.string ⟨(rulT r).toArray⟩) ∧ Below w.heap.size w w' := by
  have hok : r.oks := ⟨Tg.oks' h1, Rw.all h2⟩
  have hlen := rul_len hf hok
  obtain ⟨hW1, hW2⟩ := rulW_len hf hok
  obtain ⟨hn, htg, hc, ho⟩ := hf
  have hid16 : r.id.size ≤ 16 := hn.1.2
  have hn2 := Rw.len h2
  have hn3 := Rw.len h3
  have ho8 := (obE_all ho).1
  have HT : Hid (∀ W, Below w.heap.size w W → Tbl W) := fun W hb => ht.then_ hb
  have CT := Lib.hid (fun (W : World) (hb : Below w.heap.size w W) => show_target W (h1.keep (Kept.all hb R) (fun _ h _ => h)) htg (HT.out _ hb))
  have CX := Lib.hid (fun (W : World) (hb : Below w.heap.size w W) => show_expr W (h2.keep (Kept.all hb R) (fun _ h _ => h)) (HT.out _ hb))
  have CD := Lib.hid (fun (W : World) (hb : Below w.heap.size w W) => texts_duty (h3.keep (Kept.all hb R) (fun _ h _ => h)) (by omega) (obE_all ho).2 (HT.out _ hb))
  obtain ⟨x1, hx1⟩ : ∃ x : ByteArray, x = ⟨(effW r.deny).toArray⟩ := ⟨_, rfl⟩
  have CE : Hid (∀ W, Calls Tryz.prog 71 #[.bool r.deny] W fun e w' => e = .returned (.string x1) ∧ w' = W) := fun W => by rw [hx1]; exact show_effect r.deny W
  have HE : Hid (rulW r = [bl x1, bl r.id] ++ tgW r.tg ++ condW r.cond ++ r.ob.map dutT) := by
    show rulW r = _
    rw [hx1]
    simp [rulW, bl_mk]
  have hj : ((Lib.join (rulW r) (bl ⟨#[32]⟩)).length ≤ 5000000) := by
    have e : (rulT r).length = (Lib.join (rulW r) (bl ⟨#[32]⟩)).length + 1 := by unfold rulT; rw [List.length_append]; rfl
    omega
  obtain ⟨y, hy⟩ : ∃ y : ByteArray, y = ⟨(Lib.join (rulW r) (bl ⟨#[32]⟩)).toArray⟩ := ⟨_, rfl⟩
  have hys : y.size ≤ 5000000 := by rw [hy]; exact hj
  have HJL : Hid ((Lib.join (rulW r) (bl ⟨#[32]⟩)).length ≤ 140737488355328) := Nat.le_trans hj (by omega)
  have HR : Hid (bl y ++ [59] = rulT r) := by rw [hy]; rfl
  have HY := Lib.hid hy
  have HO8 := Lib.hid (show n3 ≤ 8 by omega)
  have HCN := Lib.hid (show n2 = 0 ∨ r.cond ≠ [] by
    by_cases h0 : n2 = 0
    · exact .inl h0
    · exact .inr (by intro hh; rw [hh] at hn2; simp at hn2; omega))
  have HC0 := Lib.hid (show n2 = 0 → condW r.cond = [] by intro h0; rw [h0] at hn2; rw [List.eq_nil_of_length_eq_zero hn2]; rfl)
  have hc2 := Rw.cap h2
  have hle2 := Rw.le h2
  unfold maxLen at hc2
  generalize rulT r = rt at *
  generalize rulW r = rw0 at *
  clear h1 h2 h3 hok hlen hW1 hW2 hn htg hc ho hn2 hn3 ho8 ht hx1 hj hy
  obtain ⟨C0, hC0⟩ : ∃ C0 : Array Value, C0 = #[.string r.id, .bool r.deny, .slice A1 n1 c1, .slice A2 n2 c2, .slice A3 n3 c3] := ⟨_, rfl⟩
  have OB := Lib.hid (Ob.made w 77 C0)
  have B0 := Lib.hid (al9' w (.cells C0 77))
  have HSZ := Lib.hid (size_al w (.cells C0 77))
  go_enter Tryz.func42, Tryz.ntmps42
  go_upto_region 1 with fail
  rw [← hC0]
  generalize w.alloc (.cells C0 77) = W1 at *
  rw [hC0] at OB
  have KO : Hid (∀ W, Below W1.heap.size W1 W → W.cell? ⟨w.heap.size, 0, none⟩ = some (.string r.id) ∧ W.cell? ⟨w.heap.size, 1, none⟩ = some (.bool r.deny) ∧ W.cell? ⟨w.heap.size, 2, none⟩ = some (.slice A1 n1 c1) ∧ W.cell? ⟨w.heap.size, 3, none⟩ = some (.slice A2 n2 c2) ∧ W.cell? ⟨w.heap.size, 4, none⟩ = some (.slice A3 n3 c3)) := by
    show ∀ W, _ → _
    intro W hb
    have o := OB.out.below hb (by have := HSZ.out; omega)
    exact ⟨o.cell 0, o.cell 1, o.cell 2, o.cell 3, o.cell 4⟩
  clear hC0 OB
  go_cut [3] from 4 to 13 (fun s wx => ∃ B m d, s = .slice B m d ∧ m ≤ 4 ∧ TR wx W1.heap.size B m d ([bl x1, bl r.id] ++ tgW r.tg) ∧ Below W1.heap.size W1 wx)
  case first =>
    refine wp_region_held_tail (fun w' => Below W1.heap.size W1 w') 9 (by kernel_rfl) (by kernel_rfl) ?_
    intro G
    change HeadW _ _ _ _ _ _ _ _ _ _ (W1.drewN 1)
    have S0 := Lib.hid (below_drewN (Below.refl W1.heap.size W1) 1)
    generalize W1.drewN 1 = v0 at *
    refine HeadW_take (i := 0) (v := ?_) G rfl (by kernel_rfl) (by kernel_rfl) (by kernel_rfl) (fun _ _ _ h => h) (Or.inl ⟨by rfl, ?_⟩) S0.out ?_
    rotate_left
    · intro wz hS
      go_simp
      try with_reducible rfl
    refine HeadW_take (i := 1) (v := ?_) G rfl (by kernel_rfl) (by kernel_rfl) (by kernel_rfl) (fun _ _ _ h => h) (Or.inl ⟨by rfl, ?_⟩) S0.out ?_
    rotate_left
    · intro wz hS
      have hk1 := (KO.out _ hS).2.1
      go_simp
      try with_reducible rfl
    refine HeadW_take (i := 3) (v := ?_) G rfl (by kernel_rfl) (by kernel_rfl) (by kernel_rfl) (fun _ _ _ h => h) (Or.inl ⟨by rfl, ?_⟩) S0.out ?_
    rotate_left
    · intro wz hS
      go_simp
      try with_reducible rfl
    refine HeadW_take (i := 4) (v := ?_) G rfl (by kernel_rfl) (by kernel_rfl) (by kernel_rfl) (fun _ _ _ h => h) (Or.inl ⟨by rfl, ?_⟩) S0.out ?_
    rotate_left
    · intro wz hS
      have hk1 := (KO.out _ hS).1
      go_simp
      try with_reducible rfl
    refine HeadW_take (i := 6) (v := ?_) G rfl (by kernel_rfl) (by kernel_rfl) (by kernel_rfl) (fun _ _ _ h => h) (Or.inl ⟨by rfl, ?_⟩) S0.out ?_
    rotate_left
    · intro wz hS
      go_simp
      try with_reducible rfl
    refine HeadW_take (i := 7) (v := ?_) G rfl (by kernel_rfl) (by kernel_rfl) (by kernel_rfl) (fun _ _ _ h => h) (Or.inl ⟨by rfl, ?_⟩) S0.out ?_
    rotate_left
    · intro wz hS
      have hk1 := (KO.out _ hS).2.2.1
      go_simp
      try with_reducible rfl
    refine HeadW_ready (rs := [2]) (by kernel_rfl) rfl rfl ?_
    refine AllW.cons rfl (fun K hK => ?_) AllW.nil
    go_simp
    refine (CE.out _).mono ?_
    rintro e wz ⟨rfl, hwz⟩
    rw [hwz]
    refine hK _ _ S0.out ?_
    clear hK K
    refine HeadW_ready (rs := [5, 8]) (by kernel_rfl) rfl rfl ?_
    refine AllW.cons rfl (fun K hK => ?_) (AllW.cons rfl (fun K hK => ?_) AllW.nil)
    · go_simp
      have hb : Below v0.heap.size v0 (v0.alloc (.cells #[.string x1, .string r.id] 9)) := (Below.refl _ _).alloc (Nat.le_refl _) _
      have S2 := Lib.hid (S0.out.trans (hb.mono S0.out.size))
      have L2 := Lib.hid ((tr_two v0 x1 r.id).less S0.out.size)
      refine hK _ _ S2.out ?_
      clear hK K hb
      generalize v0.alloc (.cells #[.string x1, .string r.id] 9) = v2 at *
      refine HeadW_ready (rs := [8]) (by kernel_rfl) rfl rfl ?_
      refine AllW.cons rfl (fun K hK => ?_) AllW.nil
      go_simp
      refine (CT.out _ (B0.out.trans (S2.out.mono B0.out.size))).mono ?_
      rintro e v3 ⟨T1, tm, tc, rfl, htm, htr, hb⟩
      have S3 := Lib.hid (S2.out.trans (hb.mono S2.out.size))
      have T3 := Lib.hid htr.sl
      have TM3 := Lib.hid htm
      have L3 := Lib.hid (L2.out.below hb)
      refine hK _ _ S3.out ?_
      clear hK K hb htr htm
      intro _
      refine ⟨by kernel_rfl, ?_⟩
      simp only [List.drop_succ_cons, List.drop_zero]
      obtain ⟨B', d', w9, hap, hr2, hb2⟩ := L3.out.app T3.out (by have := TM3.out; omega) S3.out.size 68
      have HAP := Lib.hid hap
      have HR2 := Lib.hid hr2
      have HB2 := Lib.hid (S3.out.trans hb2)
      clear hap hr2 hb2
      go_wp2_with (at_builtin; refine wpList_append_run rfl _ _ _ _ rfl rfl rfl HAP.out ?_)
      go_meet
      exact ⟨_, _, _, rfl, by have := TM3.out; omega, HR2.out, HB2.out⟩
    · go_simp
      refine (CT.out _ (B0.out.trans (S0.out.mono B0.out.size))).mono ?_
      rintro e v4 ⟨T1, tm, tc, rfl, htm, htr, hb⟩
      have S4 := Lib.hid (S0.out.trans (hb.mono S0.out.size))
      have T4 := Lib.hid htr.sl
      have TM4 := Lib.hid htm
      refine hK _ _ S4.out ?_
      clear hK K hb htr htm
      refine HeadW_ready (rs := [5]) (by kernel_rfl) rfl rfl ?_
      refine AllW.cons rfl (fun K hK => ?_) AllW.nil
      go_simp
      have hb : Below v4.heap.size v4 (v4.alloc (.cells #[.string x1, .string r.id] 9)) := (Below.refl _ _).alloc (Nat.le_refl _) _
      have S5 := Lib.hid (S4.out.trans (hb.mono S4.out.size))
      have L5 := Lib.hid ((tr_two v4 x1 r.id).less S4.out.size)
      have T5 := Lib.hid ((T4.out.below hb).more hb.size)
      refine hK _ _ S5.out ?_
      clear hK K hb
      generalize v4.alloc (.cells #[.string x1, .string r.id] 9) = v5 at *
      intro _
      refine ⟨by kernel_rfl, ?_⟩
      simp only [List.drop_succ_cons, List.drop_zero]
      obtain ⟨B', d', w9, hap, hr2, hb2⟩ := L5.out.app T5.out (by have := TM4.out; omega) S5.out.size 68
      have HAP := Lib.hid hap
      have HR2 := Lib.hid hr2
      have HB2 := Lib.hid (S5.out.trans hb2)
      clear hap hr2 hb2
      go_wp2_with (at_builtin; refine wpList_append_run rfl _ _ _ _ rfl rfl rfl HAP.out ?_)
      go_meet
      exact ⟨_, _, _, rfl, by have := TM4.out; omega, HR2.out, HB2.out⟩
  case rest =>
    obtain ⟨B, m, d, rfl, hm4, htr, hb⟩ := hcut
    have q3 := (KO.out _ hb).2.2.2.1
    have KO4 := Lib.hid (fun (W : World) (hh : Below W1.heap.size W1 W) => (KO.out W hh).2.2.2.2)
    by_cases h0 : n2 = 0
    · have hz : ¬ (0 : Int) < (n2 : Int) := by omega
      have q4 := KO4.out _ hb
      have HRW : Hid (rw0 = [bl x1, bl r.id] ++ tgW r.tg ++ r.ob.map dutT) := by
        show rw0 = _
        rw [HE.out, HC0.out h0, List.append_nil]
      have HTX := Lib.hid htr
      have HMX := Lib.hid hm4
      have HBX := Lib.hid hb
      clear htr hb hm4 HE HC0 HCN
      go_wp2_with (first
        | (go_at_call 43
           refine (CD.out _ (B0.out.trans (HBX.out.mono B0.out.size))).mono ?_
           rintro e w5 ⟨D1, dd, rfl, hr5, hb5⟩
           have HB5 := Lib.hid (HBX.out.trans (hb5.mono HBX.out.size))
           obtain ⟨D2, d2, w6, hap, hr6, hb6⟩ := (HTX.out.below hb5).app hr5.sl (by have := HMX.out; have := HO8.out; omega) HB5.out.size 68
           have HAP2 := Lib.hid hap
           have HB6 := Lib.hid (HB5.out.trans hb6)
           have HJ := Lib.hid (join_row hr6.sl (Nat.le_refl _) (by have := HMX.out; have := HO8.out; omega) ⟨#[32]⟩ (by rw [← HRW.out]; exact HJL.out))
           rw [← HRW.out, ← HY.out] at HJ
           clear hap hr6 hb6 hr5 hb5)
        | (at_builtin; refine wpList_append_run rfl _ _ _ _ rfl rfl rfl HAP2.out ?_)
        | (go_at_call 21; refine HJ.out.mono ?_; rintro e w7 ⟨rfl, hb7⟩; have B7 := Lib.hid ((B0.out.trans (HB6.out.mono B0.out.size)).trans (hb7.mono (Nat.le_trans B0.out.size HB6.out.size))); clear hb7))
      go_ret
      refine ⟨ret_text ?_, B7.out⟩
      rw [← HR.out]
      simp [bl_app, bl_mka]
    · have hz : (0 : Int) < (n2 : Int) := by omega
      obtain ⟨z, hz1⟩ : ∃ z : ByteArray, z = ⟨(exprS r.cond).toArray⟩ := ⟨_, rfl⟩
      have HRW : Hid (rw0 = [bl x1, bl r.id] ++ tgW r.tg ++ [bl ⟨#[105, 102]⟩, bl z] ++ r.ob.map dutT) := by
        show rw0 = _
        rw [HE.out, condW_ne (HCN.out.resolve_left h0), hz1]; rfl
      rw [← hz1] at CX
      have HTY := Lib.hid htr
      have HMY := Lib.hid hm4
      have HBY := Lib.hid hb
      clear htr hb hm4 HE HC0 HCN hz1
      go_wp2_with (first
        | (go_at_call 72
           refine (CX.out _ (B0.out.trans (HBY.out.mono B0.out.size))).mono ?_
           rintro e w2 ⟨rfl, hb2⟩
           have HB2 := Lib.hid (HBY.out.trans (hb2.mono HBY.out.size))
           have hb3 : Below w2.heap.size w2 (w2.alloc (.cells #[.string ⟨#[105, 102]⟩, .string z] 9)) := (Below.refl _ _).alloc (Nat.le_refl _) _
           obtain ⟨D3, d3, w4, hap, hr4, hb4⟩ := ((HTY.out.below hb2).below hb3).app (tr_two w2 ⟨#[105, 102]⟩ z).sl (by have := HMY.out; omega) (Nat.le_trans HB2.out.size hb3.size) 68
           have HAP1 := Lib.hid hap
           have HBX := Lib.hid ((HB2.out.trans (hb3.mono HB2.out.size)).trans hb4)
           have HTX := Lib.hid hr4
           have HMX := Lib.hid (show m + 2 ≤ 6 from Nat.add_le_add_right HMY.out 2)
           have q4 := KO4.out _ HBX.out
           clear hap hr4 hb4 hb3 hb2)
        | (at_builtin; refine wpList_append_run rfl _ _ _ _ rfl rfl rfl HAP1.out ?_)
        | (go_at_call 43
           refine (CD.out _ (B0.out.trans (HBX.out.mono B0.out.size))).mono ?_
           rintro e w5 ⟨D1, dd, rfl, hr5, hb5⟩
           have HB5 := Lib.hid (HBX.out.trans (hb5.mono HBX.out.size))
           obtain ⟨D2, d2, w6, hap, hr6, hb6⟩ := (HTX.out.below hb5).app hr5.sl (by have := HMX.out; have := HO8.out; omega) HB5.out.size 68
           have HAP2 := Lib.hid hap
           have HB6 := Lib.hid (HB5.out.trans hb6)
           have HJ := Lib.hid (join_row hr6.sl (Nat.le_refl _) (by have := HMX.out; have := HO8.out; omega) ⟨#[32]⟩ (by rw [← HRW.out]; exact HJL.out))
           rw [← HRW.out, ← HY.out] at HJ
           clear hap hr6 hb6 hr5 hb5)
        | (at_builtin; refine wpList_append_run rfl _ _ _ _ rfl rfl rfl HAP2.out ?_)
        | (go_at_call 21; refine HJ.out.mono ?_; rintro e w7 ⟨rfl, hb7⟩; have B7 := Lib.hid ((B0.out.trans (HB6.out.mono B0.out.size)).trans (hb7.mono (Nat.le_trans B0.out.size HB6.out.size))); clear hb7))
      go_ret
      refine ⟨ret_text ?_, B7.out⟩
      rw [← HR.out]
      simp [bl_app, bl_mka]
end Go.Proofs.YtmoglaknmlhpgaaGreatDoor
