/- Several texts in one: ShowExprW, ShowRul, ShowWords, ShowAll, RSPol, RSShow, Open, OpenRows, OpenAtr, OpenPol, ShowRunsW, ShowCalls. -/
import Derived.Test.YtjpkemamfccfdaaGreatDoorTelB
import Derived.Test.YtjpkemamfccfdaaGreatDoorPolRight
import Derived.Test.YtjpkemamfccfdaaGreatDoorRRPol
import Derived.Test.YtjpkemamfccfdaaGreatDoorMem
import Derived.OpenShut
import Derived.ChangeSlices
import Derived.Test.YtjpkemamfccfdaaGreatDoorPolMem
import Derived.Deep.Slices
import Derived.Deep.Fields
import Derived.Lib.SmallJoins
import Derived.ProofKit
import Derived.SizedLaws
import Derived.Test.YtjpkemamfccfdaaGreatDoorPolLit
import Derived.Deep.Cut
import Derived.Test.YtjpkemamfccfdaaGreatDoorKeepIs
/- An expression's text (the project's). -/
namespace Go.Proofs.YtjpkemamfccfdaaGreatDoor
set_option linter.unusedVariables false
open Go.RowKit Go.Sort

theorem TR.drop {w : World} {base n c : Nat} {A : Option Addr} {xs : List (List UInt8)} (h : TR w base A n c xs) {k : Nat} (hk : k ≤ n) : Sl w w.heap.size (if c = k then A else A.map (·.add k)) (n - k) (c - k) (tv (xs.drop k)) := by
  have := h.sl.drop hk
  unfold tv at this ⊢
  rwa [← List.map_drop] at this

set_option maxHeartbeats 3200000 in
theorem show_expr {R : Nat → Prop} {A : Option Addr} {n c : Nat} {l : List Nod} (w : World) (h : Nds w R A n c l) (ht : Tbl w) :
    Calls Tryz.prog 13 #[.slice A n c] w fun e w' => e = .returned (.string ⟨(exprS l).toArray⟩) ∧ Below w.heap.size w w' := by
  have hle := Rw.le h
  have hcap := Rw.cap h
  have hbig := Rw.big h
  have HL := Lib.hid (Rw.len h)
  unfold maxLen at hcap
  have hcon := expr_any w h
  by_cases h0 : n = 0
  · subst h0
    obtain rfl : l = [] := List.eq_nil_of_length_eq_zero HL.out
    clear hcon h ht
    go_enter Tryz.func13, Tryz.ntmps13
    go_wp2_with fail
    go_ret
    exact ⟨rfl, Below.refl _ _⟩
  · have hne : l ≠ [] := by rintro rfl; have := HL.out; simp at this; omega
    have hz : ((n : Int) == 0) = false := by rw [beq_eq_false_iff_ne]; omega
    by_cases hf : exprE l = 0
    case neg =>
      obtain ⟨r, hr⟩ : ∃ r, r = exprE l := ⟨_, rfl⟩
      have HE : Hid (exprS l = []) := by
        show exprS l = []
        unfold exprS
        rw [if_neg (by rintro ⟨_, h⟩; exact hf h)]
      rw [← hr] at hf hcon
      have hrne : (r != 0) = true := by simpa using hf
      have HC := Lib.hid hcon
      clear hcon h ht hf hr hne
      go_enter Tryz.func13, Tryz.ntmps13
      go_wp2_with (go_at_call 28; refine HC.out.mono ?_; rintro e w1 ⟨rfl, hb1⟩; have B1 := Lib.hid hb1)
      go_ret
      exact ⟨ret_text (by rw [HE.out]; rfl), B1.out⟩
    have hok := Rw.all h
    have HS := Lib.hid (stack_at hf hok)
    have HNL := Lib.hid (fun k x (hx : l[k]? = some x) => node_len hf hok hx)
    have HEND : Hid (stackT l = [exprS l]) := by
      show stackT l = [exprS l]
      rw [stack_end hf hne]
      unfold exprS
      rw [if_pos ⟨hne, hf⟩]
    rw [hf] at hcon
    have HC := Lib.hid hcon
    have H := Lib.hid h
    have HT := Lib.hid ht
    clear hcon h ht hf hne hok
    go_enter Tryz.func13, Tryz.ntmps13
    go_wp2_with (go_at_call 28; refine HC.out.mono ?_; rintro e w1 ⟨rfl, hb1⟩; have B1 := Lib.hid hb1; clear hb1)
    go_loopw [3, 17] (fun s i wr => ∃ (k m : Nat) (B : Option Addr) (d : Nat), k ≤ n ∧ s = .slice B m d ∧ i = .int .i64 k ∧ TR wr w.heap.size B m d (stackT (l.take k)) ∧ Below w.heap.size w wr) (fun _ i _ => n - (intOf i).toNat)
    case atStart => exact ⟨0, 0, none, 0, Nat.zero_le _, rfl, rfl, TR.nil _ _, B1.out⟩
    case round =>
     obtain ⟨k, m, B, d, hk, rfl, rfl, hr, hb⟩ := hrel
     have HR := Lib.hid hr
     have HB := Lib.hid hb
     clear hr hb
     by_cases hlt : k < n
     · obtain ⟨b, o, x, rfl, hRb, hbl, hx, hok, c0, c1, c2, c3, c4, c5, c6⟩ := (H.out.keep (Kept.all HB.out R) (fun _ h _ => h)).at_ hlt
       obtain ⟨s1, s2, s3⟩ := HS.out k
       obtain ⟨hh, h13, htk⟩ := s3 x hx
       have hml := HR.out.len
       have hmd := (HR.out.sl).le
       have hdm := (HR.out.sl).cap
       unfold maxLen at hdm
       have hm32 : m ≤ 32 := by omega
       obtain ⟨q, hq⟩ : ∃ q, q = m - takesN x.op := ⟨_, rfl⟩
       have hqm : q ≤ m := by omega
       have hqd : q ≤ d := by omega
       have e1 : (m : Int) - (takesN x.op : Int) = (q : Int) := by omega
       have HX : Hid (stackT (l.take (k + 1)) = (stackT (l.take k)).take q ++ [nodeT x ((stackT (l.take k)).drop q)]) := by
         show stackT (l.take (k + 1)) = _
         rw [stackT_next hx]
         unfold stepT
         rw [hml, ← hq]
       have hnl : (nodeT x ((stackT (l.take k)).drop q)).length ≤ 14000 := by
         have := HNL.out k x hx
         rwa [hml, ← hq] at this
       have CT := Lib.hid (show_takes x.op)
       generalize takesN x.op = tk at *
       have CN := Lib.hid (fun (W : World) (hb : Below wr.heap.size wr W) => show_node x hok hh h13 W ((HR.out.below hb).drop hqm) (Nat.le_refl _) (show m - q ≤ 1000 by omega) hnl (HT.out.then_ (below_step HB.out hb)))
       have TK := Lib.hid (HR.out.take hqm)
       have HNX := Lib.hid hnl
       clear s1 s2 s3 hh h13 htk hx hok hnl hml hq
       have B0 := Lib.hid (al9' wr (.cells #[.int .i64 x.op, .int .i64 x.v.k, .int .i64 x.v.n, .string x.v.s, .int .i64 x.a.cat, .string x.a.name, .bool x.a.must] 52))
       have OB := Lib.hid (Ob.made wr 52 #[.int .i64 x.op, .int .i64 x.v.k, .int .i64 x.v.n, .string x.v.s, .int .i64 x.a.cat, .string x.a.name, .bool x.a.must])
       have f0 := OB.out.cell 0
       go_wp2_with (go_at_call 29; refine (CT.out _).mono ?_; rintro e w2 ⟨rfl, rfl⟩)
       generalize hW1 : wr.alloc (.cells #[.int .i64 x.op, .int .i64 x.v.k, .int .i64 x.v.n, .string x.v.s, .int .i64 x.a.cat, .string x.a.name, .bool x.a.must] 52) = W1 at *
       have hsz : W1.heap.size = wr.heap.size + 1 := by rw [← hW1]; exact size_al _ _
       have HSZ := Lib.hid hsz
       have KO : Hid (∀ W, Below W1.heap.size W1 W → W.cell? ⟨wr.heap.size, 0, none⟩ = some (.int .i64 x.op) ∧ W.cell? ⟨wr.heap.size, 1, none⟩ = some (.int .i64 x.v.k) ∧ W.cell? ⟨wr.heap.size, 2, none⟩ = some (.int .i64 x.v.n) ∧ W.cell? ⟨wr.heap.size, 3, none⟩ = some (.string x.v.s) ∧ W.cell? ⟨wr.heap.size, 4, none⟩ = some (.int .i64 x.a.cat) ∧ W.cell? ⟨wr.heap.size, 5, none⟩ = some (.string x.a.name) ∧ W.cell? ⟨wr.heap.size, 6, none⟩ = some (.bool x.a.must)) := by
         show ∀ W, _ → _
         intro W hb
         have o := OB.out.below hb (by omega)
         exact ⟨o.cell 0, o.cell 1, o.cell 2, o.cell 3, o.cell 4, o.cell 5, o.cell 6⟩
       clear hW1 f0 hsz

       refine wp_region_held_tail (fun w' => Below W1.heap.size W1 w') 9 (by kernel_rfl) (by kernel_rfl) ?_
       intro G
       change HeadW _ _ _ _ _ _ _ _ _ _ (W1.drewN 1)
       have S0 := Lib.hid (below_drewN (Below.refl W1.heap.size W1) 1)
       generalize W1.drewN 1 = v0 at *
       refine HeadW_take (i := 0) (v := ?_) G rfl (by kernel_rfl) (by kernel_rfl) (by kernel_rfl) (fun _ _ _ h => h) (Or.inl ⟨by rfl, ?_⟩) S0.out ?_
       rotate_left
       · intro wz hS
         go_simp
         try with_reducible rfl
       refine HeadW_take (i := 1) (v := ?_) G rfl (by kernel_rfl) (by kernel_rfl) (by kernel_rfl) (fun _ _ _ h => h) (Or.inl ⟨by rfl, ?_⟩) S0.out ?_
       rotate_left
       · intro wz hS
         go_simp
         try with_reducible rfl
       refine HeadW_take (i := 2) (v := ?_) G rfl (by kernel_rfl) (by kernel_rfl) (by kernel_rfl) (fun _ _ _ h => h) (Or.inl ⟨by rfl, ?_⟩) S0.out ?_
       rotate_left
       · intro wz hS
         go_simp
         try with_reducible rfl
       refine HeadW_take (i := 3) (v := ?_) G rfl (by kernel_rfl) (by kernel_rfl) (by kernel_rfl) (fun _ _ _ h => h) (Or.inl ⟨by rfl, ?_⟩) S0.out ?_
       rotate_left
       · intro wz hS
         have hk1 := KO.out _ hS
         go_simp
         try with_reducible rfl
       refine HeadW_take (i := 4) (v := ?_) G rfl (by kernel_rfl) (by kernel_rfl) (by kernel_rfl) (fun _ _ _ h => h) (Or.inl ⟨by rfl, ?_⟩) S0.out ?_
       rotate_left
       · intro wz hS
         go_simp
         try with_reducible rfl
       refine HeadW_take (i := 5) (v := ?_) G rfl (by kernel_rfl) (by kernel_rfl) (by kernel_rfl) (fun _ _ _ h => h) (Or.inl ⟨by rfl, ?_⟩) S0.out ?_
       rotate_left
       · intro wz hS
         go_simp
         try with_reducible rfl
       refine HeadW_take (i := 6) (v := ?_) G rfl (by kernel_rfl) (by kernel_rfl) (by kernel_rfl) (fun _ _ _ h => h) (Or.inl ⟨by rfl, ?_⟩) S0.out ?_
       rotate_left
       · intro wz hS
         go_simp
         try with_reducible rfl
       refine HeadW_ready (rs := [7]) (by kernel_rfl) rfl rfl ?_
       refine AllW.cons rfl (fun K hK => ?_) AllW.nil
       go_simp
       refine (CN.out _ (B0.out.trans (S0.out.mono B0.out.size))).mono ?_
       rintro e v1 ⟨rfl, hb⟩
       have S1 := Lib.hid (S0.out.trans (hb.mono S0.out.size))
       refine hK _ _ S1.out ?_
       clear hK K hb
       refine HeadW_ready (rs := [8]) (by kernel_rfl) rfl rfl ?_
       refine AllW.cons rfl (fun K hK => ?_) AllW.nil
       go_simp
       refine hK _ _ (S1.out.alloc S1.out.size _) ?_
       clear hK K
       intro _
       refine ⟨by kernel_rfl, ?_⟩
       simp only [List.drop_succ_cons, List.drop_zero]
       have HBV := Lib.hid (B0.out.trans (S1.out.mono B0.out.size))
       obtain ⟨B', d', w9, hap, hr2, hb2⟩ := (TK.out.below HBV.out).push ⟨(nodeT x ((stackT (l.take k)).drop q)).toArray⟩ (by omega) (Nat.le_trans HB.out.size HBV.out.size) 59
       have HAP := Lib.hid hap
       have HR2 := Lib.hid hr2
       have HB2 := Lib.hid ((below_step HB.out HBV.out).trans hb2)
       clear hap hr2 hb2
       go_wp2_with (at_builtin; refine wpList_append_run rfl _ _ _ _ rfl rfl rfl HAP.out ?_)
       go_roundw
       case rel => exact ⟨k + 1, q + 1, B', d', by omega, rfl, by go_num, by rw [HX.out]; exact HR2.out, HB2.out⟩
       case measure => simp [intOf]; omega
     · obtain rfl : k = n := by omega
       have hrr := HR.out
       rw [List.take_of_length_le (by rw [HL.out]; exact Nat.le_refl _), HEND.out] at hrr
       have hm1 := hrr.len
       obtain rfl : m = 1 := by simpa using hm1.symm
       obtain ⟨b, o, u, rfl, hbl, hu, hc⟩ := hrr.sl.at_ (k := 0) (by omega)
       have hcap2 := hrr.sl.cap
       unfold maxLen at hcap2
       obtain rfl : u = .string ⟨(exprS l).toArray⟩ := by simpa [tv] using hu.symm
       have HRX := Lib.hid hrr
       rw [Nat.add_zero] at hc
       clear hrr hm1 hu
       go_wp2_with fail
       go_ret
       exact ⟨rfl, HB.out⟩
end Go.Proofs.YtjpkemamfccfdaaGreatDoor
/- A rule's text (the project's). -/
namespace Go.Proofs.YtjpkemamfccfdaaGreatDoor
set_option linter.unusedVariables false
open Go.RowKit Go.Sort

theorem condW_ne {l : List Nod} (h : l ≠ []) : condW l = [⟨#[105, 102]⟩, ⟨(exprS l).toArray⟩].map bl := by unfold condW; rw [if_neg h]; rfl
theorem tr_two (w : World) (x y : ByteArray) : TR (w.alloc (.cells #[.string x, .string y] 9)) w.heap.size (some ⟨w.heap.size, 0, none⟩) 2 2 [bl x, bl y] := TR.lit w [x, y] (n := 2) rfl (by omega)

set_option maxHeartbeats 6400000 in
set_option maxRecDepth 100000 in
theorem show_rule {R : Nat → Prop} {A1 A2 A3 : Option Addr} {n1 c1 n2 c2 n3 c3 : Nat} (r : Rul) (w : World) (h1 : Tg w R A1 n1 c1 r.tg) (h2 : Nds w R A2 n2 c2 r.cond) (h3 : Dus w R A3 n3 c3 r.ob) (hf : r.fine) (ht : Tbl w) :
    Calls Tryz.prog 46 #[.agg #[.string r.id, .bool r.deny, .slice A1 n1 c1, .slice A2 n2 c2, .slice A3 n3 c3]] w fun e w' => e = .returned (.string ⟨(rulT r).toArray⟩) ∧ Below w.heap.size w w' := by
  have hok : r.oks := ⟨Tg.oks' h1, Rw.all h2⟩
  have hlen := rul_len hf hok
  obtain ⟨hW1, hW2⟩ := rulW_len hf hok
  obtain ⟨hn, htg, hc, ho⟩ := hf
  have hid16 : r.id.size ≤ 16 := hn.1.2
  have hn2 := Rw.len h2
  have hn3 := Rw.len h3
  have ho8 := (obE_all ho).1
  have HT : Hid (∀ W, Below w.heap.size w W → Tbl W) := fun W hb => ht.then_ hb
  have CT := Lib.hid (fun (W : World) (hb : Below w.heap.size w W) => show_target W (h1.keep (Kept.all hb R) (fun _ h _ => h)) htg (HT.out _ hb))
  have CX := Lib.hid (fun (W : World) (hb : Below w.heap.size w W) => show_expr W (h2.keep (Kept.all hb R) (fun _ h _ => h)) (HT.out _ hb))
  have CD := Lib.hid (fun (W : World) (hb : Below w.heap.size w W) => texts_duty (h3.keep (Kept.all hb R) (fun _ h _ => h)) (by omega) (obE_all ho).2 (HT.out _ hb))
  obtain ⟨x1, hx1⟩ : ∃ x : ByteArray, x = ⟨(effW r.deny).toArray⟩ := ⟨_, rfl⟩
  have CE : Hid (∀ W, Calls Tryz.prog 65 #[.bool r.deny] W fun e w' => e = .returned (.string x1) ∧ w' = W) := fun W => by rw [hx1]; exact show_effect r.deny W
  have HE : Hid (rulW r = [bl x1, bl r.id] ++ tgW r.tg ++ condW r.cond ++ r.ob.map dutT) := by
    show rulW r = _
    rw [hx1]
    simp [rulW, bl_mk]
  have hj : ((Lib.join (rulW r) (bl ⟨#[32]⟩)).length ≤ 5000000) := by
    have e : (rulT r).length = (Lib.join (rulW r) (bl ⟨#[32]⟩)).length + 1 := by unfold rulT; rw [List.length_append]; rfl
    omega
  obtain ⟨y, hy⟩ : ∃ y : ByteArray, y = ⟨(Lib.join (rulW r) (bl ⟨#[32]⟩)).toArray⟩ := ⟨_, rfl⟩
  have hys : y.size ≤ 5000000 := by rw [hy]; exact hj
  have HJL : Hid ((Lib.join (rulW r) (bl ⟨#[32]⟩)).length ≤ 140737488355328) := Nat.le_trans hj (by omega)
  have HR : Hid (bl y ++ [59] = rulT r) := by rw [hy]; rfl
  have HY := Lib.hid hy
  have HO8 := Lib.hid (show n3 ≤ 8 by omega)
  have HCN := Lib.hid (show n2 = 0 ∨ r.cond ≠ [] by
    by_cases h0 : n2 = 0
    · exact .inl h0
    · exact .inr (by intro hh; rw [hh] at hn2; simp at hn2; omega))
  have HC0 := Lib.hid (show n2 = 0 → condW r.cond = [] by intro h0; rw [h0] at hn2; rw [List.eq_nil_of_length_eq_zero hn2]; rfl)
  have hc2 := Rw.cap h2
  have hle2 := Rw.le h2
  unfold maxLen at hc2
  generalize rulT r = rt at *
  generalize rulW r = rw0 at *
  clear h1 h2 h3 hok hlen hW1 hW2 hn htg hc ho hn2 hn3 ho8 ht hx1 hj hy
  obtain ⟨C0, hC0⟩ : ∃ C0 : Array Value, C0 = #[.string r.id, .bool r.deny, .slice A1 n1 c1, .slice A2 n2 c2, .slice A3 n3 c3] := ⟨_, rfl⟩
  have OB := Lib.hid (Ob.made w 54 C0)
  have B0 := Lib.hid (al9' w (.cells C0 54))
  have HSZ := Lib.hid (size_al w (.cells C0 54))
  go_enter Tryz.func46, Tryz.ntmps46
  go_upto_region 1 with fail
  rw [← hC0]
  generalize w.alloc (.cells C0 54) = W1 at *
  rw [hC0] at OB
  have KO : Hid (∀ W, Below W1.heap.size W1 W → W.cell? ⟨w.heap.size, 0, none⟩ = some (.string r.id) ∧ W.cell? ⟨w.heap.size, 1, none⟩ = some (.bool r.deny) ∧ W.cell? ⟨w.heap.size, 2, none⟩ = some (.slice A1 n1 c1) ∧ W.cell? ⟨w.heap.size, 3, none⟩ = some (.slice A2 n2 c2) ∧ W.cell? ⟨w.heap.size, 4, none⟩ = some (.slice A3 n3 c3)) := by
    show ∀ W, _ → _
    intro W hb
    have o := OB.out.below hb (by have := HSZ.out; omega)
    exact ⟨o.cell 0, o.cell 1, o.cell 2, o.cell 3, o.cell 4⟩
  clear hC0 OB
  go_cut [3] from 4 to 13 (fun s wx => ∃ B m d, s = .slice B m d ∧ m ≤ 4 ∧ TR wx W1.heap.size B m d ([bl x1, bl r.id] ++ tgW r.tg) ∧ Below W1.heap.size W1 wx)
  case first =>
    refine wp_region_held_tail (fun w' => Below W1.heap.size W1 w') 9 (by kernel_rfl) (by kernel_rfl) ?_
    intro G
    change HeadW _ _ _ _ _ _ _ _ _ _ (W1.drewN 1)
    have S0 := Lib.hid (below_drewN (Below.refl W1.heap.size W1) 1)
    generalize W1.drewN 1 = v0 at *
    refine HeadW_take (i := 0) (v := ?_) G rfl (by kernel_rfl) (by kernel_rfl) (by kernel_rfl) (fun _ _ _ h => h) (Or.inl ⟨by rfl, ?_⟩) S0.out ?_
    rotate_left
    · intro wz hS
      go_simp
      try with_reducible rfl
    refine HeadW_take (i := 1) (v := ?_) G rfl (by kernel_rfl) (by kernel_rfl) (by kernel_rfl) (fun _ _ _ h => h) (Or.inl ⟨by rfl, ?_⟩) S0.out ?_
    rotate_left
    · intro wz hS
      have hk1 := (KO.out _ hS).2.1
      go_simp
      try with_reducible rfl
    refine HeadW_take (i := 3) (v := ?_) G rfl (by kernel_rfl) (by kernel_rfl) (by kernel_rfl) (fun _ _ _ h => h) (Or.inl ⟨by rfl, ?_⟩) S0.out ?_
    rotate_left
    · intro wz hS
      go_simp
      try with_reducible rfl
    refine HeadW_take (i := 4) (v := ?_) G rfl (by kernel_rfl) (by kernel_rfl) (by kernel_rfl) (fun _ _ _ h => h) (Or.inl ⟨by rfl, ?_⟩) S0.out ?_
    rotate_left
    · intro wz hS
      have hk1 := (KO.out _ hS).1
      go_simp
      try with_reducible rfl
    refine HeadW_take (i := 6) (v := ?_) G rfl (by kernel_rfl) (by kernel_rfl) (by kernel_rfl) (fun _ _ _ h => h) (Or.inl ⟨by rfl, ?_⟩) S0.out ?_
    rotate_left
    · intro wz hS
      go_simp
      try with_reducible rfl
    refine HeadW_take (i := 7) (v := ?_) G rfl (by kernel_rfl) (by kernel_rfl) (by kernel_rfl) (fun _ _ _ h => h) (Or.inl ⟨by rfl, ?_⟩) S0.out ?_
    rotate_left
    · intro wz hS
      have hk1 := (KO.out _ hS).2.2.1
      go_simp
      try with_reducible rfl
    refine HeadW_ready (rs := [2]) (by kernel_rfl) rfl rfl ?_
    refine AllW.cons rfl (fun K hK => ?_) AllW.nil
    go_simp
    refine (CE.out _).mono ?_
    rintro e wz ⟨rfl, hwz⟩
    rw [hwz]
    refine hK _ _ S0.out ?_
    clear hK K
    refine HeadW_ready (rs := [5, 8]) (by kernel_rfl) rfl rfl ?_
    refine AllW.cons rfl (fun K hK => ?_) (AllW.cons rfl (fun K hK => ?_) AllW.nil)
    · go_simp
      have hb : Below v0.heap.size v0 (v0.alloc (.cells #[.string x1, .string r.id] 9)) := (Below.refl _ _).alloc (Nat.le_refl _) _
      have S2 := Lib.hid (S0.out.trans (hb.mono S0.out.size))
      have L2 := Lib.hid ((tr_two v0 x1 r.id).less S0.out.size)
      refine hK _ _ S2.out ?_
      clear hK K hb
      generalize v0.alloc (.cells #[.string x1, .string r.id] 9) = v2 at *
      refine HeadW_ready (rs := [8]) (by kernel_rfl) rfl rfl ?_
      refine AllW.cons rfl (fun K hK => ?_) AllW.nil
      go_simp
      refine (CT.out _ (B0.out.trans (S2.out.mono B0.out.size))).mono ?_
      rintro e v3 ⟨T1, tm, tc, rfl, htm, htr, hb⟩
      have S3 := Lib.hid (S2.out.trans (hb.mono S2.out.size))
      have T3 := Lib.hid htr.sl
      have TM3 := Lib.hid htm
      have L3 := Lib.hid (L2.out.below hb)
      refine hK _ _ S3.out ?_
      clear hK K hb htr htm
      intro _
      refine ⟨by kernel_rfl, ?_⟩
      simp only [List.drop_succ_cons, List.drop_zero]
      obtain ⟨B', d', w9, hap, hr2, hb2⟩ := L3.out.app T3.out (by have := TM3.out; omega) S3.out.size 59
      have HAP := Lib.hid hap
      have HR2 := Lib.hid hr2
      have HB2 := Lib.hid (S3.out.trans hb2)
      clear hap hr2 hb2
      go_wp2_with (at_builtin; refine wpList_append_run rfl _ _ _ _ rfl rfl rfl HAP.out ?_)
      go_meet
      exact ⟨_, _, _, rfl, by have := TM3.out; omega, HR2.out, HB2.out⟩
    · go_simp
      refine (CT.out _ (B0.out.trans (S0.out.mono B0.out.size))).mono ?_
      rintro e v4 ⟨T1, tm, tc, rfl, htm, htr, hb⟩
      have S4 := Lib.hid (S0.out.trans (hb.mono S0.out.size))
      have T4 := Lib.hid htr.sl
      have TM4 := Lib.hid htm
      refine hK _ _ S4.out ?_
      clear hK K hb htr htm
      refine HeadW_ready (rs := [5]) (by kernel_rfl) rfl rfl ?_
      refine AllW.cons rfl (fun K hK => ?_) AllW.nil
      go_simp
      have hb : Below v4.heap.size v4 (v4.alloc (.cells #[.string x1, .string r.id] 9)) := (Below.refl _ _).alloc (Nat.le_refl _) _
      have S5 := Lib.hid (S4.out.trans (hb.mono S4.out.size))
      have L5 := Lib.hid ((tr_two v4 x1 r.id).less S4.out.size)
      have T5 := Lib.hid ((T4.out.below hb).more hb.size)
      refine hK _ _ S5.out ?_
      clear hK K hb
      generalize v4.alloc (.cells #[.string x1, .string r.id] 9) = v5 at *
      intro _
      refine ⟨by kernel_rfl, ?_⟩
      simp only [List.drop_succ_cons, List.drop_zero]
      obtain ⟨B', d', w9, hap, hr2, hb2⟩ := L5.out.app T5.out (by have := TM4.out; omega) S5.out.size 59
      have HAP := Lib.hid hap
      have HR2 := Lib.hid hr2
      have HB2 := Lib.hid (S5.out.trans hb2)
      clear hap hr2 hb2
      go_wp2_with (at_builtin; refine wpList_append_run rfl _ _ _ _ rfl rfl rfl HAP.out ?_)
      go_meet
      exact ⟨_, _, _, rfl, by have := TM4.out; omega, HR2.out, HB2.out⟩
  case rest =>
    obtain ⟨B, m, d, rfl, hm4, htr, hb⟩ := hcut
    have q3 := (KO.out _ hb).2.2.2.1
    have KO4 := Lib.hid (fun (W : World) (hh : Below W1.heap.size W1 W) => (KO.out W hh).2.2.2.2)
    by_cases h0 : n2 = 0
    · have hz : ¬ (0 : Int) < (n2 : Int) := by omega
      have q4 := KO4.out _ hb
      have HRW : Hid (rw0 = [bl x1, bl r.id] ++ tgW r.tg ++ r.ob.map dutT) := by
        show rw0 = _
        rw [HE.out, HC0.out h0, List.append_nil]
      have HTX := Lib.hid htr
      have HMX := Lib.hid hm4
      have HBX := Lib.hid hb
      clear htr hb hm4 HE HC0 HCN
      go_wp2_with (first
        | (go_at_call 47
           refine (CD.out _ (B0.out.trans (HBX.out.mono B0.out.size))).mono ?_
           rintro e w5 ⟨D1, dd, rfl, hr5, hb5⟩
           have HB5 := Lib.hid (HBX.out.trans (hb5.mono HBX.out.size))
           obtain ⟨D2, d2, w6, hap, hr6, hb6⟩ := (HTX.out.below hb5).app hr5.sl (by have := HMX.out; have := HO8.out; omega) HB5.out.size 59
           have HAP2 := Lib.hid hap
           have HB6 := Lib.hid (HB5.out.trans hb6)
           have HJ := Lib.hid (join_row hr6.sl (Nat.le_refl _) (by have := HMX.out; have := HO8.out; omega) ⟨#[32]⟩ (by rw [← HRW.out]; exact HJL.out))
           rw [← HRW.out, ← HY.out] at HJ
           clear hap hr6 hb6 hr5 hb5)
        | (at_builtin; refine wpList_append_run rfl _ _ _ _ rfl rfl rfl HAP2.out ?_)
        | (go_at_call 24; refine HJ.out.mono ?_; rintro e w7 ⟨rfl, hb7⟩; have B7 := Lib.hid ((B0.out.trans (HB6.out.mono B0.out.size)).trans (hb7.mono (Nat.le_trans B0.out.size HB6.out.size))); clear hb7))
      go_ret
      refine ⟨ret_text ?_, B7.out⟩
      rw [← HR.out]
      simp [bl_app, bl_mka]
    · have hz : (0 : Int) < (n2 : Int) := by omega
      obtain ⟨z, hz1⟩ : ∃ z : ByteArray, z = ⟨(exprS r.cond).toArray⟩ := ⟨_, rfl⟩
      have HRW : Hid (rw0 = [bl x1, bl r.id] ++ tgW r.tg ++ [bl ⟨#[105, 102]⟩, bl z] ++ r.ob.map dutT) := by
        show rw0 = _
        rw [HE.out, condW_ne (HCN.out.resolve_left h0), hz1]; rfl
      rw [← hz1] at CX
      have HTY := Lib.hid htr
      have HMY := Lib.hid hm4
      have HBY := Lib.hid hb
      clear htr hb hm4 HE HC0 HCN hz1
      go_wp2_with (first
        | (go_at_call 13
           refine (CX.out _ (B0.out.trans (HBY.out.mono B0.out.size))).mono ?_
           rintro e w2 ⟨rfl, hb2⟩
           have HB2 := Lib.hid (HBY.out.trans (hb2.mono HBY.out.size))
           have hb3 : Below w2.heap.size w2 (w2.alloc (.cells #[.string ⟨#[105, 102]⟩, .string z] 9)) := (Below.refl _ _).alloc (Nat.le_refl _) _
           obtain ⟨D3, d3, w4, hap, hr4, hb4⟩ := ((HTY.out.below hb2).below hb3).app (tr_two w2 ⟨#[105, 102]⟩ z).sl (by have := HMY.out; omega) (Nat.le_trans HB2.out.size hb3.size) 59
           have HAP1 := Lib.hid hap
           have HBX := Lib.hid ((HB2.out.trans (hb3.mono HB2.out.size)).trans hb4)
           have HTX := Lib.hid hr4
           have HMX := Lib.hid (show m + 2 ≤ 6 from Nat.add_le_add_right HMY.out 2)
           have q4 := KO4.out _ HBX.out
           clear hap hr4 hb4 hb3 hb2)
        | (at_builtin; refine wpList_append_run rfl _ _ _ _ rfl rfl rfl HAP1.out ?_)
        | (go_at_call 47
           refine (CD.out _ (B0.out.trans (HBX.out.mono B0.out.size))).mono ?_
           rintro e w5 ⟨D1, dd, rfl, hr5, hb5⟩
           have HB5 := Lib.hid (HBX.out.trans (hb5.mono HBX.out.size))
           obtain ⟨D2, d2, w6, hap, hr6, hb6⟩ := (HTX.out.below hb5).app hr5.sl (by have := HMX.out; have := HO8.out; omega) HB5.out.size 59
           have HAP2 := Lib.hid hap
           have HB6 := Lib.hid (HB5.out.trans hb6)
           have HJ := Lib.hid (join_row hr6.sl (Nat.le_refl _) (by have := HMX.out; have := HO8.out; omega) ⟨#[32]⟩ (by rw [← HRW.out]; exact HJL.out))
           rw [← HRW.out, ← HY.out] at HJ
           clear hap hr6 hb6 hr5 hb5)
        | (at_builtin; refine wpList_append_run rfl _ _ _ _ rfl rfl rfl HAP2.out ?_)
        | (go_at_call 24; refine HJ.out.mono ?_; rintro e w7 ⟨rfl, hb7⟩; have B7 := Lib.hid ((B0.out.trans (HB6.out.mono B0.out.size)).trans (hb7.mono (Nat.le_trans B0.out.size HB6.out.size))); clear hb7))
      go_ret
      refine ⟨ret_text ?_, B7.out⟩
      rw [← HR.out]
      simp [bl_app, bl_mka]
end Go.Proofs.YtjpkemamfccfdaaGreatDoor
/- A policy's words (the project's). -/
namespace Go.Proofs.YtjpkemamfccfdaaGreatDoor
set_option linter.unusedVariables false
open Go.RowKit Go.Sort

theorem tr_ob {V : World} {g base : Nat} {x y z : ByteArray} (h : Ob V g 9 #[.string x, .string y, .string z]) (hb : base ≤ g) : TR V base (some ⟨g, 0, none⟩) 3 3 [bl x, bl y, bl z] := by
  unfold TR tv
  simp only [List.map_cons, List.map_nil, bl_toArray]
  exact ⟨rfl, .inr ⟨g, 3, _, rfl, hb, h, Nat.le_refl _, by unfold maxLen; omega, rfl, rfl⟩⟩
theorem only_down9 {g B : Nat} {w w' : World} (h : Only g w w') (hB : B ≤ g) (hw : g < w.heap.size) : Below B w w' := ⟨h.os, h.tape, h.output, h.size, fun k hk => h.heap (by omega) (by omega)⟩
theorem tr_at (w : World) (x : ByteArray) : TR (w.alloc (.cells #[.string x] 9)) w.heap.size (some ⟨w.heap.size, 0, none⟩) 1 1 [bl x] := TR.lit w [x] (n := 1) rfl (by omega)
theorem Rus.oks' {w : World} {R : Nat → Prop} {A : Option Addr} {n c : Nat} {l : List Rul} (h : Rus w R A n c l) : ∀ r ∈ l, r.oks := by
  intro a ha
  obtain ⟨j, hj, rfl⟩ := List.getElem_of_mem ha
  obtain ⟨b, o, r, A1, n1, c1, A2, n2, c2, A3, n3, c3, _, _, _, hx, _, _, h1, h2, _⟩ := h.at_ (j := j) (by have := Rw.len h; omega)
  rw [List.getElem?_eq_getElem hj] at hx
  injection hx with hx
  rw [hx]
  exact ⟨Tg.oks' h1, Rw.all h2⟩
theorem pls_oks : ∀ (d : Nat) {D : Nat} {w : World} {R : Nat → Prop} {A : Option Addr} {n c : Nat} {l : List Pol}, Pls w R D A n c l → ∀ k ∈ l, polOks d k
  | 0, _, _, _, _, _, _, _, _, _, _ => trivial
  | d + 1, _, _, _, _, _, _, l, h, k, hk => by
    obtain ⟨j, hj, rfl⟩ := List.getElem_of_mem hk
    obtain ⟨b, o, p, d', A1, n1, c1, A2, n2, c2, A3, n3, c3, A4, n4, c4, _, _, _, hx, _, _, _, h1, h2, h3, _⟩ := h.at_ (j := j) (by have := Rw.len h; omega)
    rw [List.getElem?_eq_getElem hj] at hx
    injection hx with hx
    rw [hx]
    exact ⟨Tg.oks' h1, Rus.oks' h2, pls_oks d h3⟩
theorem tail_flat {d : Nat} {l : List Pol} {k : Nat} {x : Pol} (hx : l[k]? = some x) : ((l.take (k + 1)).map (polW d)).flatten = ((l.take k).map (polW d)).flatten ++ polW d x := by
  rw [take_next hx, List.map_append, List.flatten_append]
  simp

def WdOk (d : Nat) : Prop := ∀ {w : World} {R : Nat → Prop} {D : Nat} {p : Pol} {s s' : Seen} {A1 A2 A3 A4 : Option Addr} {n1 c1 n2 c2 n3 c3 n4 c4 : Nat}, polS d p s = (0, s') → polOks d p → Tg w R A1 n1 c1 p.tg → Rus w R A2 n2 c2 p.rules → Pls w R D A3 n3 c3 p.kids → Dus w R A4 n4 c4 p.ob → Tbl w →
    Calls Tryz.prog 25 #[.agg #[.string p.id, .bool p.set, .int .i64 p.alg, .slice A1 n1 c1, .slice A2 n2 c2, .slice A3 n3 c3, .slice A4 n4 c4]] w fun e w' => ∃ B n c, e = .returned (.slice B n c) ∧ TR w' w.heap.size B n c (polW d p) ∧ Below w.heap.size w w'

set_option maxHeartbeats 12800000 in
set_option maxRecDepth 100000 in
theorem words_step (d : Nat) (hd : d ≤ 3) (ih : WdOk d) : WdOk (d + 1) := by
  intro w R D p s s' A1 A2 A3 A4 n1 c1 n2 c2 n3 c3 n4 c4 hp hok h1 h2 h3 h4 ht
  have hpl := polW_len (d + 1) hp hok
  obtain ⟨hid, hfit, htg, hob, ⟨h16, k16⟩, s1, s2, hs1, hr, hk⟩ := pol_parts hp
  obtain ⟨hok1, hok2, hok3⟩ := hok
  have hrf := rules_fine hr
  have hkf := kids_fine hk
  obtain ⟨halg, _, _⟩ := fits_all hfit
  have hN := wordsN_le (d := 3) (by omega)
  have hNd : wordsN d ≤ 10920 := by
    have : d = 0 ∨ d = 1 ∨ d = 2 ∨ d = 3 := by omega
    rcases this with rfl | rfl | rfl | rfl <;> decide
  have hkl := fun k hkk => (polW_len d (hkf k hkk).choose_spec.choose_spec (hok3 k hkk)).1
  have hl2 := Rw.len h2
  have hl3 := Rw.len h3
  have hl4 := Rw.len h4
  have ho8 := (obE_all hob).1
  have hle2 := Rw.le h2
  have hle3 := Rw.le h3
  have hcp2 := Rw.cap h2
  have hcp3 := Rw.cap h3
  unfold maxLen at hcp2 hcp3
  have HT : Hid (∀ W, Below w.heap.size w W → Tbl W) := fun W hb => ht.then_ hb
  have CT := Lib.hid (fun (W : World) (hb : Below w.heap.size w W) => show_target W (h1.keep (Kept.all hb R) (fun _ h _ => h)) htg (HT.out _ hb))
  have CD := Lib.hid (fun (W : World) (hb : Below w.heap.size w W) => texts_duty (h4.keep (Kept.all hb R) (fun _ h _ => h)) (by omega) (obE_all hob).2 (HT.out _ hb))
  have H2 := Lib.hid h2
  have H3 := Lib.hid h3
  have HRF := Lib.hid hrf
  have HKF := Lib.hid hkf
  have HKL := Lib.hid hkl
  have HK3 := Lib.hid hok3
  obtain ⟨x2, hx2⟩ : ∃ x : ByteArray, x = ⟨(algW p.alg).toArray⟩ := ⟨_, rfl⟩
  have HG : Hid (∀ W, Below w.heap.size w W → W.cell? ⟨1, p.alg.toNat, none⟩ = some (.string x2)) := fun W hb => by
    rw [hx2]; exact (HT.out _ hb).alg (by omega) (by omega)
  have hi : 0 ≤ p.alg ∧ p.alg < 7 := by omega
  have hid16 : p.id.size ≤ 16 := hid.1.2
  have HW : Hid (polW (d + 1) p = [headW p, bl p.id, bl x2] ++ tgW p.tg ++ [bl ⟨#[123]⟩] ++ p.rules.map rulT ++ (p.kids.map (polW d)).flatten ++ [bl ⟨#[125]⟩] ++ p.ob.map dutT) := by
    show polW (d + 1) p = _
    rw [hx2]
    simp [polW, bl_mka]
  have HHS : Hid (p.set = false → headW p = bl ⟨#[112, 111, 108, 105, 99, 121]⟩) := fun h => by unfold headW; rw [if_neg (by rw [h]; simp)]; rfl
  have HHT : Hid (p.set = true → headW p = bl ⟨#[115, 101, 116]⟩) := fun h => by unfold headW; rw [if_pos h]; rfl
  have HL2 := Lib.hid hl2
  have HL3 := Lib.hid hl3
  have HB16 := Lib.hid (show n2 ≤ 16 ∧ n3 ≤ 16 ∧ n4 ≤ 8 by omega)
  have HND := Lib.hid hNd
  generalize hhw : headW p = hw at *
  clear hpl hid hfit htg hob h16 k16 hs1 hr hk hok1 hok2 hok3 hrf hkf halg hN hNd hkl hl2 hl3 hl4 ho8 h1 h2 h3 h4 ht hp hx2 hhw
  obtain ⟨C0, hC0⟩ : ∃ C0 : Array Value, C0 = #[.string p.id, .bool p.set, .int .i64 p.alg, .slice A1 n1 c1, .slice A2 n2 c2, .slice A3 n3 c3, .slice A4 n4 c4] := ⟨_, rfl⟩
  have OB := Lib.hid (Ob.made w 28 C0)
  have B0 := Lib.hid (al9' w (.cells C0 28))
  have HSZ := Lib.hid (size_al w (.cells C0 28))
  go_enter Tryz.func25, Tryz.ntmps25
  go_upto_region 1 with fail
  rw [← hC0]
  generalize w.alloc (.cells C0 28) = W1 at *
  rw [hC0] at OB
  have KO : Hid (∀ W, Below W1.heap.size W1 W → W.cell? ⟨w.heap.size, 0, none⟩ = some (.string p.id) ∧ W.cell? ⟨w.heap.size, 1, none⟩ = some (.bool p.set) ∧ W.cell? ⟨w.heap.size, 2, none⟩ = some (.int .i64 p.alg) ∧ W.cell? ⟨w.heap.size, 3, none⟩ = some (.slice A1 n1 c1) ∧ W.cell? ⟨w.heap.size, 4, none⟩ = some (.slice A2 n2 c2) ∧ W.cell? ⟨w.heap.size, 5, none⟩ = some (.slice A3 n3 c3) ∧ W.cell? ⟨w.heap.size, 6, none⟩ = some (.slice A4 n4 c4)) := by
    show ∀ W, _ → _
    intro W hb
    have o := OB.out.below hb (by have := HSZ.out; omega)
    exact ⟨o.cell 0, o.cell 1, o.cell 2, o.cell 3, o.cell 4, o.cell 5, o.cell 6⟩
  clear hC0 OB
  have UP : Hid (∀ W, Below W1.heap.size W1 W → Below w.heap.size w W) := fun W hb => B0.out.trans (hb.mono B0.out.size)
  refine wp_region_held_tail (fun w' => Below W1.heap.size W1 w') 6 (by kernel_rfl) (by kernel_rfl) ?_
  intro G
  change HeadW _ _ _ _ _ _ _ _ _ _ (W1.drewN 1)
  have S0 := Lib.hid (below_drewN (Below.refl W1.heap.size W1) 1)
  generalize W1.drewN 1 = v0 at *
  refine HeadW_take (i := 0) (v := ?_) G rfl (by kernel_rfl) (by kernel_rfl) (by kernel_rfl) (fun _ _ _ h => h) (Or.inl ⟨by rfl, ?_⟩) S0.out ?_
  rotate_left
  · intro wz hS
    go_simp
    try with_reducible rfl
  refine HeadW_take (i := 1) (v := ?_) G rfl (by kernel_rfl) (by kernel_rfl) (by kernel_rfl) (fun _ _ _ h => h) (Or.inl ⟨by rfl, ?_⟩) S0.out ?_
  rotate_left
  · intro wz hS
    have hk1 := (KO.out _ hS).1
    go_simp
    try with_reducible rfl
  refine HeadW_take (i := 2) (v := ?_) G rfl (by kernel_rfl) (by kernel_rfl) (by kernel_rfl) (fun _ _ _ h => h) (Or.inl ⟨by rfl, ?_⟩) S0.out ?_
  rotate_left
  · intro wz hS
    go_simp
    try with_reducible rfl
  refine HeadW_take (i := 3) (v := ?_) G rfl (by kernel_rfl) (by kernel_rfl) (by kernel_rfl) (fun _ _ _ h => h) (Or.inl ⟨by rfl, ?_⟩) S0.out ?_
  rotate_left
  · intro wz hS
    have hk1 := (KO.out _ hS).2.2.1
    go_simp
    try with_reducible rfl
  refine HeadW_take (i := 4) (v := ?_) G rfl (by kernel_rfl) (by kernel_rfl) (by kernel_rfl) (fun _ _ _ h => h) (Or.inl ⟨by rfl, ?_⟩) S0.out ?_
  rotate_left
  · intro wz hS
    go_simp
    try with_reducible rfl
  refine HeadW_take (i := 5) (v := ?_) G rfl (by kernel_rfl) (by kernel_rfl) (by kernel_rfl) (fun _ _ _ h => h) (Or.inl ⟨by rfl, ?_⟩) S0.out ?_
  rotate_left
  · intro wz hS
    have hk1 := HG.out _ (UP.out _ hS)
    go_simp
    try with_reducible rfl
  intro _
  refine ⟨by kernel_rfl, ?_⟩
  simp only [List.drop_succ_cons, List.drop_zero]
  have q1 := (KO.out _ (S0.out.alloc S0.out.size (.cells #[.string ⟨#[112, 111, 108, 105, 99, 121]⟩, .string p.id, .string x2] 9))).2.1
  have OL := Lib.hid (Ob.made v0 9 #[.string ⟨#[112, 111, 108, 105, 99, 121]⟩, .string p.id, .string x2])
  have BL := Lib.hid (S0.out.alloc S0.out.size (.cells #[.string ⟨#[112, 111, 108, 105, 99, 121]⟩, .string p.id, .string x2] 9))
  have SL := Lib.hid S0.out.size
  go_upto_if 16 with fail
  generalize v0.alloc (.cells #[.string ⟨#[112, 111, 108, 105, 99, 121]⟩, .string p.id, .string x2] 9) = V at *
  generalize v0.heap.size = g at *
  go_cut [3] from 15 to 18 (fun s wx => ∃ B d, s = .slice B 3 d ∧ TR wx W1.heap.size B 3 d [hw, bl p.id, bl x2] ∧ Below W1.heap.size W1 wx)
  case first =>
    have l0 := OL.out.cell 0
    have f0 := OL.out.frozen 0
    cases hps : p.set
    · rw [hps] at q1
      go_wp2_with fail
      go_meet
      refine ⟨_, _, rfl, ?_, BL.out⟩
      rw [HHS.out hps]
      exact tr_ob OL.out SL.out
    · rw [hps] at q1
      go_wp2_with fail
      go_meet
      refine ⟨_, _, rfl, ?_, ?_⟩
      · rw [HHT.out hps]
        exact tr_ob (OL.out.put 0 (.string ⟨#[115, 101, 116]⟩)) SL.out
      · exact BL.out.trans (only_down9 (Only.refl.setCell (p := ⟨g, 0, none⟩) rfl _) SL.out OL.out.lt)
  case rest =>
    obtain ⟨B, dd, rfl, htr, hb⟩ := hcut
    have q3 := (KO.out _ hb).2.2.2.1
    have HTA := Lib.hid htr
    have HBA := Lib.hid hb
    clear htr hb OL BL SL S0
    go_wp2_with (first
      | (go_at_call 45
         refine (CT.out _ (UP.out _ HBA.out)).mono ?_
         rintro e w2 ⟨T1, tm, tc, rfl, htm, htt, hb2⟩
         have HB2 := Lib.hid (HBA.out.trans (hb2.mono HBA.out.size))
         obtain ⟨B3, d3, w3, hap, hr3, hb3⟩ := (HTA.out.below hb2).app htt.sl (by omega) HB2.out.size 59
         have HAP1 := Lib.hid hap
         have HB3 := Lib.hid (HB2.out.trans hb3)
         have HTM := Lib.hid htm
         have hb4 : Below w3.heap.size w3 (w3.alloc (.cells #[.string ⟨#[123]⟩] 9)) := (Below.refl _ _).alloc (Nat.le_refl _) _
         obtain ⟨B5, d5, w5, hap, hr5, hb5⟩ := hr3.push ⟨#[123]⟩ (by omega) HB3.out.size 59
         have HAP2 := Lib.hid hap
         have HB5 := Lib.hid (HB3.out.trans hb5)
         have HR5 := Lib.hid hr5
         have q4 := (KO.out _ HB5.out).2.2.2.2.1
         clear hap hr3 hr5 hb2 hb3 hb4 hb5 htt htm)
      | (at_builtin; refine wpList_append_run rfl _ _ _ _ rfl rfl rfl HAP1.out ?_)
      | (at_builtin; refine wpList_append_run rfl _ _ _ _ rfl rfl rfl HAP2.out ?_))
    have HM5 := Lib.hid (show 3 + tm + 1 ≤ 6 by have := HTM.out; omega)
    go_loopw [3, 29] (fun s i wr => ∃ (k m : Nat) (B : Option Addr) (e : Nat), k ≤ n2 ∧ m ≤ 6 + k ∧ s = .slice B m e ∧ i = .int .i64 k ∧ TR wr W1.heap.size B m e ([hw, bl p.id, bl x2] ++ tgW p.tg ++ [bl ⟨#[123]⟩] ++ (p.rules.take k).map rulT) ∧ Below W1.heap.size W1 wr) (fun _ i _ => n2 - (intOf i).toNat)
    case atStart => exact ⟨0, 3 + tm + 1, B5, d5, Nat.zero_le _, HM5.out, rfl, rfl, by rw [List.take_zero, List.map_nil, List.append_nil]; exact HR5.out, HB5.out⟩
    case round =>
      clear HTA HBA HR5 HB5 HB3 HB2 HAP1 HAP2 q3 q4
      obtain ⟨k, m, B, e, hk, hm, rfl, rfl, hr, hb⟩ := hrel
      have HR := Lib.hid hr
      have HB := Lib.hid hb
      have HMK := Lib.hid hm
      clear hr hb
      by_cases hlt : k < n2
      · obtain ⟨b, o, r, E1, m1, e1, E2, m2, e2, E3, m3, e3, rfl, hRb, hbl, hx, hid', ⟨z0, z1, z2, z3, z4⟩, t1, t2, t3⟩ := (H2.out.keep (Kept.all (UP.out _ HB.out) R) (fun _ h _ => h)).at_ hlt
        have HX := Lib.hid hx
        have HC := Lib.hid (fun (W : World) (hb : Below wr.heap.size wr W) => show_rule r W (t1.keep (Kept.all hb R) (fun _ h _ => h)) (t2.keep (Kept.all hb R) (fun _ h _ => h)) (t3.keep (Kept.all hb R) (fun _ h _ => h)) (HRF.out r (List.mem_of_getElem? hx)) (HT.out _ (UP.out _ (HB.out.trans (hb.mono HB.out.size)))))
        clear hx t1 t2 t3
        go_wp2_with (first
          | (go_at_call 46
             refine (HC.out _ (al9' _ _)).mono ?_
             rintro e w2 ⟨rfl, hb2⟩
             have HB2 := Lib.hid (HB.out.trans ((show Below wr.heap.size wr w2 from Below.lit hb2).mono HB.out.size))
             obtain ⟨B5, d5, w5, hap, hr5, hb5⟩ := (HR.out.below (show Below wr.heap.size wr w2 from Below.lit hb2)).push ⟨(rulT r).toArray⟩ (by have := HB16.out; omega) HB2.out.size 59
             have HAP := Lib.hid hap
             have HB5 := Lib.hid (HB2.out.trans hb5)
             have HR5 := Lib.hid hr5
             clear hap hr5 hb2 hb5)
          | (at_builtin; refine wpList_append_run rfl _ _ _ _ rfl rfl rfl HAP.out ?_))
        go_roundw
        case rel => exact ⟨k + 1, m + 1, B5, d5, by omega, by omega, rfl, by go_num, by rw [tail_take HX.out, ← List.append_assoc]; exact HR5.out, HB5.out⟩
        case measure => simp [intOf]; omega
      · obtain rfl : k = n2 := by omega
        have q5 := (KO.out _ HB.out).2.2.2.2.2.1
        have hrr := HR.out
        rw [List.take_of_length_le (by rw [HL2.out]; exact Nat.le_refl _)] at hrr
        have HR6 := Lib.hid hrr
        have HM6 := Lib.hid (show m ≤ 22 by have := HB16.out; have := HMK.out; omega)
        clear hrr HR hm
        go_wp2_with fail
        go_loopw [3, 42] (fun s i wr => ∃ (j m : Nat) (B : Option Addr) (e : Nat), j ≤ n3 ∧ m ≤ 22 + j * 10920 ∧ s = .slice B m e ∧ i = .int .i64 j ∧ TR wr W1.heap.size B m e ([hw, bl p.id, bl x2] ++ tgW p.tg ++ [bl ⟨#[123]⟩] ++ p.rules.map rulT ++ ((p.kids.take j).map (polW d)).flatten) ∧ Below W1.heap.size W1 wr) (fun _ i _ => n3 - (intOf i).toNat)
        case atStart => exact ⟨0, m, B, e, Nat.zero_le _, by have := HM6.out; omega, rfl, rfl, by rw [List.take_zero, List.map_nil, List.flatten_nil, List.append_nil]; exact HR6.out, HB.out⟩
        case round =>
          clear HR6 HB HM6 HMK q5
          obtain ⟨j, m', B', e', hj, hm', rfl, rfl, hr', hb'⟩ := hrel
          have HRJ := Lib.hid hr'
          have HBJ := Lib.hid hb'
          have HMJ := Lib.hid hm'
          clear hr' hb' hm'
          by_cases hlt : j < n3
          · obtain ⟨b, o, q, dd', E1, m1, e1, E2, m2, e2, E3, m3, e3, E4, m4, e4, rfl, hRb, hbl, hx, rfl, hid', ⟨z0, z1, z2, z3, z4, z5, z6⟩, t1, t2, t3, t4⟩ := (H3.out.keep (Kept.all (UP.out _ HBJ.out) R) (fun _ h _ => h)).at_ hlt
            have HX := Lib.hid hx
            have hmem := List.mem_of_getElem? hx
            obtain ⟨sa, sb, hsq⟩ := HKF.out q hmem
            have HC := Lib.hid (fun (W : World) (hb : Below wr.heap.size wr W) => ih (R := R) hsq (HK3.out q hmem) (t1.keep (Kept.all hb R) (fun _ h _ => h)) (t2.keep (Kept.all hb R) (fun _ h _ => h)) (t3.keep (Kept.all hb R) (fun _ h _ => h)) (t4.keep (Kept.all hb R) (fun _ h _ => h)) (HT.out _ (UP.out _ (HBJ.out.trans (hb.mono HBJ.out.size)))))
            have HQL := Lib.hid (HKL.out q hmem)
            clear hx t1 t2 t3 t4 hsq hmem
            go_wp2_with (first
              | (go_at_call 25
                 refine (HC.out _ (al9' _ _)).mono ?_
                 rintro e w2 ⟨F1, fm, fc, rfl, htt, hb2⟩
                 have HB2 := Lib.hid (HBJ.out.trans ((show Below wr.heap.size wr w2 from Below.lit hb2).mono HBJ.out.size))
                 have hfm : fm ≤ 10920 := by have := htt.len; have := HQL.out; have := HND.out; omega
                 have HFM := Lib.hid hfm
                 obtain ⟨B5, d5, w5, hap, hr5, hb5⟩ := (HRJ.out.below (show Below wr.heap.size wr w2 from Below.lit hb2)).app htt.sl (by have := HB16.out; have := HMJ.out; omega) HB2.out.size 59
                 have HAP := Lib.hid hap
                 have HB5 := Lib.hid (HB2.out.trans hb5)
                 have HR5 := Lib.hid hr5
                 clear hap hr5 hb2 hb5 htt hfm)
              | (at_builtin; refine wpList_append_run rfl _ _ _ _ rfl rfl rfl HAP.out ?_))
            go_roundw
            case rel => exact ⟨j + 1, m' + fm, B5, d5, by omega, by have := HMJ.out; have := HFM.out; omega, rfl, by go_num, by rw [tail_flat HX.out, ← List.append_assoc]; exact HR5.out, HB5.out⟩
            case measure => simp [intOf]; omega
          · obtain rfl : j = n3 := by omega
            have hrr := HRJ.out
            rw [List.take_of_length_le (by rw [HL3.out]; exact Nat.le_refl _)] at hrr
            have HR7 := Lib.hid hrr
            have HM7 := Lib.hid (show m' ≤ 200000 by have := HB16.out; have := HMJ.out; omega)
            clear hrr HRJ
            go_upto_region 15 with fail
            refine wp_region_held_tail (fun w' => Below W1.heap.size W1 w') 6 (by kernel_rfl) (by kernel_rfl) ?_
            intro G
            change HeadW _ _ _ _ _ _ _ _ _ _ (wr.drewN 1)
            have S1 := Lib.hid (below_drewN HBJ.out 1)
            have HR8 := Lib.hid (HR7.out.below (below_drewN (Below.refl wr.heap.size wr) 1))
            generalize wr.drewN 1 = v1 at *
            refine HeadW_take (i := 0) (v := ?_) G rfl (by kernel_rfl) (by kernel_rfl) (by kernel_rfl) (fun _ _ _ h => h) (Or.inl ⟨by rfl, ?_⟩) S1.out ?_
            rotate_left
            · intro wz hS
              go_simp
              try with_reducible rfl
            refine HeadW_take (i := 3) (v := ?_) G rfl (by kernel_rfl) (by kernel_rfl) (by kernel_rfl) (fun _ _ _ h => h) (Or.inl ⟨by rfl, ?_⟩) S1.out ?_
            rotate_left
            · intro wz hS
              go_simp
              try with_reducible rfl
            refine HeadW_take (i := 4) (v := ?_) G rfl (by kernel_rfl) (by kernel_rfl) (by kernel_rfl) (fun _ _ _ h => h) (Or.inl ⟨by rfl, ?_⟩) S1.out ?_
            rotate_left
            · intro wz hS
              have hk1 := (KO.out _ hS).2.2.2.2.2.2
              go_simp
              try with_reducible rfl
            refine HeadW_ready (rs := [1]) (by kernel_rfl) rfl rfl ?_
            refine AllW.cons rfl (fun K hK => ?_) AllW.nil
            go_simp
            refine hK _ _ (S1.out.alloc S1.out.size _) ?_
            clear hK K
            refine HeadW_ready (rs := [2]) (by kernel_rfl) rfl rfl ?_
            refine AllW.cons rfl (fun K hK => ?_) AllW.nil
            obtain ⟨B5, d5, w5, hap, hr5, hb5⟩ := HR8.out.push ⟨#[125]⟩ (by have := HM7.out; omega) S1.out.size 59
            refine step_append_run rfl (.tmp 51) (.tmp 52) _ _ rfl (by first | rfl | simp [Act.eval]) (by first | rfl | simp [Act.eval]) hap ?_
            have S2 := Lib.hid (S1.out.trans hb5)
            have HR9 := Lib.hid hr5
            refine hK _ _ S2.out ?_
            clear hK K hap hb5 hr5
            refine HeadW_ready (rs := [5]) (by kernel_rfl) rfl rfl ?_
            refine AllW.cons rfl (fun K hK => ?_) AllW.nil
            go_simp
            refine (CD.out _ (UP.out _ S2.out)).mono ?_
            rintro e w6 ⟨F1, fc, rfl, htt, hb6⟩
            have S3 := Lib.hid (S2.out.trans (hb6.mono S2.out.size))
            have HRA := Lib.hid (HR9.out.below hb6)
            have HTT := Lib.hid htt.sl
            refine hK _ _ S3.out ?_
            clear hK K hb6 htt
            intro _
            refine ⟨by kernel_rfl, ?_⟩
            simp only [List.drop_succ_cons, List.drop_zero]
            obtain ⟨B7, d7, w7, hap, hr7, hb7⟩ := HRA.out.app HTT.out (by have := HM7.out; have := HB16.out; omega) S3.out.size 59
            have HAP := Lib.hid hap
            have HRB := Lib.hid hr7
            have HBB := Lib.hid (S3.out.trans hb7)
            clear hap hr7 hb7
            go_wp2_with (at_builtin; refine wpList_append_run rfl _ _ _ _ rfl rfl rfl HAP.out ?_)
            go_ret
            exact ⟨_, _, _, rfl, by rw [HW.out]; exact HRB.out.less B0.out.size, UP.out _ HBB.out⟩
theorem words_all : ∀ d, d ≤ 4 → WdOk d
  | 0, _ => fun h => by simp [polS] at h
  | d + 1, hd => words_step d (by omega) (words_all d (by omega))
end Go.Proofs.YtjpkemamfccfdaaGreatDoor
/- A policy's text (the project's). -/
namespace Go.Proofs.YtjpkemamfccfdaaGreatDoor
set_option linter.unusedVariables false
open Go.RowKit Go.Sort

theorem showP_right {p : Pol} (h : rightE p = 0) : showP p = polT p := by unfold showP; rw [if_pos h]
theorem showP_wrong {p : Pol} (h : rightE p ≠ 0) : showP p = [] := by unfold showP; rw [if_neg h]
theorem PolIn.oks {w : World} {R : Nat → Prop} {p : Pol} {A1 A2 A3 A4 : Option Addr} {n1 k1 n2 k2 n3 k3 n4 k4 : Nat} (h : PolIn w R p A1 n1 k1 A2 n2 k2 A3 n3 k3 A4 n4 k4) : ∀ d, polOks d p
  | 0 => trivial
  | d + 1 => by
    obtain ⟨_, h1, h2, ⟨m, h3⟩, _⟩ := h
    exact ⟨Tg.oks' h1, Rus.oks' h2, pls_oks d h3⟩
set_option maxHeartbeats 1600000 in
theorem show_pol {w : World} {R : Nat → Prop} {p : Pol} {A1 A2 A3 A4 : Option Addr} {n1 k1 n2 k2 n3 k3 n4 k4 : Nat} (h : PolIn w R p A1 n1 k1 A2 n2 k2 A3 n3 k3 A4 n4 k4) (ht : Tbl w) :
    Calls Tryz.prog 11 #[.agg #[.string p.id, .bool p.set, .int .i64 p.alg, .slice A1 n1 k1, .slice A2 n2 k2, .slice A3 n3 k3, .slice A4 n4 k4]] w
      fun e w' => e = .returned (.string ⟨(showP p).toArray⟩) ∧ Below w.heap.size w w' := by
  have hb0 : Below w.heap.size w (w.alloc (.cells #[.string p.id, .bool p.set, .int .i64 p.alg, .slice A1 n1 k1, .slice A2 n2 k2, .slice A3 n3 k3, .slice A4 n4 k4] 28)) := al9' _ _
  have h' := h.then_ hb0
  have ht' := ht.then_ hb0
  have hcon := right_pol h'
  have OB := Lib.hid (Ob.made w 28 #[.string p.id, .bool p.set, .int .i64 p.alg, .slice A1 n1 k1, .slice A2 n2 k2, .slice A3 n3 k3, .slice A4 n4 k4])
  have B0 := Lib.hid hb0
  by_cases hr : rightE p = 0
  · have e0 : polS 4 p ⟨[], 0⟩ = (0, (polS 4 p ⟨[], 0⟩).2) := by unfold rightE at hr; rw [← hr]
    have hok := h.oks 4
    have hlen := polT_len hr hok
    have hwl := (polW_len 4 e0 hok).1
    rw [wordsN_4] at hwl
    have CW : Hid (∀ W, Below (w.alloc (.cells #[.string p.id, .bool p.set, .int .i64 p.alg, .slice A1 n1 k1, .slice A2 n2 k2, .slice A3 n3 k3, .slice A4 n4 k4] 28)).heap.size (w.alloc (.cells #[.string p.id, .bool p.set, .int .i64 p.alg, .slice A1 n1 k1, .slice A2 n2 k2, .slice A3 n3 k3, .slice A4 n4 k4] 28)) W → Calls Tryz.prog 25 #[.agg #[.string p.id, .bool p.set, .int .i64 p.alg, .slice A1 n1 k1, .slice A2 n2 k2, .slice A3 n3 k3, .slice A4 n4 k4]] W fun e w' => ∃ B n c, e = .returned (.slice B n c) ∧ TR w' W.heap.size B n c (polW 4 p) ∧ Below W.heap.size W w') := fun W hb => by
      obtain ⟨_, h1, h2, ⟨m, h3⟩, h4⟩ := h'.then_ hb
      exact words_all 4 (Nat.le_refl _) e0 hok h1 h2 h3 h4 (ht'.then_ hb)
    have HWL := Lib.hid hwl
    have HJL : Hid ((Lib.join (polW 4 p) (bl ⟨#[32]⟩)).length ≤ 140737488355328) := Nat.le_trans hlen (by omega)
    have HE : Hid (showP p = Lib.join (polW 4 p) (bl ⟨#[32]⟩)) := showP_right hr
    rw [hr] at hcon
    have HC := Lib.hid hcon
    generalize polW 4 p = pw at *
    generalize showP p = sp at *
    clear hcon h h' ht ht' hb0 e0 hok hlen hwl hr
    go_enter Tryz.func11, Tryz.ntmps11
    go_wp2_with (first
      | (go_at_call 23; refine HC.out.mono ?_; rintro e w1 ⟨rfl, hb1⟩; have B1 := Lib.hid hb1; have O1 := Lib.hid (OB.out.below hb1 OB.out.lt); have c0 := O1.out.cell 0; have c1 := O1.out.cell 1; have c2 := O1.out.cell 2; have c3 := O1.out.cell 3; have c4 := O1.out.cell 4; have c5 := O1.out.cell 5; have c6 := O1.out.cell 6; clear hb1)
      | (go_at_call 25
         refine (CW.out _ B1.out).mono ?_
         rintro e w2 ⟨B, m, d, rfl, hr2, hb2⟩
         have B2 := Lib.hid (below_step B1.out hb2)
         have hm : m ≤ 1000000 := by have := hr2.len; have := HWL.out; omega
         have HJ := Lib.hid (join_row hr2.sl (Nat.le_refl _) hm ⟨#[32]⟩ HJL.out)
         clear hr2 hb2 hm)
      | (go_at_call 24; refine HJ.out.mono ?_; rintro e w3 ⟨rfl, hb3⟩; have B3 := Lib.hid (below_step B2.out hb3)))
    go_ret
    exact ⟨by rw [HE.out]; rfl, B0.out.trans (B3.out.mono B0.out.size)⟩
  · have HE : Hid (showP p = []) := showP_wrong hr
    obtain ⟨q, hq⟩ : ∃ q, q = rightE p := ⟨_, rfl⟩
    rw [← hq] at hcon hr
    have hne : (q != 0) = true := by simpa using hr
    have HC := Lib.hid hcon
    generalize showP p = sp at *
    clear hcon h h' ht ht' hb0 hr hq
    go_enter Tryz.func11, Tryz.ntmps11
    go_wp2_with (go_at_call 23; refine HC.out.mono ?_; rintro e w1 ⟨rfl, hb1⟩; have B1 := Lib.hid hb1)
    go_ret
    exact ⟨ret_text (by rw [HE.out]; rfl), B0.out.trans (B1.out.mono B0.out.size)⟩
end Go.Proofs.YtjpkemamfccfdaaGreatDoor
/- The reference's text of a policy. -/
namespace Go.Proofs.YtjpkemamfccfdaaGreatDoor
set_option linter.unusedVariables false
set_option linter.unusedSimpArgs false
open Go.RowKit Go.Sort

theorem polW_ne {d : Nat} {p : Pol} {s s' : Seen} (h : polS d p s = (0, s')) : polW d p ≠ [] := by
  cases d with
  | zero => simp [polS] at h
  | succ d => simp [polW]
theorem sp_ne {xs : List (List UInt8)} (h : xs ≠ []) : sp xs = 32 :: Lib.join xs [32] := by
  obtain ⟨y, r, rfl⟩ := List.exists_cons_of_ne_nil h
  rw [sp_cons, join_sp]
theorem sp_le {B C N : Nat} (xs : List (List UInt8)) (h : ∀ x ∈ xs, x.length ≤ B) (hn : xs.length ≤ N) (hC : N * (B + 1) ≤ C) : (sp xs).length ≤ C := Nat.le_trans (sp_len xs h) (Nat.le_trans (Nat.mul_le_mul_right _ hn) hC)
theorem condW_sp {l : List Nod} (hf : exprE l = 0) : sp (condW l) = if l = [] then [] else [32, 105, 102, 32] ++ exprT l := by
  unfold condW
  by_cases h : l = []
  · rw [if_pos h, if_pos h]; rfl
  · rw [if_neg h, if_neg h, sp_cons, sp_one]
    unfold exprS
    rw [if_pos ⟨h, hf⟩]
    simp
theorem rs_sized {l : List UInt8} {n : Nat} (h : l.length ≤ n) : ∃ x : ByteArray, (⟨l.toArray⟩ : ByteArray) = x ∧ bl x = l ∧ x.size ≤ n := ⟨_, rfl, by simp [bl_mka], word_size h⟩

def RShOk (d : Nat) : Prop := ∀ {w : World} {R : Nat → Prop} {D : Nat} {p : Pol} {s s' : Seen} {A1 A2 A3 A4 : Option Addr} {n1 c1 n2 c2 n3 c3 n4 c4 : Nat}, polS d p s = (0, s') → polOks d p → Tg w R A1 n1 c1 p.tg → Rus w R A2 n2 c2 p.rules → Pls w R D A3 n3 c3 p.kids → Dus w R A4 n4 c4 p.ob →
    Calls Tryz.prog 27 #[.agg #[.string p.id, .bool p.set, .int .i64 p.alg, .slice A1 n1 c1, .slice A2 n2 c2, .slice A3 n3 c3, .slice A4 n4 c4]] w fun e w' => e = .returned (.string ⟨(Lib.join (polW d p) [32]).toArray⟩) ∧ Below w.heap.size w w'

set_option maxHeartbeats 25600000 in
set_option maxRecDepth 100000 in
theorem rshow_step (d : Nat) (hd : d ≤ 3) (ih : RShOk d) : RShOk (d + 1) := by
  intro w R D p s s' A1 A2 A3 A4 n1 c1 n2 c2 n3 c3 n4 c4 hp hok h1 h2 h3 h4
  obtain ⟨hid, hfit, htg, hob, ⟨h16, k16⟩, s1, s2, hs1, hr, hk⟩ := pol_parts hp
  obtain ⟨hok1, hok2, hok3⟩ := hok
  have hrf := rules_fine hr
  have hkf := kids_fine hk
  have hNd : wordsN d ≤ 10920 := by
    have : d = 0 ∨ d = 1 ∨ d = 2 ∨ d = 3 := by omega
    rcases this with rfl | rfl | rfl | rfl <;> decide
  have hkl := fun k hkk => polW_len d (hkf k hkk).choose_spec.choose_spec (hok3 k hkk)
  have hl2 := Rw.len h2
  have hl3 := Rw.len h3
  have hl4 := Rw.len h4
  have ho8 := (obE_all hob).1
  have hle2 := Rw.le h2
  have hle3 := Rw.le h3
  have hcp2 := Rw.cap h2
  have hcp3 := Rw.cap h3
  unfold maxLen at hcp2 hcp3
  have hid16 : p.id.size ≤ 16 := hid.1.2
  obtain ⟨xt, ext, bxt, hxt⟩ := rs_sized (l := sp (tgW p.tg)) (n := 700000) (sp_le _ (tgW_len htg hok1).2 (tgW_len htg hok1).1 (by omega))
  obtain ⟨xd, exd, bxd, hxd⟩ := rs_sized (l := sp (p.ob.map dutT)) (n := 1000) (sp_le (B := 100) (N := 8) _ (fun x hx => by obtain ⟨o, ho, rfl⟩ := List.mem_map.1 hx; exact dut_len ((obE_all hob).2 o ho)) (by rw [List.length_map]; exact ho8) (by omega))
  obtain ⟨xa, exa, bxa, hxa⟩ := rs_sized (algW_len p.alg)
  have CT := Lib.hid (fun (W : World) (hb : Below w.heap.size w W) => show Calls Tryz.prog 51 #[.slice A1 n1 c1] W (fun e w' => e = .returned (.string xt) ∧ Below W.heap.size W w') by rw [← ext]; exact rshowtgt_any W (h1.keep (Kept.all hb R) (fun _ h _ => h)) htg)
  have CD := Lib.hid (fun (W : World) (hb : Below w.heap.size w W) => show Calls Tryz.prog 52 #[.slice A4 n4 c4] W (fun e w' => e = .returned (.string xd) ∧ Below W.heap.size W w') by rw [← exd]; exact robls_any (h4.keep (Kept.all hb R) (fun _ h _ => h)) (by omega) (obE_all hob).2)
  have CA := Lib.hid (fun (W : World) => show Calls Tryz.prog 50 #[.int .i64 p.alg] W (fun e w' => e = .returned (.string xa) ∧ w' = W) by rw [← exa]; exact ralg_any p.alg W)
  obtain ⟨hw, ehw⟩ : ∃ x : ByteArray, x = if p.set = true then ⟨#[115, 101, 116, 32]⟩ else ⟨#[112, 111, 108, 105, 99, 121, 32]⟩ := ⟨_, rfl⟩
  have bhw : bl hw = headW p ++ [32] := by rw [ehw]; unfold headW; split <;> rfl
  have hhw : hw.size ≤ 7 := by rw [ehw]; split <;> decide
  obtain ⟨s0, hs0⟩ : ∃ x : ByteArray, x = hw ++ p.id ++ ⟨#[32]⟩ ++ xa ++ xt ++ ⟨#[32, 123]⟩ := ⟨_, rfl⟩
  have hss0 : s0.size ≤ 800000 := by
    rw [hs0]
    have e1 : (⟨#[32]⟩ : ByteArray).size = 1 := rfl
    have e2 : (⟨#[32, 123]⟩ : ByteArray).size = 2 := rfl
    simp only [ByteArray.size_append]
    omega
  have HJ : Hid (Lib.join (polW (d + 1) p) [32] = bl s0 ++ sp (p.rules.map rulT) ++ sp (p.kids.map (polW d)).flatten ++ [32, 125] ++ bl xd) := by
    show _ = _
    rw [hs0, bxd]
    simp only [polW, join_sp, sp_cons, sp_app, sp_one, bl_app, bl_mka, bhw, bxa, bxt]
    simp [sp_cons, sp_app, sp_nil, sp_one]
  have H2 := Lib.hid h2
  have H3 := Lib.hid h3
  have HRF := Lib.hid hrf
  have HRO := Lib.hid hok2
  have HKF := Lib.hid hkf
  have HKL := Lib.hid hkl
  have HK3 := Lib.hid hok3
  have HL2 := Lib.hid hl2
  have HL3 := Lib.hid hl3
  have HND := Lib.hid hNd
  have HB16 := Lib.hid (show n2 ≤ 16 ∧ n3 ≤ 16 ∧ n4 ≤ 8 by omega)
  have HS0 := Lib.hid hs0
  have hn16 : n2 ≤ 16 := by omega
  have hn16' : n3 ≤ 16 := by omega
  clear hid hfit htg hob h16 k16 hs1 hr hk hok1 hok2 hok3 hrf hkf hNd hkl hl2 hl3 hl4 ho8 h1 h2 h3 h4 hp bhw bxt bxd bxa ext exd exa hs0
  generalize Lib.join (polW (d + 1) p) [32] = res at *
  obtain ⟨C0, hC0⟩ : ∃ C0 : Array Value, C0 = #[.string p.id, .bool p.set, .int .i64 p.alg, .slice A1 n1 c1, .slice A2 n2 c2, .slice A3 n3 c3, .slice A4 n4 c4] := ⟨_, rfl⟩
  have OB := Lib.hid (Ob.made w 28 C0)
  have B0 := Lib.hid (al9' w (.cells C0 28))
  have HSZ := Lib.hid (size_al w (.cells C0 28))
  go_enter Tryz.func27, Tryz.ntmps27
  go_upto_region 1 with fail
  rw [← hC0]
  generalize w.alloc (.cells C0 28) = W1 at *
  rw [hC0] at OB
  have KO : Hid (∀ W, Below W1.heap.size W1 W → W.cell? ⟨w.heap.size, 0, none⟩ = some (.string p.id) ∧ W.cell? ⟨w.heap.size, 1, none⟩ = some (.bool p.set) ∧ W.cell? ⟨w.heap.size, 2, none⟩ = some (.int .i64 p.alg) ∧ W.cell? ⟨w.heap.size, 3, none⟩ = some (.slice A1 n1 c1) ∧ W.cell? ⟨w.heap.size, 4, none⟩ = some (.slice A2 n2 c2) ∧ W.cell? ⟨w.heap.size, 5, none⟩ = some (.slice A3 n3 c3) ∧ W.cell? ⟨w.heap.size, 6, none⟩ = some (.slice A4 n4 c4)) := by
    show ∀ W, _ → _
    intro W hb
    have o := OB.out.below hb (by have := HSZ.out; omega)
    exact ⟨o.cell 0, o.cell 1, o.cell 2, o.cell 3, o.cell 4, o.cell 5, o.cell 6⟩
  clear hC0 OB
  have UP : Hid (∀ W, Below W1.heap.size W1 W → Below w.heap.size w W) := fun W hb => B0.out.trans (hb.mono B0.out.size)
  have q1 := (KO.out _ (Below.refl _ _)).2.1
  go_upto_if 10 with fail
  go_cut [3] from 9 to 10 (fun u wx => u = .string hw ∧ wx = W1)
  case first =>
    cases hps : p.set
    · rw [hps] at q1 ehw
      subst ehw
      go_wp2_with fail
      go_meet
      case rel => exact ⟨rfl, rfl⟩
    · rw [hps] at q1 ehw
      subst ehw
      go_wp2_with fail
      go_meet
      case rel => exact ⟨rfl, rfl⟩
  case rest =>
  obtain ⟨rfl, rfl⟩ := hcut
  obtain ⟨W1, hW1⟩ : ∃ W1, W1 = wc := ⟨wc, rfl⟩
  subst hW1
  clear q1 ehw
  go_upto_region 4 with fail
  refine wp_region_held_tail (fun w' => Below W1.heap.size W1 w') 14 (by kernel_rfl) (by kernel_rfl) ?_
  intro G
  change HeadW _ _ _ _ _ _ _ _ _ _ (W1.drewN 1)
  have S := Lib.hid (below_drewN (Below.refl W1.heap.size W1) 1)
  generalize W1.drewN 1 = y0 at *
  refine HeadW_take (i := 0) (v := ?_) G rfl (by kernel_rfl) (by kernel_rfl) (by kernel_rfl) (fun _ _ _ h => h) (Or.inl ⟨by rfl, ?_⟩) S.out ?_
  rotate_left
  · intro wz hS
    go_simp
    try with_reducible rfl
  refine HeadW_take (i := 1) (v := ?_) G rfl (by kernel_rfl) (by kernel_rfl) (by kernel_rfl) (fun _ _ _ h => h) (Or.inl ⟨by rfl, ?_⟩) S.out ?_
  rotate_left
  · intro wz hS
    go_simp
    try with_reducible rfl
  refine HeadW_take (i := 2) (v := ?_) G rfl (by kernel_rfl) (by kernel_rfl) (by kernel_rfl) (fun _ _ _ h => h) (Or.inl ⟨by rfl, ?_⟩) S.out ?_
  rotate_left
  · intro wz hS
    have k0 := (KO.out _ hS).1
    go_simp
    try with_reducible rfl
  refine HeadW_take (i := 3) (v := .string (hw ++ p.id)) G rfl (by kernel_rfl) (by kernel_rfl) (by kernel_rfl) (fun _ _ _ h => h) (Or.inl ⟨by rfl, ?_⟩) S.out ?_
  · intro wz hS
    go_simp
    try omega
  refine HeadW_take (i := 4) (v := .string (hw ++ p.id ++ ⟨#[32]⟩)) G rfl (by kernel_rfl) (by kernel_rfl) (by kernel_rfl) (fun _ _ _ h => h) (Or.inl ⟨by rfl, ?_⟩) S.out ?_
  · intro wz hS
    go_simp
    try omega
  refine HeadW_take (i := 5) (v := ?_) G rfl (by kernel_rfl) (by kernel_rfl) (by kernel_rfl) (fun _ _ _ h => h) (Or.inl ⟨by rfl, ?_⟩) S.out ?_
  rotate_left
  · intro wz hS
    go_simp
    try with_reducible rfl
  refine HeadW_take (i := 6) (v := ?_) G rfl (by kernel_rfl) (by kernel_rfl) (by kernel_rfl) (fun _ _ _ h => h) (Or.inl ⟨by rfl, ?_⟩) S.out ?_
  rotate_left
  · intro wz hS
    have k0 := (KO.out _ hS).2.2.1
    go_simp
    try with_reducible rfl
  refine HeadW_take (i := 9) (v := ?_) G rfl (by kernel_rfl) (by kernel_rfl) (by kernel_rfl) (fun _ _ _ h => h) (Or.inl ⟨by rfl, ?_⟩) S.out ?_
  rotate_left
  · intro wz hS
    go_simp
    try with_reducible rfl
  refine HeadW_take (i := 10) (v := ?_) G rfl (by kernel_rfl) (by kernel_rfl) (by kernel_rfl) (fun _ _ _ h => h) (Or.inl ⟨by rfl, ?_⟩) S.out ?_
  rotate_left
  · intro wz hS
    have k0 := (KO.out _ hS).2.2.2.1
    go_simp
    try with_reducible rfl
  refine HeadW_ready (rs := [7]) (by kernel_rfl) rfl rfl ?_
  refine AllW.cons rfl (fun K hK => ?_) AllW.nil
  try go_simp
  refine (CA.out _).mono ?_
  rintro e yy ⟨rfl, rfl⟩
  refine hK _ _ S.out ?_
  clear hK K
  refine HeadW_take (i := 8) (v := .string (hw ++ p.id ++ ⟨#[32]⟩ ++ xa)) G rfl (by kernel_rfl) (by kernel_rfl) (by kernel_rfl) (fun _ _ _ h => h) (Or.inl ⟨by rfl, ?_⟩) S.out ?_
  · intro wz hS
    go_simp
    try omega
  refine HeadW_ready (rs := [11]) (by kernel_rfl) rfl rfl ?_
  refine AllW.cons rfl (fun K hK => ?_) AllW.nil
  go_simp
  refine (CT.out _ (UP.out _ S.out)).mono ?_
  rintro e y1 ⟨rfl, hb⟩
  have S := Lib.hid (S.out.trans (hb.mono S.out.size))
  refine hK _ _ S.out ?_
  clear hK K hb
  refine HeadW_take (i := 12) (v := .string (hw ++ p.id ++ ⟨#[32]⟩ ++ xa ++ xt)) G rfl (by kernel_rfl) (by kernel_rfl) (by kernel_rfl) (fun _ _ _ h => h) (Or.inl ⟨by rfl, ?_⟩) S.out ?_
  · intro wz hS
    go_simp
    try omega
  refine HeadW_take (i := 13) (v := .string (hw ++ p.id ++ ⟨#[32]⟩ ++ xa ++ xt ++ ⟨#[32, 123]⟩)) G rfl (by kernel_rfl) (by kernel_rfl) (by kernel_rfl) (fun _ _ _ h => h) (Or.inl ⟨by rfl, ?_⟩) S.out ?_
  · intro wz hS
    go_simp
    try omega
  intro _
  refine ⟨by kernel_rfl, ?_⟩
  simp only [List.drop_succ_cons, List.drop_zero]
  rw [← HS0.out]
  have q5 := (KO.out _ S.out).2.2.2.2.1
  have HBA := Lib.hid S.out
  go_wp2_with fail
  go_loopw [3, 28] (fun o i wr => ∃ (k : Nat) (s : ByteArray), k ≤ n2 ∧ i = .int .i64 k ∧ o = .string s ∧ bl s = bl s0 ++ sp ((p.rules.take k).map rulT) ∧ Below W1.heap.size W1 wr) (fun _ i _ => n2 - (intOf i).toNat)
  case atStart => exact ⟨0, s0, Nat.zero_le _, rfl, rfl, by simp [sp_nil], HBA.out⟩
  case round =>
    clear q5 HBA S
    obtain ⟨k, s, hk, rfl, rfl, hs, hb⟩ := hrel
    have HSX := Lib.hid hs
    have HB := Lib.hid hb
    have hss : s.size ≤ 90000000 := by
      rw [← size_bl, hs, List.length_append, size_bl]
      have := sp_le (B := 5000000) (N := 16) (C := 16 * 5000001) ((p.rules.take k).map rulT) (fun x hx => by
        obtain ⟨o, ho, rfl⟩ := List.mem_map.1 hx
        exact rul_len (HRF.out o (List.mem_of_mem_take ho)) (HRO.out o (List.mem_of_mem_take ho))) (by rw [List.length_map, List.length_take]; omega) (Nat.le_refl _)
      omega
    clear hs hb
    by_cases hlt : k < n2
    case pos =>
      obtain ⟨b, o, r, E1, m1, e1, E2, m2, e2, E3, m3, e3, rfl, hRb, hbl, hx, hid', ⟨z0, z1, z2, z3, z4⟩, t1, t2, t3⟩ := (H2.out.keep (Kept.all (UP.out _ HB.out) R) (fun _ h _ => h)).at_ hlt
      have HX := Lib.hid hx
      obtain ⟨hnm, htg, hce, hob⟩ := HRF.out r (List.mem_of_getElem? hx)
      obtain ⟨hk1, hk2⟩ := HRO.out r (List.mem_of_getElem? hx)
      have hrid : r.id.size ≤ 16 := hnm.1.2
      have hm2 := Rw.len t2
      have hm3 := Rw.len t3
      have ho8 := (obE_all hob).1
      obtain ⟨yt, eyt, byt, hyt⟩ := rs_sized (l := sp (tgW r.tg)) (n := 700000) (sp_le _ (tgW_len htg hk1).2 (tgW_len htg hk1).1 (by omega))
      obtain ⟨yd, eyd, byd, hyd⟩ := rs_sized (l := sp (r.ob.map dutT)) (n := 1000) (sp_le (B := 100) (N := 8) _ (fun x hx => by obtain ⟨o, ho, rfl⟩ := List.mem_map.1 hx; exact dut_len ((obE_all hob).2 o ho)) (by rw [List.length_map]; exact ho8) (by omega))
      have DT := Lib.hid (fun (W : World) (hb : Below wr.heap.size wr W) => show Calls Tryz.prog 51 #[.slice E1 m1 e1] W (fun e w' => e = .returned (.string yt) ∧ Below W.heap.size W w') by rw [← eyt]; exact rshowtgt_any W (t1.keep (Kept.all hb R) (fun _ h _ => h)) htg)
      have DD := Lib.hid (fun (W : World) (hb : Below wr.heap.size wr W) => show Calls Tryz.prog 52 #[.slice E3 m3 e3] W (fun e w' => e = .returned (.string yd) ∧ Below W.heap.size W w') by rw [← eyd]; exact robls_any (t3.keep (Kept.all hb R) (fun _ h _ => h)) (by omega) (obE_all hob).2)
      have DX := Lib.hid (fun (hne : r.cond ≠ []) => show ∃ ye : ByteArray, bl ye = exprT r.cond ∧ ye.size ≤ 14000 ∧ ∀ (W : World) (hb : Below wr.heap.size wr W), Calls Tryz.prog 7 #[.slice E2 m2 e2] W (fun e w' => e = .returned (.string ye) ∧ Below W.heap.size W w') by
        have hel := expr_len hce hk2
        unfold exprS at hel
        rw [if_pos ⟨hne, hce⟩] at hel
        obtain ⟨ye, eye, bye, hye⟩ := rs_sized hel
        exact ⟨ye, bye, hye, fun W hb => by rw [← eye]; exact rshowexpr_any W (t2.keep (Kept.all hb R) (fun _ h _ => h)) hce hne⟩)
      obtain ⟨es, ees⟩ : ∃ x : ByteArray, x = if r.deny = true then ⟨#[32, 100, 101, 110, 121, 32]⟩ else ⟨#[32, 112, 101, 114, 109, 105, 116, 32]⟩ := ⟨_, rfl⟩
      have bes : bl es = 32 :: (effW r.deny ++ [32]) := by rw [ees]; unfold effW; split <;> rfl
      have hes : es.size ≤ 8 := by rw [ees]; split <;> decide
      have HNEW : Hid (bl s0 ++ sp ((p.rules.take (k + 1)).map rulT) = bl s ++ (bl es ++ (bl r.id ++ (bl yt ++ (sp (condW r.cond) ++ (bl yd ++ [59])))))) := by
        show _ = _
        rw [tail_take hx, sp_app, ← List.append_assoc, ← HSX.out, sp_one, bes, byt, byd]
        unfold rulT rulW
        simp [join_sp, sp_cons, sp_app]
      have HCW := Lib.hid (condW_sp hce)
      have HM2 := Lib.hid hm2
      have hle := Rw.le t2
      have hcp := Rw.cap t2
      unfold maxLen at hcp
      obtain ⟨C1, hC1⟩ : ∃ C1 : Array Value, C1 = #[.string r.id, .bool r.deny, .slice E1 m1 e1, .slice E2 m2 e2, .slice E3 m3 e3] := ⟨_, rfl⟩
      have OR := Lib.hid (Ob.made wr 54 C1)
      have BR := Lib.hid (al9' wr (.cells C1 54))
      have HSR := Lib.hid (size_al wr (.cells C1 54))
      clear hx hnm htg hce hob hk1 hk2 hm2 hm3 ho8 t1 t2 t3 eyt eyd byt byd bes
      go_upto_region 8 with fail
      rw [← hC1]
      generalize wr.alloc (.cells C1 54) = V1 at *
      rw [hC1] at OR
      have KR : Hid (∀ W, Below V1.heap.size V1 W → W.cell? ⟨wr.heap.size, 0, none⟩ = some (.string r.id) ∧ W.cell? ⟨wr.heap.size, 1, none⟩ = some (.bool r.deny) ∧ W.cell? ⟨wr.heap.size, 2, none⟩ = some (.slice E1 m1 e1) ∧ W.cell? ⟨wr.heap.size, 3, none⟩ = some (.slice E2 m2 e2) ∧ W.cell? ⟨wr.heap.size, 4, none⟩ = some (.slice E3 m3 e3)) := by
        show ∀ W, _ → _
        intro W hb
        have o := OR.out.below hb (by have := HSR.out; omega)
        exact ⟨o.cell 0, o.cell 1, o.cell 2, o.cell 3, o.cell 4⟩
      clear hC1 OR z0 z1 z2 z3 z4
      have UR : Hid (∀ W, Below V1.heap.size V1 W → Below wr.heap.size wr W) := fun W hb => BR.out.trans (hb.mono BR.out.size)
      have q1 := (KR.out _ (Below.refl _ _)).2.1
      go_upto_if 33 with fail
      go_cut [6] from 32 to 33 (fun u wx => u = .string es ∧ wx = V1)
      case first =>
        cases hps : r.deny
        · rw [hps] at q1 ees
          subst ees
          go_wp2_with fail
          go_meet
          case rel => exact ⟨rfl, rfl⟩
        · rw [hps] at q1 ees
          subst ees
          go_wp2_with fail
          go_meet
          case rel => exact ⟨rfl, rfl⟩
      case rest =>
      obtain ⟨rfl, rfl⟩ := hcut
      obtain ⟨V1, hV1⟩ : ∃ V1, V1 = wc := ⟨wc, rfl⟩
      subst hV1
      clear q1 ees
      go_upto_region 11 with fail
      refine wp_region_held_tail (fun w' => Below V1.heap.size V1 w') 10 (by kernel_rfl) (by kernel_rfl) ?_
      intro G
      change HeadW _ _ _ _ _ _ _ _ _ _ (V1.drewN 1)
      have S := Lib.hid (below_drewN (Below.refl V1.heap.size V1) 1)
      generalize V1.drewN 1 = x0 at *
      refine HeadW_take (i := 0) (v := ?_) G rfl (by kernel_rfl) (by kernel_rfl) (by kernel_rfl) (fun _ _ _ h => h) (Or.inl ⟨by rfl, ?_⟩) S.out ?_
      rotate_left
      · intro wz hS
        go_simp
        try with_reducible rfl
      refine HeadW_take (i := 1) (v := ?_) G rfl (by kernel_rfl) (by kernel_rfl) (by kernel_rfl) (fun _ _ _ h => h) (Or.inl ⟨by rfl, ?_⟩) S.out ?_
      rotate_left
      · intro wz hS
        go_simp
        try with_reducible rfl
      refine HeadW_take (i := 2) (v := .string (s ++ es)) G rfl (by kernel_rfl) (by kernel_rfl) (by kernel_rfl) (fun _ _ _ h => h) (Or.inl ⟨by rfl, ?_⟩) S.out ?_
      · intro wz hS
        go_simp
        try omega
      refine HeadW_take (i := 3) (v := ?_) G rfl (by kernel_rfl) (by kernel_rfl) (by kernel_rfl) (fun _ _ _ h => h) (Or.inl ⟨by rfl, ?_⟩) S.out ?_
      rotate_left
      · intro wz hS
        go_simp
        try with_reducible rfl
      refine HeadW_take (i := 4) (v := ?_) G rfl (by kernel_rfl) (by kernel_rfl) (by kernel_rfl) (fun _ _ _ h => h) (Or.inl ⟨by rfl, ?_⟩) S.out ?_
      rotate_left
      · intro wz hS
        have k0 := (KR.out _ hS).1
        go_simp
        try with_reducible rfl
      refine HeadW_take (i := 5) (v := .string (s ++ es ++ r.id)) G rfl (by kernel_rfl) (by kernel_rfl) (by kernel_rfl) (fun _ _ _ h => h) (Or.inl ⟨by rfl, ?_⟩) S.out ?_
      · intro wz hS
        go_simp
        try omega
      refine HeadW_take (i := 6) (v := ?_) G rfl (by kernel_rfl) (by kernel_rfl) (by kernel_rfl) (fun _ _ _ h => h) (Or.inl ⟨by rfl, ?_⟩) S.out ?_
      rotate_left
      · intro wz hS
        go_simp
        try with_reducible rfl
      refine HeadW_take (i := 7) (v := ?_) G rfl (by kernel_rfl) (by kernel_rfl) (by kernel_rfl) (fun _ _ _ h => h) (Or.inl ⟨by rfl, ?_⟩) S.out ?_
      rotate_left
      · intro wz hS
        have k0 := (KR.out _ hS).2.2.1
        go_simp
        try with_reducible rfl
      refine HeadW_ready (rs := [8]) (by kernel_rfl) rfl rfl ?_
      refine AllW.cons rfl (fun K hK => ?_) AllW.nil
      go_simp
      refine (DT.out _ (UR.out _ S.out)).mono ?_
      rintro e x1 ⟨rfl, hb⟩
      have S := Lib.hid (S.out.trans (hb.mono S.out.size))
      refine hK _ _ S.out ?_
      clear hK K hb
      refine HeadW_take (i := 9) (v := .string (s ++ es ++ r.id ++ yt)) G rfl (by kernel_rfl) (by kernel_rfl) (by kernel_rfl) (fun _ _ _ h => h) (Or.inl ⟨by rfl, ?_⟩) S.out ?_
      · intro wz hS
        go_simp
        try omega
      intro _
      refine ⟨by kernel_rfl, ?_⟩
      simp only [List.drop_succ_cons, List.drop_zero]
      obtain ⟨s4, hs4⟩ : ∃ x : ByteArray, x = s ++ es ++ r.id ++ yt := ⟨_, rfl⟩
      have hss4 : s4.size ≤ 91000000 := by rw [hs4]; simp only [ByteArray.size_append]; omega
      have HNEW2 : Hid (bl s0 ++ sp ((p.rules.take (k + 1)).map rulT) = bl s4 ++ (sp (condW r.cond) ++ (bl yd ++ [59]))) := by
        show _ = _
        rw [HNEW.out, hs4]
        simp [bl_app]
      rw [← hs4]
      obtain ⟨V2, hV2⟩ : ∃ V2, V2 = x1 := ⟨_, rfl⟩
      subst hV2
      have HS2 := Lib.hid S.out
      have q3 := (KR.out _ HS2.out).2.2.2.1
      clear hs4 HNEW hss S
      go_upto_if 47 with fail
      go_cut [3] from 44 to 53 (fun u wx => ∃ s5 : ByteArray, u = .string s5 ∧ bl s5 = bl s4 ++ sp (condW r.cond) ∧ s5.size ≤ 92000000 ∧ Below V1.heap.size V1 wx)
      case first =>
        by_cases h0 : r.cond = []
        · have hz : m2 = 0 := by have := HM2.out; rw [h0] at this; simpa using this.symm
          subst hz
          have HCE : Hid (sp (condW r.cond) = []) := by show _ = _; rw [HCW.out, if_pos h0]
          clear h0
          go_wp2_with fail
          go_meet
          case rel => exact ⟨s4, rfl, by rw [HCE.out]; simp, by omega, HS2.out⟩
        · have hz : 0 < m2 := by
            have := HM2.out
            have := List.length_pos_iff.2 h0
            omega
          have hzi : (0 : Int) < (m2 : Int) := by omega
          obtain ⟨ye, bye, hye, hDX⟩ := DX.out h0
          have HDX := Lib.hid hDX
          have HCE : Hid (sp (condW r.cond) = [32, 105, 102, 32] ++ bl ye) := by show _ = _; rw [HCW.out, if_neg h0, bye]
          clear h0 hDX bye
          go_wp2_with (go_at_call 7; refine (HDX.out _ (UR.out _ HS2.out)).mono ?_; rintro e w2 ⟨rfl, hb2⟩; have HB2 := Lib.hid (HS2.out.trans (hb2.mono HS2.out.size)); clear hb2)
          go_meet
          case rel => exact ⟨_, rfl, by rw [HCE.out]; simp [bl_app, bl_mka], by simp only [ByteArray.size_append]; have e1 : (⟨#[32, 105, 102, 32]⟩ : ByteArray).size = 4 := rfl; omega, HB2.out⟩
      case rest =>
      obtain ⟨s5, rfl, hb5, hss5, hbw⟩ := hcut
      have HS5 := Lib.hid hb5
      have HBW := Lib.hid hbw
      have q4 := (KR.out _ hbw).2.2.2.2
      clear hb5 hbw q3 HS2 hss4
      go_wp2_with (go_at_call 52; refine (DD.out _ (UR.out _ HBW.out)).mono ?_; rintro e w2 ⟨rfl, hb2⟩; have HB2 := Lib.hid (HBW.out.trans (hb2.mono HBW.out.size)); clear hb2)
      go_roundw
      case rel => exact ⟨k + 1, _, by omega, by go_num, rfl, by rw [HNEW2.out]; simp [bl_app, bl_mka, HS5.out], HB.out.trans ((UR.out _ HB2.out).mono HB.out.size)⟩
      case measure => simp [intOf]; omega
    case neg =>
      obtain rfl : k = n2 := by omega
      have HS1 : Hid (bl s = bl s0 ++ sp (p.rules.map rulT)) := by
        have := HSX.out
        rw [List.take_of_length_le (by rw [HL2.out]; exact Nat.le_refl _)] at this
        exact this
      have q6 := (KO.out _ HB.out).2.2.2.2.2.1
      clear HSX
      go_wp2_with fail
      go_loopw [3, 64] (fun o i wq => ∃ (j : Nat) (s2 : ByteArray), j ≤ n3 ∧ i = .int .i64 j ∧ o = .string s2 ∧ bl s2 = bl s ++ sp ((p.kids.take j).map (polW d)).flatten ∧ Below W1.heap.size W1 wq) (fun _ i _ => n3 - (intOf i).toNat)
      case atStart => exact ⟨0, s, Nat.zero_le _, rfl, rfl, by simp [sp_nil], HB.out⟩
      case round =>
        clear q6 HB
        obtain ⟨j, s2, hj, rfl, rfl, hs2, hb⟩ := hrel
        have HSX := Lib.hid hs2
        have HB := Lib.hid hb
        have hss2 : s2.size ≤ 880000000000 := by
          rw [← size_bl, hs2, List.length_append, size_bl]
          have h1 := flatten_le (B := 10920) ((p.kids.take j).map (polW d)) (fun x hx => by
            obtain ⟨o, ho, rfl⟩ := List.mem_map.1 hx
            exact Nat.le_trans (HKL.out o (List.mem_of_mem_take ho)).1 HND.out)
          rw [List.length_map, List.length_take] at h1
          have h2 : min j p.kids.length * 10920 ≤ 16 * 10920 := Nat.mul_le_mul_right _ (by have := Nat.min_le_left j p.kids.length; omega)
          have := sp_le (B := 5000000) (N := 16 * 10920) (C := 16 * 10920 * 5000001) ((p.kids.take j).map (polW d)).flatten (fun x hx => by
            obtain ⟨ws, hws, hx2⟩ := List.mem_flatten.1 hx
            obtain ⟨o, ho, rfl⟩ := List.mem_map.1 hws
            exact (HKL.out o (List.mem_of_mem_take ho)).2 x hx2) (by omega) (Nat.le_refl _)
          omega
        clear hs2 hb
        by_cases hlt2 : j < n3
        case pos =>
          obtain ⟨b, o, q, dd', E1, m1, e1, E2, m2, e2, E3, m3, e3, E4, m4, e4, rfl, hRb, hbl, hx, rfl, hid', ⟨z0, z1, z2, z3, z4, z5, z6⟩, t1, t2, t3, t4⟩ := (H3.out.keep (Kept.all (UP.out _ HB.out) R) (fun _ h _ => h)).at_ hlt2
          have hmem := List.mem_of_getElem? hx
          obtain ⟨sa, sb, hsq⟩ := HKF.out q hmem
          obtain ⟨yq, eyq, byq, hyq⟩ := rs_sized (l := Lib.join (polW d q) [32]) (n := 60000000000) (by
            have := join_le (B := 5000000) [32] (polW d q) (HKL.out q hmem).2
            have h2 : (polW d q).length * (5000000 + [(32 : UInt8)].length) ≤ 10920 * 5000001 := Nat.mul_le_mul (Nat.le_trans (HKL.out q hmem).1 HND.out) (by simp)
            omega)
          have HC := Lib.hid (fun (W : World) (hb : Below wr.heap.size wr W) => show Calls Tryz.prog 27 #[.agg #[.string q.id, .bool q.set, .int .i64 q.alg, .slice E1 m1 e1, .slice E2 m2 e2, .slice E3 m3 e3, .slice E4 m4 e4]] W (fun e w' => e = .returned (.string yq) ∧ Below W.heap.size W w') by rw [← eyq]; exact ih (R := R) hsq (HK3.out q hmem) (t1.keep (Kept.all hb R) (fun _ h _ => h)) (t2.keep (Kept.all hb R) (fun _ h _ => h)) (t3.keep (Kept.all hb R) (fun _ h _ => h)) (t4.keep (Kept.all hb R) (fun _ h _ => h)))
          have HNX : Hid (bl s ++ sp ((p.kids.take (j + 1)).map (polW d)).flatten = bl s2 ++ 32 :: bl yq) := by
            show _ = _
            rw [tail_flat hx, sp_app, ← List.append_assoc, ← HSX.out, sp_ne (polW_ne hsq), byq]
          clear hx hmem hsq eyq byq t1 t2 t3 t4
          go_wp2_with (go_at_call 27; refine (HC.out _ (al9' _ _)).mono ?_; rintro e w2 ⟨rfl, hb2⟩; have HB2 := Lib.hid (HB.out.trans ((show Below wr.heap.size wr w2 from Below.lit hb2).mono HB.out.size)); clear hb2)
          go_roundw
          case rel => exact ⟨j + 1, _, by omega, by go_num, rfl, by rw [HNX.out]; simp [bl_app, bl_mka], HB2.out⟩
          case measure => simp [intOf]; omega
        case neg =>
          obtain rfl : j = n3 := by omega
          have HEND : Hid (res = bl (s2 ++ ⟨#[32, 125]⟩ ++ xd)) := by
            show _ = _
            have h1 := HSX.out
            rw [List.take_of_length_le (by rw [HL3.out]; exact Nat.le_refl _), HS1.out] at h1
            rw [HJ.out, bl_app, bl_app, h1]
            simp [bl_mka]
          have q7 := (KO.out _ HB.out).2.2.2.2.2.2
          clear HSX
          go_wp2_with (go_at_call 52; refine (CD.out _ (UP.out _ HB.out)).mono ?_; rintro e w2 ⟨rfl, hb2⟩; have HB2 := Lib.hid (HB.out.trans (hb2.mono HB.out.size)); clear hb2)
          go_ret
          exact ⟨ret_text HEND.out.symm, UP.out _ HB2.out⟩
theorem rshow_all : ∀ d, d ≤ 4 → RShOk d
  | 0, _ => fun h => by simp [polS] at h
  | d + 1, hd => rshow_step d (by omega) (rshow_all d (by omega))
end Go.Proofs.YtjpkemamfccfdaaGreatDoor
/- The reference's Show. -/
namespace Go.Proofs.YtjpkemamfccfdaaGreatDoor
set_option linter.unusedVariables false
open Go.RowKit Go.Sort

set_option maxHeartbeats 1600000 in
theorem rshowp_any {w : World} {R : Nat → Prop} {p : Pol} {A1 A2 A3 A4 : Option Addr} {n1 k1 n2 k2 n3 k3 n4 k4 : Nat} (h : PolIn w R p A1 n1 k1 A2 n2 k2 A3 n3 k3 A4 n4 k4) :
    Calls Tryz.prog 12 #[.agg #[.string p.id, .bool p.set, .int .i64 p.alg, .slice A1 n1 k1, .slice A2 n2 k2, .slice A3 n3 k3, .slice A4 n4 k4]] w
      fun e w' => e = .returned (.string ⟨(showP p).toArray⟩) ∧ Below w.heap.size w w' := by
  have hb0 : Below w.heap.size w (w.alloc (.cells #[.string p.id, .bool p.set, .int .i64 p.alg, .slice A1 n1 k1, .slice A2 n2 k2, .slice A3 n3 k3, .slice A4 n4 k4] 28)) := al9' _ _
  have h' := h.then_ hb0
  have hcon := rpol_any h'
  have OB := Lib.hid (Ob.made w 28 #[.string p.id, .bool p.set, .int .i64 p.alg, .slice A1 n1 k1, .slice A2 n2 k2, .slice A3 n3 k3, .slice A4 n4 k4])
  have B0 := Lib.hid hb0
  by_cases hr : rightE p = 0
  · have e0 : polS 4 p ⟨[], 0⟩ = (0, (polS 4 p ⟨[], 0⟩).2) := by unfold rightE at hr; rw [← hr]
    have hok := h.oks 4
    have HE : Hid (showP p = Lib.join (polW 4 p) [32]) := showP_right hr
    have CW : Hid (∀ W, Below (w.alloc (.cells #[.string p.id, .bool p.set, .int .i64 p.alg, .slice A1 n1 k1, .slice A2 n2 k2, .slice A3 n3 k3, .slice A4 n4 k4] 28)).heap.size (w.alloc (.cells #[.string p.id, .bool p.set, .int .i64 p.alg, .slice A1 n1 k1, .slice A2 n2 k2, .slice A3 n3 k3, .slice A4 n4 k4] 28)) W → Calls Tryz.prog 27 #[.agg #[.string p.id, .bool p.set, .int .i64 p.alg, .slice A1 n1 k1, .slice A2 n2 k2, .slice A3 n3 k3, .slice A4 n4 k4]] W fun e w' => e = .returned (.string ⟨(showP p).toArray⟩) ∧ Below W.heap.size W w') := fun W hb => by
      obtain ⟨_, h1, h2, ⟨m, h3⟩, h4⟩ := h'.then_ hb
      rw [HE.out]
      exact rshow_all 4 (Nat.le_refl _) e0 hok h1 h2 h3 h4
    rw [hr] at hcon
    have HC := Lib.hid hcon
    clear hcon h h' hb0 e0 hok hr HE
    generalize showP p = sp at *
    go_enter Tryz.func12, Tryz.ntmps12
    go_wp2_with (first
      | (go_at_call 26; refine HC.out.mono ?_; rintro e w1 ⟨rfl, hb1⟩; have B1 := Lib.hid hb1; have O1 := Lib.hid (OB.out.below hb1 OB.out.lt); have c0 := O1.out.cell 0; have c1 := O1.out.cell 1; have c2 := O1.out.cell 2; have c3 := O1.out.cell 3; have c4 := O1.out.cell 4; have c5 := O1.out.cell 5; have c6 := O1.out.cell 6; clear hb1)
      | (go_at_call 27
         refine (CW.out _ B1.out).mono ?_
         rintro e w2 ⟨rfl, hb2⟩
         have B2 := Lib.hid (below_step B1.out hb2)
         clear hb2))
    go_ret
    exact ⟨rfl, B0.out.trans (B2.out.mono B0.out.size)⟩
  · have HE : Hid (showP p = []) := showP_wrong hr
    obtain ⟨q, hq⟩ : ∃ q, q = rightE p := ⟨_, rfl⟩
    rw [← hq] at hcon hr
    have hne : (q != 0) = true := by simpa using hr
    have HC := Lib.hid hcon
    generalize showP p = sp at *
    clear hcon h h' hb0 hr hq
    go_enter Tryz.func12, Tryz.ntmps12
    go_wp2_with (go_at_call 26; refine HC.out.mono ?_; rintro e w1 ⟨rfl, hb1⟩; have B1 := Lib.hid hb1; clear hb1)
    go_ret
    exact ⟨ret_text (by rw [HE.out]; rfl), B0.out.trans (B1.out.mono B0.out.size)⟩
end Go.Proofs.YtjpkemamfccfdaaGreatDoor
/- Arguments that come in: a slice of bytes as Sl. -/
namespace Go.Proofs.YtjpkemamfccfdaaGreatDoor
set_option linter.unusedVariables false
open Go.RowKit Go.ChangeShapes Go.WideShapes

theorem cell_lt {w : World} {p : Addr} {v : Value} (h : w.cell? p = some v) : p.block < w.heap.size := by
  rcases Nat.lt_or_ge p.block w.heap.size with hlt | hge
  · exact hlt
  · simp [World.cell?, Array.getElem?_eq_none hge] at h

theorem open_bytes {H : Type} {enc : TypeId × Value → H} {P : Program} {w : World} {base n c : Nat} {spare : Nat → Bool} {held : Bool} {t e : TypeId} {A : Option Addr} {d : DataW H} {p : List MemPlace}
    (ht : P.underlying t = some (.slice e)) (he : P.underlying e = some (.int .u8)) (hc : P.cellsOf e = 1) (h : DataW.Trod enc P w base spare held t (.slice A n c) d p) : ∃ l, Sl w w.heap.size A n c (bv l) := by
  obtain ⟨fuel, hf⟩ := h
  rcases open_ints ht he hc hf with ⟨hcs, _⟩ | ⟨a, len, cap, zs, hcs, _, hl, hm, hz, _, hcell, hwz⟩
  · simp [Value.cells] at hcs
    obtain ⟨rfl, rfl, rfl⟩ := hcs
    exact ⟨[], Sl.nil_ w _⟩
  · simp [Value.cells] at hcs
    obtain ⟨rfl, rfl, rfl⟩ := hcs
    have hzl : n ≤ zs.length := by rw [hz]; split <;> omega
    have hb : ∀ z ∈ zs, ((UInt8.ofNat z.toNat).toNat : Int) = z := by
      intro z hz'
      have := hwz z hz'
      simp only [Lit.wf, Bool.and_eq_true, decide_eq_true_eq] at this
      have h1 : (0 : Int) ≤ z := this.1
      have h2 : z ≤ 255 := this.2
      simp
      omega
    refine ⟨(zs.take n).map fun z => UInt8.ofNat z.toNat, by simp [bv]; omega, hl, hm, ?_⟩
    by_cases h0 : n = 0
    · exact .inl h0
    · right
      obtain ⟨b, o, spot⟩ := a
      have h00 := hcell 0 (by omega)
      have hspot : spot = none := by simpa [Addr.add] using World.cell?_spot h00
      subst hspot
      refine ⟨b, o, rfl, by have := cell_lt h00; simpa [Addr.add] using this, fun j u hj => ?_⟩
      have hjn : j < n := by
        rcases Nat.lt_or_ge j n with hlt | hge
        · exact hlt
        · rw [List.getElem?_eq_none (by simp [bv]; omega)] at hj; cases hj
      have hcj := hcell j (by omega)
      have ha : (⟨b, o, none⟩ : Addr).add j = ⟨b, o + j, none⟩ := by
        by_cases hj0 : j = 0 <;> simp [Addr.add, hj0]
      rw [ha] at hcj
      rw [hcj, ← hj]
      simp only [bv, List.map_map, List.getElem?_map, List.getElem?_take, hjn, if_true]
      rw [List.getElem?_eq_getElem (by omega : j < zs.length)]
      simp only [Option.map_some, Function.comp, List.getD, List.getElem?_eq_getElem (by omega : j < zs.length), Option.getD_some]
      rw [hb _ (List.getElem_mem _)]

theorem own_empty (w : World) (base e : Nat) (hb : base ≤ w.heap.size) : (w.alloc (.cells #[] e)).ownsRow base e 1 (.slice (some ⟨w.heap.size, 0, none⟩) 0 0) 0 [] :=
  ⟨rfl, .inr ⟨w.heap.size, 0, #[], rfl, hb, heap_alloc_new w _, Nat.le_refl _, by simp [maxLen], rfl, rfl⟩⟩

/-- An append whose run is known, under a guard that says yes. -/
theorem wpList_append_want {P : Program} {w w' : World} {ops : Array Oper} {rest : List Oper} {o : Oper} {a : Act} {Q : Exit → Act → World → Prop} (hgd : Region.wanted o (yielded ops a.tmps) = true) (s x : Operand) (t u : TypeId)
    (ho : o.op = .call { callee := .builtin .append, args := #[s, x], argTypes := #[t, u] }) {sv xv v' : Value} (hs : a.eval s = sv) (hx : a.eval x = xv)
    (hrun : (Builtin.append_ #[t, u] o.type #[sv, xv]).run P w = .ok v' w') (h : wpList P ops Q rest (a.put o.dst v') w') : wpList P ops Q (o :: rest) a w := by
  refine BigFrame.wpList_want hgd fun K hK => ?_
  unfold Oper.wp execOp
  simp only [ho, resolve, invoke, builtin, Sem.run_bind, Sem.run_pure, Result.andThen_ok, List.map_toArray, List.map_cons, List.map_nil, hs, hx, hrun]
  exact hK _ _ h
end Go.Proofs.YtjpkemamfccfdaaGreatDoor
/- Rows of structs that come in: what any of them asks. -/
namespace Go.Proofs.YtjpkemamfccfdaaGreatDoor
set_option linter.unusedVariables false
open Go.RowKit Go.ChangeShapes Go.WideShapes

section
variable {H : Type} {enc : TypeId × Value → H} {w : World} {base : Nat} {spare : Nat → Bool} {held : Bool}

/-- A datum whose strings, slices are no greater than may be. -/
def Wt (P : Program) (t : TypeId) (d : DataW H) : Prop := (d.weights P t).all (fun x => decide (x ≤ reachBytes)) = true
theorem wt_all {P : Program} {e : TypeId} : ∀ {l : List (DataW H)}, (DataW.weightsAll P e l).all (fun x => decide (x ≤ reachBytes)) = true → ∀ d ∈ l, Wt P e d
  | [], _, d, hd => by cases hd
  | x :: l, h, d, hd => by
    rw [DataW.weightsAll, List.all_append, Bool.and_eq_true] at h
    rcases List.mem_cons.1 hd with rfl | hd
    · exact h.1
    · exact wt_all h.2 d hd
theorem wt_slice {P : Program} {t e : TypeId} {a b : List (DataW H)} (ht : P.underlying t = some (.slice e)) (h : Wt P t (.slice a b)) : (a.length + b.length) * P.bytesOf e ≤ reachBytes ∧ ∀ d ∈ a, Wt P e d := by
  unfold Wt at h
  rw [DataW.weights] at h
  simp only [ht] at h
  rw [List.all_cons, List.all_append, Bool.and_eq_true, Bool.and_eq_true] at h
  exact ⟨by simpa using h.1, wt_all h.2.1⟩
theorem wt_each {P : Program} : ∀ {ts : List TypeId} {ds : List (DataW H)}, (DataW.weightsEach P ts ds).all (fun x => decide (x ≤ reachBytes)) = true → ∀ (i : Nat) t d, ts[i]? = some t → ds[i]? = some d → Wt P t d
  | [], _, _, _, _, _, ht, _ => by simp at ht
  | _ :: _, [], _, _, _, _, _, hd => by simp at hd
  | t :: ts, d :: ds, h, 0, t', d', ht, hd => by
    rw [DataW.weightsEach, List.all_append, Bool.and_eq_true] at h
    simp at ht hd
    subst ht hd
    exact h.1
  | t :: ts, d :: ds, h, i + 1, t', d', ht, hd => by
    rw [DataW.weightsEach, List.all_append, Bool.and_eq_true] at h
    exact wt_each h.2 i t' d' (by simpa using ht) (by simpa using hd)
theorem wt_struct {P : Program} {t : TypeId} {fs : Array Field} {parts : List (DataW H)} (ht : P.underlying t = some (.struct fs)) (h : Wt P t (.agg parts)) (i : Nat) (f : Field) (d : DataW H) (hf : fs[i]? = some f) (hd : parts[i]? = some d) : Wt P f.type d := by
  unfold Wt at h
  rw [DataW.weights] at h
  simp only [ht] at h
  exact wt_each h i f.type d (by simp [hf]) hd
theorem open_rows {P : Program} {α : Type} [Inhabited α] {e t : TypeId} {k fuel n c : Nat} {A : Option Addr} {x : DataW H × List MemPlace} {Pn : List Value → α → Prop} (ht : P.underlying t = some (.slice e)) (hC : P.cellsOf e = k) (hk : 0 < k)
    (hby : 0 < P.bytesOf e) (hel : ∀ m cs y, m < fuel → cs.length = k → Wt P e y.1 → DataW.trod enc P w base spare held m e cs = some y → ∃ z, Pn cs z) (hwt : Wt P t x.1) (h : DataW.trod enc P w base spare held fuel t [.slice A n c] = some x) : ∃ l, Rw k Pn w (fun _ => True) A n c l := by
  rcases DataW.trod_slice ht h with ⟨hcs, _⟩ | ⟨a, len, cap, elems, rest, m, hfu, hcs, hxe, hb, hl, hm, hlen, hx, _⟩
  · simp at hcs
    obtain ⟨rfl, rfl, rfl⟩ := hcs
    exact ⟨[], Rw.nil_ _ _ _ _⟩
  · simp at hcs
    obtain ⟨rfl, rfl, rfl⟩ := hcs
    subst hxe
    obtain ⟨hw1, hw2⟩ := wt_slice ht hwt
    have hbig : n ≤ 140737488351232 := by
      rw [List.length_map, List.length_map, hlen] at hw1
      have e1 : n * 1 ≤ (n + rest.length) * P.bytesOf e := Nat.mul_le_mul (by omega) hby
      have e2 : reachBytes = 140737488351232 := rfl
      omega
    have hall : ∀ i, i < n → ∃ z : α, ∃ cs : List Value, cs.length = k ∧ (∀ j, j < k → w.cell? ((a.add (i * k)).add j) = cs[j]?) ∧ Pn cs z := fun i hin => by
      have hi := hx i hin
      rw [hC, List.getElem?_eq_getElem (by omega)] at hi
      obtain ⟨cs, hc, hy⟩ := Option.bind_eq_some_iff.1 hi
      obtain ⟨_, hcl, hat⟩ := World.cells?_some hc
      obtain ⟨z, hz⟩ := hel m cs _ (by omega) hcl (hw2 _ (List.mem_map.2 ⟨_, List.getElem_mem (by omega), rfl⟩)) hy
      exact ⟨z, cs, hcl, hat, hz⟩
    obtain ⟨V, hV⟩ := Go.Deep.choose_lt hall
    refine ⟨(List.range n).map V, by simp, hl, ⟨hm, hbig⟩, ?_⟩
    by_cases h0 : n = 0
    · exact .inl h0
    · right
      obtain ⟨b, o, spot⟩ := a
      obtain ⟨cs0, hl0, hat0, _⟩ := hV 0 (by omega)
      have h00 := hat0 0 hk
      rw [List.getElem?_eq_getElem (by omega)] at h00
      have hspot : spot = none := by simpa [Addr.add] using World.cell?_spot h00
      subst hspot
      refine ⟨b, o, rfl, trivial, by have := cell_lt h00; simpa [Addr.add] using this, fun j x hj => ?_⟩
      rw [List.getElem?_map, Option.map_eq_some_iff] at hj
      obtain ⟨i, hi', rfl⟩ := hj
      have hjn : j < n := by have := (List.getElem?_eq_some_iff.1 hi').1; simpa using this
      have hij : i = j := by rw [List.getElem?_range hjn] at hi'; exact (Option.some.inj hi').symm
      subst hij
      obtain ⟨cs, hcl, hat, hz⟩ := hV i hjn
      refine ⟨cs, hcl, fun q v hq => ?_, hz⟩
      have hqk : q < k := by have := (List.getElem?_eq_some_iff.1 hq).1; omega
      have add : ∀ i k : Nat, ((⟨b, o, none⟩ : Addr).add i).add k = ⟨b, o + i + k, none⟩ := by
        intro i k
        by_cases hi0 : i = 0 <;> by_cases hk0 : k = 0 <;> simp [Addr.add, hi0, hk0]
      have := hat q hqk
      rw [add] at this
      rw [this, hq]

theorem len3 {α : Type} {cs : List α} (h : cs.length = 3) : ∃ v0 v1 v2, cs = [v0, v1, v2] := by
  match cs, h with
  | [v0, v1, v2], _ => exact ⟨v0, v1, v2, rfl⟩
theorem len5 {α : Type} {cs : List α} (h : cs.length = 5) : ∃ v0 v1 v2 v3 v4, cs = [v0, v1, v2, v3, v4] := by
  match cs, h with
  | [v0, v1, v2, v3, v4], _ => exact ⟨v0, v1, v2, v3, v4, rfl⟩
theorem len7 {α : Type} {cs : List α} (h : cs.length = 7) : ∃ v0 v1 v2 v3 v4 v5 v6, cs = [v0, v1, v2, v3, v4, v5, v6] := by
  match cs, h with
  | [v0, v1, v2, v3, v4, v5, v6], _ => exact ⟨v0, v1, v2, v3, v4, v5, v6, rfl⟩
theorem fields3 {P : Program} {e : TypeId} {f0 f1 f2 : Field} {fuel : Nat} {cs : List Value} {x : DataW H × List MemPlace} (he : P.underlying e = some (.struct #[f0, f1, f2])) (hwt : Wt P e x.1) (h : DataW.trod enc P w base spare held fuel e cs = some x) :
    ∃ m, fuel = m + 1 ∧ cs.length = P.cellsOf e ∧ ∃ y0 y1 y2, (Wt P f0.type y0.1 ∧ Wt P f1.type y1.1 ∧ Wt P f2.type y2.1) ∧ DataW.trod enc P w base spare held m f0.type ((cs.drop f0.offset).take (P.cellsOf f0.type)) = some y0 ∧ DataW.trod enc P w base spare held m f1.type ((cs.drop f1.offset).take (P.cellsOf f1.type)) = some y1 ∧ DataW.trod enc P w base spare held m f2.type ((cs.drop f2.offset).take (P.cellsOf f2.type)) = some y2 := by
  obtain ⟨ys, n', hn', hy, hlen, hyl, hf⟩ := DataW.trod_struct he h
  subst hy
  have hw := fun i f d => wt_struct he hwt i f d
  have ysn : ys.length = 3 := hyl
  match ys, ysn with
  | [y0, y1, y2], _ => exact ⟨n', hn', hlen, y0, y1, y2, ⟨hw 0 _ _ rfl rfl, hw 1 _ _ rfl rfl, hw 2 _ _ rfl rfl⟩, hf 0 _ rfl, hf 1 _ rfl, hf 2 _ rfl⟩
theorem fields5 {P : Program} {e : TypeId} {f0 f1 f2 f3 f4 : Field} {fuel : Nat} {cs : List Value} {x : DataW H × List MemPlace} (he : P.underlying e = some (.struct #[f0, f1, f2, f3, f4])) (hwt : Wt P e x.1) (h : DataW.trod enc P w base spare held fuel e cs = some x) :
    ∃ m, fuel = m + 1 ∧ cs.length = P.cellsOf e ∧ ∃ y0 y1 y2 y3 y4, (Wt P f0.type y0.1 ∧ Wt P f1.type y1.1 ∧ Wt P f2.type y2.1 ∧ Wt P f3.type y3.1 ∧ Wt P f4.type y4.1) ∧ DataW.trod enc P w base spare held m f0.type ((cs.drop f0.offset).take (P.cellsOf f0.type)) = some y0 ∧ DataW.trod enc P w base spare held m f1.type ((cs.drop f1.offset).take (P.cellsOf f1.type)) = some y1 ∧ DataW.trod enc P w base spare held m f2.type ((cs.drop f2.offset).take (P.cellsOf f2.type)) = some y2 ∧ DataW.trod enc P w base spare held m f3.type ((cs.drop f3.offset).take (P.cellsOf f3.type)) = some y3 ∧ DataW.trod enc P w base spare held m f4.type ((cs.drop f4.offset).take (P.cellsOf f4.type)) = some y4 := by
  obtain ⟨ys, n', hn', hy, hlen, hyl, hf⟩ := DataW.trod_struct he h
  subst hy
  have hw := fun i f d => wt_struct he hwt i f d
  have ysn : ys.length = 5 := hyl
  match ys, ysn with
  | [y0, y1, y2, y3, y4], _ => exact ⟨n', hn', hlen, y0, y1, y2, y3, y4, ⟨hw 0 _ _ rfl rfl, hw 1 _ _ rfl rfl, hw 2 _ _ rfl rfl, hw 3 _ _ rfl rfl, hw 4 _ _ rfl rfl⟩, hf 0 _ rfl, hf 1 _ rfl, hf 2 _ rfl, hf 3 _ rfl, hf 4 _ rfl⟩
theorem fields7 {P : Program} {e : TypeId} {f0 f1 f2 f3 f4 f5 f6 : Field} {fuel : Nat} {cs : List Value} {x : DataW H × List MemPlace} (he : P.underlying e = some (.struct #[f0, f1, f2, f3, f4, f5, f6])) (hwt : Wt P e x.1) (h : DataW.trod enc P w base spare held fuel e cs = some x) :
    ∃ m, fuel = m + 1 ∧ cs.length = P.cellsOf e ∧ ∃ y0 y1 y2 y3 y4 y5 y6, (Wt P f0.type y0.1 ∧ Wt P f1.type y1.1 ∧ Wt P f2.type y2.1 ∧ Wt P f3.type y3.1 ∧ Wt P f4.type y4.1 ∧ Wt P f5.type y5.1 ∧ Wt P f6.type y6.1) ∧ DataW.trod enc P w base spare held m f0.type ((cs.drop f0.offset).take (P.cellsOf f0.type)) = some y0 ∧ DataW.trod enc P w base spare held m f1.type ((cs.drop f1.offset).take (P.cellsOf f1.type)) = some y1 ∧ DataW.trod enc P w base spare held m f2.type ((cs.drop f2.offset).take (P.cellsOf f2.type)) = some y2 ∧ DataW.trod enc P w base spare held m f3.type ((cs.drop f3.offset).take (P.cellsOf f3.type)) = some y3 ∧ DataW.trod enc P w base spare held m f4.type ((cs.drop f4.offset).take (P.cellsOf f4.type)) = some y4 ∧ DataW.trod enc P w base spare held m f5.type ((cs.drop f5.offset).take (P.cellsOf f5.type)) = some y5 ∧ DataW.trod enc P w base spare held m f6.type ((cs.drop f6.offset).take (P.cellsOf f6.type)) = some y6 := by
  obtain ⟨ys, n', hn', hy, hlen, hyl, hf⟩ := DataW.trod_struct he h
  subst hy
  have hw := fun i f d => wt_struct he hwt i f d
  have ysn : ys.length = 7 := hyl
  match ys, ysn with
  | [y0, y1, y2, y3, y4, y5, y6], _ => exact ⟨n', hn', hlen, y0, y1, y2, y3, y4, y5, y6, ⟨hw 0 _ _ rfl rfl, hw 1 _ _ rfl rfl, hw 2 _ _ rfl rfl, hw 3 _ _ rfl rfl, hw 4 _ _ rfl rfl, hw 5 _ _ rfl rfl, hw 6 _ _ rfl rfl⟩, hf 0 _ rfl, hf 1 _ rfl, hf 2 _ rfl, hf 3 _ rfl, hf 4 _ rfl, hf 5 _ rfl, hf 6 _ rfl⟩
theorem slice_cells {P : Program} {t e : TypeId} {m : Nat} {v : Value} {y : DataW H × List MemPlace} (ht : P.underlying t = some (.slice e)) (h : DataW.trod enc P w base spare held m t [v] = some y) : ∃ A n c, v = .slice A n c := by
  rcases DataW.trod_slice ht h with ⟨hcs, _⟩ | ⟨a, len, cap, elems, rest, m, hfu, hcs, _⟩
  · exact ⟨none, 0, 0, by simpa using hcs⟩
  · exact ⟨some a, len, cap, by simpa using hcs⟩
theorem open_struct {P : Program} {t : TypeId} {fs : Array Field} {r : Reach} {b0 : Nat} {v : Value} {d : DataW H} {p : List MemPlace} (hs : P.underlying t = some (.struct fs)) (hv : Value.okWide P w r b0 t v) (h : DataW.Trod enc P w base spare held t v d p) :
    ∃ (cs : List Value) (m : Nat), v = .agg cs.toArray ∧ DataW.trod enc P w base spare held m t cs = some (d, p) := by
  obtain ⟨cs, rfl, hsz⟩ := WideShapes.okWide_struct hs hv
  obtain ⟨m, hm⟩ := h
  exact ⟨cs.toList, m, by simp, hm⟩
end
end Go.Proofs.YtjpkemamfccfdaaGreatDoor
/- Values and attributes that come in. -/
namespace Go.Proofs.YtjpkemamfccfdaaGreatDoor
set_option linter.unusedVariables false
open Go.RowKit Go.ChangeShapes Go.WideShapes

instance : Inhabited Atr := ⟨zeroA⟩
section
variable {H : Type} {enc : TypeId × Value → H} {w : World} {base : Nat} {spare : Nat → Bool} {held : Bool}

theorem open_atr_cells {m : Nat} {cs : List Value} {y : DataW H × List MemPlace} (hwt : Wt Tryz.prog 31 y.1) (h : DataW.trod enc Tryz.prog w base spare held m 31 cs = some y) : ∃ a : Atr, cs = a.cells ∧ a.ok := by
  obtain ⟨m', _, hlen, y0, y1, y2, ⟨q0, q1, q2⟩, g0, g1, g2⟩ := fields3 Tryz.underlying31 hwt h
  obtain ⟨v0, v1, v2, rfl⟩ := len3 (hlen.trans (show Tryz.prog.cellsOf 31 = 3 by kernel_rfl))
  have g0 : DataW.trod enc Tryz.prog w base spare held m' 3 (([v0, v1, v2] : List Value).drop 0 |>.take (Tryz.prog.cellsOf 3)) = some y0 := g0
  rw [show Tryz.prog.cellsOf 3 = 1 by kernel_rfl] at g0
  have g1 : DataW.trod enc Tryz.prog w base spare held m' 9 (([v0, v1, v2] : List Value).drop 1 |>.take (Tryz.prog.cellsOf 9)) = some y1 := g1
  rw [show Tryz.prog.cellsOf 9 = 1 by kernel_rfl] at g1
  have g2 : DataW.trod enc Tryz.prog w base spare held m' 4 (([v0, v1, v2] : List Value).drop 2 |>.take (Tryz.prog.cellsOf 4)) = some y2 := g2
  rw [show Tryz.prog.cellsOf 4 = 1 by kernel_rfl] at g2
  obtain ⟨x0, e0, _, w0⟩ := DataW.trod_int Tryz.underlying3 (show DataW.trod enc Tryz.prog w base spare held m' 3 [v0] = some y0 from g0)
  obtain ⟨x1, e1, _, w1⟩ := DataW.trod_string Tryz.underlying9 (show DataW.trod enc Tryz.prog w base spare held m' 9 [v1] = some y1 from g1)
  obtain ⟨x2, e2, _⟩ := DataW.trod_bool Tryz.underlying4 (show DataW.trod enc Tryz.prog w base spare held m' 4 [v2] = some y2 from g2)
  injection e0 with e0
  injection e1 with e1
  injection e2 with e2
  subst e0 e1 e2
  exact ⟨⟨x0, x1, x2⟩, rfl, wf_bounds w0, w1⟩
theorem open_vl_cells {m : Nat} {cs : List Value} {y : DataW H × List MemPlace} (hwt : Wt Tryz.prog 46 y.1) (h : DataW.trod enc Tryz.prog w base spare held m 46 cs = some y) : ∃ a : Vl, cs = a.cells ∧ a.ok := by
  obtain ⟨m', _, hlen, y0, y1, y2, ⟨q0, q1, q2⟩, g0, g1, g2⟩ := fields3 Tryz.underlying46 hwt h
  obtain ⟨v0, v1, v2, rfl⟩ := len3 (hlen.trans (show Tryz.prog.cellsOf 46 = 3 by kernel_rfl))
  have g0 : DataW.trod enc Tryz.prog w base spare held m' 3 (([v0, v1, v2] : List Value).drop 0 |>.take (Tryz.prog.cellsOf 3)) = some y0 := g0
  rw [show Tryz.prog.cellsOf 3 = 1 by kernel_rfl] at g0
  have g1 : DataW.trod enc Tryz.prog w base spare held m' 3 (([v0, v1, v2] : List Value).drop 1 |>.take (Tryz.prog.cellsOf 3)) = some y1 := g1
  rw [show Tryz.prog.cellsOf 3 = 1 by kernel_rfl] at g1
  have g2 : DataW.trod enc Tryz.prog w base spare held m' 9 (([v0, v1, v2] : List Value).drop 2 |>.take (Tryz.prog.cellsOf 9)) = some y2 := g2
  rw [show Tryz.prog.cellsOf 9 = 1 by kernel_rfl] at g2
  obtain ⟨x0, e0, _, w0⟩ := DataW.trod_int Tryz.underlying3 (show DataW.trod enc Tryz.prog w base spare held m' 3 [v0] = some y0 from g0)
  obtain ⟨x1, e1, _, w1⟩ := DataW.trod_int Tryz.underlying3 (show DataW.trod enc Tryz.prog w base spare held m' 3 [v1] = some y1 from g1)
  obtain ⟨x2, e2, _, w2⟩ := DataW.trod_string Tryz.underlying9 (show DataW.trod enc Tryz.prog w base spare held m' 9 [v2] = some y2 from g2)
  injection e0 with e0
  injection e1 with e1
  injection e2 with e2
  subst e0 e1 e2
  exact ⟨⟨x0, x1, x2⟩, rfl, wf_bounds w0, wf_bounds w1, w2⟩
set_option maxRecDepth 100000 in
theorem open_atr {r : Reach} {b0 : Nat} {v : Value} {d : DataW H} {p : List MemPlace} (hv : Value.okWide Tryz.prog w r b0 31 v) (hwt : Wt Tryz.prog 31 d) (h : DataW.Trod enc Tryz.prog w base spare held 31 v d p) : ∃ a : Atr, v = .agg #[.int .i64 a.cat, .string a.name, .bool a.must] ∧ a.ok := by
  obtain ⟨cs, m, rfl, hm⟩ := open_struct Tryz.underlying31 hv h
  obtain ⟨a, rfl, hok⟩ := open_atr_cells hwt hm
  exact ⟨a, rfl, hok⟩
end
end Go.Proofs.YtjpkemamfccfdaaGreatDoor
/- Policies, and what they are of, that come in. -/
namespace Go.Proofs.YtjpkemamfccfdaaGreatDoor
set_option linter.unusedVariables false
open Go.RowKit Go.ChangeShapes Go.WideShapes

instance : Inhabited Mat := ⟨⟨zeroA, 0, zeroV⟩⟩
instance : Inhabited Nod := ⟨⟨0, zeroV, zeroA⟩⟩
instance : Inhabited Dut := ⟨⟨0, 0, ByteArray.empty⟩⟩
instance : Inhabited Rul := ⟨⟨ByteArray.empty, false, [], [], []⟩⟩
instance : Inhabited Pol := ⟨.mk ByteArray.empty false 0 [] [] [] []⟩

section
variable {H : Type} {enc : TypeId × Value → H} {w : World} {base : Nat} {spare : Nat → Bool} {held : Bool}

theorem bytes_dut : Tryz.prog.bytesOf 56 = 32 := by kernel_rfl
theorem bytes_nod : Tryz.prog.bytesOf 52 = 72 := by kernel_rfl
theorem bytes_mat : Tryz.prog.bytesOf 48 = 72 := by kernel_rfl
theorem bytes_s1 : Tryz.prog.bytesOf 49 = 24 := by kernel_rfl
theorem bytes_s2 : Tryz.prog.bytesOf 50 = 24 := by kernel_rfl
theorem bytes_rul : Tryz.prog.bytesOf 54 = 96 := by kernel_rfl
theorem bytes_pol : Tryz.prog.bytesOf 28 = 128 := by kernel_rfl
theorem open_dut_cells {m : Nat} {cs : List Value} {y : DataW H × List MemPlace} (hwt : Wt Tryz.prog 56 y.1) (h : DataW.trod enc Tryz.prog w base spare held m 56 cs = some y) : ∃ a : Dut, cs = a.cells ∧ a.ok := by
  obtain ⟨m', _, hlen, y0, y1, y2, ⟨q0, q1, q2⟩, g0, g1, g2⟩ := fields3 Tryz.underlying56 hwt h
  obtain ⟨v0, v1, v2, rfl⟩ := len3 (hlen.trans (show Tryz.prog.cellsOf 56 = 3 by kernel_rfl))
  have g0 : DataW.trod enc Tryz.prog w base spare held m' 3 (([v0, v1, v2] : List Value).drop 0 |>.take (Tryz.prog.cellsOf 3)) = some y0 := g0
  rw [show Tryz.prog.cellsOf 3 = 1 by kernel_rfl] at g0
  have g1 : DataW.trod enc Tryz.prog w base spare held m' 3 (([v0, v1, v2] : List Value).drop 1 |>.take (Tryz.prog.cellsOf 3)) = some y1 := g1
  rw [show Tryz.prog.cellsOf 3 = 1 by kernel_rfl] at g1
  have g2 : DataW.trod enc Tryz.prog w base spare held m' 9 (([v0, v1, v2] : List Value).drop 2 |>.take (Tryz.prog.cellsOf 9)) = some y2 := g2
  rw [show Tryz.prog.cellsOf 9 = 1 by kernel_rfl] at g2
  obtain ⟨x0, e0, _, w0⟩ := DataW.trod_int Tryz.underlying3 (show DataW.trod enc Tryz.prog w base spare held m' 3 [v0] = some y0 from g0)
  obtain ⟨x1, e1, _, w1⟩ := DataW.trod_int Tryz.underlying3 (show DataW.trod enc Tryz.prog w base spare held m' 3 [v1] = some y1 from g1)
  obtain ⟨x2, e2, _, w2⟩ := DataW.trod_string Tryz.underlying9 (show DataW.trod enc Tryz.prog w base spare held m' 9 [v2] = some y2 from g2)
  injection e0 with e0
  injection e1 with e1
  injection e2 with e2
  subst e0 e1 e2
  exact ⟨⟨x0, x1, x2⟩, rfl, wf_bounds w0, wf_bounds w1, w2⟩
theorem open_mat_cells {m : Nat} {cs : List Value} {y : DataW H × List MemPlace} (hwt : Wt Tryz.prog 48 y.1) (h : DataW.trod enc Tryz.prog w base spare held m 48 cs = some y) : ∃ a : Mat, cs = a.cells ∧ a.ok := by
  obtain ⟨m', _, hlen, y0, y1, y2, ⟨q0, q1, q2⟩, g0, g1, g2⟩ := fields3 Tryz.underlying48 hwt h
  obtain ⟨v0, v1, v2, v3, v4, v5, v6, rfl⟩ := len7 (hlen.trans (show Tryz.prog.cellsOf 48 = 7 by kernel_rfl))
  have g0 : DataW.trod enc Tryz.prog w base spare held m' 31 (([v0, v1, v2, v3, v4, v5, v6] : List Value).drop 0 |>.take (Tryz.prog.cellsOf 31)) = some y0 := g0
  rw [show Tryz.prog.cellsOf 31 = 3 by kernel_rfl] at g0
  obtain ⟨x0, e0, w0⟩ := open_atr_cells q0 (show DataW.trod enc Tryz.prog w base spare held m' 31 [v0, v1, v2] = some y0 from g0)
  simp [Atr.cells] at e0
  have g1 : DataW.trod enc Tryz.prog w base spare held m' 3 (([v0, v1, v2, v3, v4, v5, v6] : List Value).drop 3 |>.take (Tryz.prog.cellsOf 3)) = some y1 := g1
  rw [show Tryz.prog.cellsOf 3 = 1 by kernel_rfl] at g1
  obtain ⟨x1, e1, _, w1⟩ := DataW.trod_int Tryz.underlying3 (show DataW.trod enc Tryz.prog w base spare held m' 3 [v3] = some y1 from g1)
  injection e1 with e1
  have g2 : DataW.trod enc Tryz.prog w base spare held m' 46 (([v0, v1, v2, v3, v4, v5, v6] : List Value).drop 4 |>.take (Tryz.prog.cellsOf 46)) = some y2 := g2
  rw [show Tryz.prog.cellsOf 46 = 3 by kernel_rfl] at g2
  obtain ⟨x2, e2, w2⟩ := open_vl_cells q2 (show DataW.trod enc Tryz.prog w base spare held m' 46 [v4, v5, v6] = some y2 from g2)
  simp [Vl.cells] at e2
  obtain ⟨rfl, rfl, rfl⟩ := e0
  subst e1
  obtain ⟨rfl, rfl, rfl⟩ := e2
  exact ⟨⟨x0, x1, x2⟩, rfl, w0, wf_bounds w1, w2⟩
theorem open_nod_cells {m : Nat} {cs : List Value} {y : DataW H × List MemPlace} (hwt : Wt Tryz.prog 52 y.1) (h : DataW.trod enc Tryz.prog w base spare held m 52 cs = some y) : ∃ a : Nod, cs = a.cells ∧ a.ok := by
  obtain ⟨m', _, hlen, y0, y1, y2, ⟨q0, q1, q2⟩, g0, g1, g2⟩ := fields3 Tryz.underlying52 hwt h
  obtain ⟨v0, v1, v2, v3, v4, v5, v6, rfl⟩ := len7 (hlen.trans (show Tryz.prog.cellsOf 52 = 7 by kernel_rfl))
  have g0 : DataW.trod enc Tryz.prog w base spare held m' 3 (([v0, v1, v2, v3, v4, v5, v6] : List Value).drop 0 |>.take (Tryz.prog.cellsOf 3)) = some y0 := g0
  rw [show Tryz.prog.cellsOf 3 = 1 by kernel_rfl] at g0
  obtain ⟨x0, e0, _, w0⟩ := DataW.trod_int Tryz.underlying3 (show DataW.trod enc Tryz.prog w base spare held m' 3 [v0] = some y0 from g0)
  injection e0 with e0
  have g1 : DataW.trod enc Tryz.prog w base spare held m' 46 (([v0, v1, v2, v3, v4, v5, v6] : List Value).drop 1 |>.take (Tryz.prog.cellsOf 46)) = some y1 := g1
  rw [show Tryz.prog.cellsOf 46 = 3 by kernel_rfl] at g1
  obtain ⟨x1, e1, w1⟩ := open_vl_cells q1 (show DataW.trod enc Tryz.prog w base spare held m' 46 [v1, v2, v3] = some y1 from g1)
  simp [Vl.cells] at e1
  have g2 : DataW.trod enc Tryz.prog w base spare held m' 31 (([v0, v1, v2, v3, v4, v5, v6] : List Value).drop 4 |>.take (Tryz.prog.cellsOf 31)) = some y2 := g2
  rw [show Tryz.prog.cellsOf 31 = 3 by kernel_rfl] at g2
  obtain ⟨x2, e2, w2⟩ := open_atr_cells q2 (show DataW.trod enc Tryz.prog w base spare held m' 31 [v4, v5, v6] = some y2 from g2)
  simp [Atr.cells] at e2
  subst e0
  obtain ⟨rfl, rfl, rfl⟩ := e1
  obtain ⟨rfl, rfl, rfl⟩ := e2
  exact ⟨⟨x0, x1, x2⟩, rfl, wf_bounds w0, w1, w2⟩

theorem open_duts_f {m n c : Nat} {A : Option Addr} {x : DataW H × List MemPlace} (hwt : Wt Tryz.prog 26 x.1) (h : DataW.trod enc Tryz.prog w base spare held m 26 [.slice A n c] = some x) : ∃ l, Dus w (fun _ => True) A n c l :=
  open_rows Tryz.underlying26 (by kernel_rfl) (by omega) (by rw [bytes_dut]; omega) (fun m cs y _ _ q h => open_dut_cells q h) hwt h
theorem open_nods_f {m n c : Nat} {A : Option Addr} {x : DataW H × List MemPlace} (hwt : Wt Tryz.prog 29 x.1) (h : DataW.trod enc Tryz.prog w base spare held m 29 [.slice A n c] = some x) : ∃ l, Nds w (fun _ => True) A n c l :=
  open_rows Tryz.underlying29 (by kernel_rfl) (by omega) (by rw [bytes_nod]; omega) (fun m cs y _ _ q h => open_nod_cells q h) hwt h
theorem open_mats_f {m n c : Nat} {A : Option Addr} {x : DataW H × List MemPlace} (hwt : Wt Tryz.prog 49 x.1) (h : DataW.trod enc Tryz.prog w base spare held m 49 [.slice A n c] = some x) : ∃ l, Ms w (fun _ => True) A n c l :=
  open_rows Tryz.underlying49 (by kernel_rfl) (by omega) (by rw [bytes_mat]; omega) (fun m cs y _ _ q h => open_mat_cells q h) hwt h
theorem open_alls_f {m n c : Nat} {A : Option Addr} {x : DataW H × List MemPlace} (hwt : Wt Tryz.prog 50 x.1) (h : DataW.trod enc Tryz.prog w base spare held m 50 [.slice A n c] = some x) : ∃ l, Als w (fun _ => True) A n c l :=
  open_rows Tryz.underlying50 (by kernel_rfl) (by omega) (by rw [bytes_s1]; omega) (fun m cs y _ hl q h => by
    match cs, hl with
    | [v], _ =>
      obtain ⟨A', n', c', rfl⟩ := slice_cells Tryz.underlying49 h
      obtain ⟨l, hl⟩ := open_mats_f q h
      exact ⟨l, A', n', c', rfl, hl⟩) hwt h
theorem open_anys_f {m n c : Nat} {A : Option Addr} {x : DataW H × List MemPlace} (hwt : Wt Tryz.prog 23 x.1) (h : DataW.trod enc Tryz.prog w base spare held m 23 [.slice A n c] = some x) : ∃ l, Tg w (fun _ => True) A n c l :=
  open_rows Tryz.underlying23 (by kernel_rfl) (by omega) (by rw [bytes_s2]; omega) (fun m cs y _ hl q h => by
    match cs, hl with
    | [v], _ =>
      obtain ⟨A', n', c', rfl⟩ := slice_cells Tryz.underlying50 h
      obtain ⟨l, hl⟩ := open_alls_f q h
      exact ⟨l, A', n', c', rfl, hl⟩) hwt h
theorem open_rul_cells {m : Nat} {cs : List Value} {y : DataW H × List MemPlace} (hwt : Wt Tryz.prog 54 y.1) (h : DataW.trod enc Tryz.prog w base spare held m 54 cs = some y) : ∃ r : Rul, RulAt w (fun _ => True) cs r := by
  obtain ⟨m', _, hlen, y0, y1, y2, y3, y4, ⟨q0, q1, q2, q3, q4⟩, g0, g1, g2, g3, g4⟩ := fields5 Tryz.underlying54 hwt h
  obtain ⟨v0, v1, v2, v3, v4, rfl⟩ := len5 (hlen.trans (show Tryz.prog.cellsOf 54 = 5 by kernel_rfl))
  have g0 : DataW.trod enc Tryz.prog w base spare held m' 9 (([v0, v1, v2, v3, v4] : List Value).drop 0 |>.take (Tryz.prog.cellsOf 9)) = some y0 := g0
  have g1 : DataW.trod enc Tryz.prog w base spare held m' 4 (([v0, v1, v2, v3, v4] : List Value).drop 1 |>.take (Tryz.prog.cellsOf 4)) = some y1 := g1
  have g2 : DataW.trod enc Tryz.prog w base spare held m' 23 (([v0, v1, v2, v3, v4] : List Value).drop 2 |>.take (Tryz.prog.cellsOf 23)) = some y2 := g2
  have g3 : DataW.trod enc Tryz.prog w base spare held m' 29 (([v0, v1, v2, v3, v4] : List Value).drop 3 |>.take (Tryz.prog.cellsOf 29)) = some y3 := g3
  have g4 : DataW.trod enc Tryz.prog w base spare held m' 26 (([v0, v1, v2, v3, v4] : List Value).drop 4 |>.take (Tryz.prog.cellsOf 26)) = some y4 := g4
  rw [show Tryz.prog.cellsOf 9 = 1 by kernel_rfl] at g0
  rw [show Tryz.prog.cellsOf 4 = 1 by kernel_rfl] at g1
  rw [show Tryz.prog.cellsOf 23 = 1 by kernel_rfl] at g2
  rw [show Tryz.prog.cellsOf 29 = 1 by kernel_rfl] at g3
  rw [show Tryz.prog.cellsOf 26 = 1 by kernel_rfl] at g4
  have g2 : DataW.trod enc Tryz.prog w base spare held m' 23 [v2] = some y2 := g2
  have g3 : DataW.trod enc Tryz.prog w base spare held m' 29 [v3] = some y3 := g3
  have g4 : DataW.trod enc Tryz.prog w base spare held m' 26 [v4] = some y4 := g4
  obtain ⟨x0, e0, _, w0⟩ := DataW.trod_string Tryz.underlying9 (show DataW.trod enc Tryz.prog w base spare held m' 9 [v0] = some y0 from g0)
  obtain ⟨x1, e1, _⟩ := DataW.trod_bool Tryz.underlying4 (show DataW.trod enc Tryz.prog w base spare held m' 4 [v1] = some y1 from g1)
  injection e0 with e0
  injection e1 with e1
  subst e0 e1
  obtain ⟨A2, n2, c2, rfl⟩ := slice_cells Tryz.underlying23 g2
  obtain ⟨A3, n3, c3, rfl⟩ := slice_cells Tryz.underlying29 g3
  obtain ⟨A4, n4, c4, rfl⟩ := slice_cells Tryz.underlying26 g4
  obtain ⟨l2, h2⟩ := open_anys_f q2 g2
  obtain ⟨l3, h3⟩ := open_nods_f q3 g3
  obtain ⟨l4, h4⟩ := open_duts_f q4 g4
  exact ⟨⟨x0, x1, l2, l3, l4⟩, A2, n2, c2, A3, n3, c3, A4, n4, c4, rfl, w0, h2, h3, h4⟩
theorem open_ruls_f {m n c : Nat} {A : Option Addr} {x : DataW H × List MemPlace} (hwt : Wt Tryz.prog 24 x.1) (h : DataW.trod enc Tryz.prog w base spare held m 24 [.slice A n c] = some x) : ∃ l, Rus w (fun _ => True) A n c l :=
  open_rows Tryz.underlying24 (by kernel_rfl) (by omega) (by rw [bytes_rul]; omega) (fun m cs y _ _ q h => open_rul_cells q h) hwt h
theorem open_pol_cells : ∀ {m : Nat} {cs : List Value} {y : DataW H × List MemPlace}, Wt Tryz.prog 28 y.1 → DataW.trod enc Tryz.prog w base spare held m 28 cs = some y → ∃ p : Pol, PolAt w (fun _ => True) m cs p := by
  intro m
  induction m using Nat.strongRecOn with
  | ind m ih =>
  intro cs y hwt h
  obtain ⟨m', hm, hlen, y0, y1, y2, y3, y4, y5, y6, ⟨q0, q1, q2, q3, q4, q5, q6⟩, g0, g1, g2, g3, g4, g5, g6⟩ := fields7 Tryz.underlying28 hwt h
  obtain ⟨v0, v1, v2, v3, v4, v5, v6, rfl⟩ := len7 (hlen.trans (show Tryz.prog.cellsOf 28 = 7 by kernel_rfl))
  have g0 : DataW.trod enc Tryz.prog w base spare held m' 9 (([v0, v1, v2, v3, v4, v5, v6] : List Value).drop 0 |>.take (Tryz.prog.cellsOf 9)) = some y0 := g0
  rw [show Tryz.prog.cellsOf 9 = 1 by kernel_rfl] at g0
  have g0 : DataW.trod enc Tryz.prog w base spare held m' 9 [v0] = some y0 := g0
  have g1 : DataW.trod enc Tryz.prog w base spare held m' 4 (([v0, v1, v2, v3, v4, v5, v6] : List Value).drop 1 |>.take (Tryz.prog.cellsOf 4)) = some y1 := g1
  rw [show Tryz.prog.cellsOf 4 = 1 by kernel_rfl] at g1
  have g1 : DataW.trod enc Tryz.prog w base spare held m' 4 [v1] = some y1 := g1
  have g2 : DataW.trod enc Tryz.prog w base spare held m' 3 (([v0, v1, v2, v3, v4, v5, v6] : List Value).drop 2 |>.take (Tryz.prog.cellsOf 3)) = some y2 := g2
  rw [show Tryz.prog.cellsOf 3 = 1 by kernel_rfl] at g2
  have g2 : DataW.trod enc Tryz.prog w base spare held m' 3 [v2] = some y2 := g2
  have g3 : DataW.trod enc Tryz.prog w base spare held m' 23 (([v0, v1, v2, v3, v4, v5, v6] : List Value).drop 3 |>.take (Tryz.prog.cellsOf 23)) = some y3 := g3
  rw [show Tryz.prog.cellsOf 23 = 1 by kernel_rfl] at g3
  have g3 : DataW.trod enc Tryz.prog w base spare held m' 23 [v3] = some y3 := g3
  have g4 : DataW.trod enc Tryz.prog w base spare held m' 24 (([v0, v1, v2, v3, v4, v5, v6] : List Value).drop 4 |>.take (Tryz.prog.cellsOf 24)) = some y4 := g4
  rw [show Tryz.prog.cellsOf 24 = 1 by kernel_rfl] at g4
  have g4 : DataW.trod enc Tryz.prog w base spare held m' 24 [v4] = some y4 := g4
  have g5 : DataW.trod enc Tryz.prog w base spare held m' 25 (([v0, v1, v2, v3, v4, v5, v6] : List Value).drop 5 |>.take (Tryz.prog.cellsOf 25)) = some y5 := g5
  rw [show Tryz.prog.cellsOf 25 = 1 by kernel_rfl] at g5
  have g5 : DataW.trod enc Tryz.prog w base spare held m' 25 [v5] = some y5 := g5
  have g6 : DataW.trod enc Tryz.prog w base spare held m' 26 (([v0, v1, v2, v3, v4, v5, v6] : List Value).drop 6 |>.take (Tryz.prog.cellsOf 26)) = some y6 := g6
  rw [show Tryz.prog.cellsOf 26 = 1 by kernel_rfl] at g6
  have g6 : DataW.trod enc Tryz.prog w base spare held m' 26 [v6] = some y6 := g6
  obtain ⟨x0, e0, _, w0⟩ := DataW.trod_string Tryz.underlying9 g0
  obtain ⟨x1, e1, _⟩ := DataW.trod_bool Tryz.underlying4 g1
  obtain ⟨x2, e2, _, w2⟩ := DataW.trod_int Tryz.underlying3 g2
  injection e0 with e0
  injection e1 with e1
  injection e2 with e2
  subst e0 e1 e2
  obtain ⟨A3, n3, c3, rfl⟩ := slice_cells Tryz.underlying23 g3
  obtain ⟨A4, n4, c4, rfl⟩ := slice_cells Tryz.underlying24 g4
  obtain ⟨A5, n5, c5, rfl⟩ := slice_cells Tryz.underlying25 g5
  obtain ⟨A6, n6, c6, rfl⟩ := slice_cells Tryz.underlying26 g6
  obtain ⟨l3, h3⟩ := open_anys_f q3 g3
  obtain ⟨l4, h4⟩ := open_ruls_f q4 g4
  obtain ⟨l6, h6⟩ := open_duts_f q6 g6
  have hk : ∃ l, Rw 7 (PolAt w (fun _ => True) m') w (fun _ => True) A5 n5 c5 l :=
    open_rows Tryz.underlying25 (by kernel_rfl) (by omega) (by rw [bytes_pol]; omega) (fun q cs y hq _ hw h => by
      obtain ⟨p, hp⟩ := ih q (by omega) hw h
      exact ⟨p, PolAt.more (by omega) hp⟩) q5 g5
  obtain ⟨l5, h5⟩ := hk
  subst hm
  exact ⟨.mk x0 x1 x2 l3 l4 l5 l6, A3, n3, c3, A4, n4, c4, A5, n5, c5, A6, n6, c6, rfl, w0, wf_bounds w2, h3, h4, h5, h6⟩

theorem open_duts {n c : Nat} {A : Option Addr} {d : DataW H} {p : List MemPlace} (hwt : Wt Tryz.prog 26 d) (h : DataW.Trod enc Tryz.prog w base spare held 26 (.slice A n c) d p) : ∃ l, Dus w (fun _ => True) A n c l := by
  obtain ⟨m, hm⟩ := h
  exact open_duts_f hwt hm
theorem open_nods {n c : Nat} {A : Option Addr} {d : DataW H} {p : List MemPlace} (hwt : Wt Tryz.prog 29 d) (h : DataW.Trod enc Tryz.prog w base spare held 29 (.slice A n c) d p) : ∃ l, Nds w (fun _ => True) A n c l := by
  obtain ⟨m, hm⟩ := h
  exact open_nods_f hwt hm
theorem open_tgt {n c : Nat} {A : Option Addr} {d : DataW H} {p : List MemPlace} (hwt : Wt Tryz.prog 23 d) (h : DataW.Trod enc Tryz.prog w base spare held 23 (.slice A n c) d p) : ∃ l, Tg w (fun _ => True) A n c l := by
  obtain ⟨m, hm⟩ := h
  exact open_anys_f hwt hm
set_option maxRecDepth 100000 in
theorem open_pol {r : Reach} {b0 : Nat} {v : Value} {d : DataW H} {p : List MemPlace} (hv : Value.okWide Tryz.prog w r b0 28 v) (hwt : Wt Tryz.prog 28 d) (h : DataW.Trod enc Tryz.prog w base spare held 28 v d p) :
    ∃ (P : Pol) (A1 : Option Addr) (n1 k1 : Nat) (A2 : Option Addr) (n2 k2 : Nat) (A3 : Option Addr) (n3 k3 : Nat) (A4 : Option Addr) (n4 k4 : Nat), v = .agg #[.string P.id, .bool P.set, .int .i64 P.alg, .slice A1 n1 k1, .slice A2 n2 k2, .slice A3 n3 k3, .slice A4 n4 k4] ∧ PolIn w (fun _ => True) P A1 n1 k1 A2 n2 k2 A3 n3 k3 A4 n4 k4 := by
  obtain ⟨cs, m, rfl, hm⟩ := open_struct Tryz.underlying28 hv h
  obtain ⟨P, hP⟩ := open_pol_cells hwt hm
  clear hm hv h
  match m, hP with
  | d + 1, ⟨A1, n1, k1, A2, n2, k2, A3, n3, k3, A4, n4, k4, e, h0, h00, h1, h2, h3, h4⟩ =>
    exact ⟨P, A1, n1, k1, A2, n2, k2, A3, n3, k3, A4, n4, k4, congrArg (fun x : List Value => Value.agg x.toArray) e, ⟨h0, h00⟩, h1, h2, ⟨d, h3⟩, h4⟩
end
end Go.Proofs.YtjpkemamfccfdaaGreatDoor
/- The law ShowRuns: chapter 10's runs. -/
namespace Go.Proofs.YtjpkemamfccfdaaGreatDoor
set_option linter.unusedVariables false
open Go.RowKit Go.Sort

def sM1 : Mat := ⟨⟨3, ⟨#[111, 119, 110, 101, 114]⟩, true⟩, 1, ⟨5, 0, ⟨#[97, 110, 110]⟩⟩⟩
def sM2 : Mat := ⟨⟨3, ⟨#[111, 119, 110, 101, 114]⟩, true⟩, 1, ⟨2, 1, ⟨#[]⟩⟩⟩
def sN1 : Nod := ⟨1, ⟨1, 1, ⟨#[]⟩⟩, ⟨0, ⟨#[]⟩, false⟩⟩
def sN2 : Nod := ⟨11, ⟨0, 0, ⟨#[]⟩⟩, ⟨0, ⟨#[]⟩, false⟩⟩
def sR : Rul := ⟨⟨#[114]⟩, true, [[[sM1], [sM2]]], [sN1, sN2], []⟩
def sD : Dut := ⟨1, 1, ⟨#[120]⟩⟩
def sP : Pol := .mk ⟨#[112]⟩ false 1 [] [sR] [] [sD]
theorem itoa_1 : Lib.itoa 1 = [49] := by
  unfold Lib.itoa
  rw [if_neg (by decide), Lib.decDigits]
  decide
theorem sP_right : rightE sP = 0 := by kernel_rfl
theorem sM1_t : matT sM1 = [99, 97, 115, 101, 46, 111, 119, 110, 101, 114, 33, 32, 61, 32, 35, 97, 110, 110] := by decide +kernel
theorem sM2_t : matT sM2 = [99, 97, 115, 101, 46, 111, 119, 110, 101, 114, 33, 32, 61, 32, 49] := by
  have e : showB sM2.v = Lib.itoa 1 := by decide +kernel
  unfold matT
  rw [e, itoa_1]
  decide +kernel
theorem sP_text : showP sP = [112, 111, 108, 105, 99, 121, 32, 112, 32, 100, 101, 110, 121, 111, 118, 101, 114, 32, 123, 32, 100, 101, 110, 121, 32, 114, 32, 119, 104, 101, 110, 32, 40, 99, 97, 115, 101, 46, 111, 119, 110, 101, 114, 33, 32, 61, 32, 35, 97, 110, 110, 32, 111, 114, 32, 99, 97, 115, 101, 46, 111, 119, 110, 101, 114, 33, 32, 61, 32, 49, 41, 32, 105, 102, 32, 40, 110, 111, 116, 32, 116, 114, 117, 101, 41, 59, 32, 125, 32, 111, 110, 32, 112, 101, 114, 109, 105, 116, 32, 108, 111, 103, 32, 120] := by
  rw [showP_right sP_right]
  have h1 : tgW sR.tg = [[119, 104, 101, 110], 40 :: (matT sM1 ++ ([32, 111, 114, 32] ++ matT sM2) ++ [41])] := by
    unfold tgW
    rw [if_neg (by simp [sR])]
    simp [sR, tgT, anyT, allT, Lib.join_cons, Lib.joinTail]
  have h2 : condW sR.cond = [[105, 102], [40, 110, 111, 116, 32, 116, 114, 117, 101, 41]] := by decide +kernel
  have h3 : rulT sR = Lib.join (effW true :: bl sR.id :: (tgW sR.tg ++ condW sR.cond ++ [])) [32] ++ [59] := rfl
  have h4 : polW 4 sP = [headW sP, bl sP.id, algW 1, [123], rulT sR, [125], dutT sD] := rfl
  unfold polT
  rw [h4, h3, h1, h2, sM1_t, sM2_t]
  decide +kernel

section
variable {W : World} {g : Nat}
theorem Ob.row {α : Type} {k : Nat} {P : List Value → α → Prop} {t : TypeId} {cs : Array Value} (h : Ob W g t cs) {n : Nat} {l : List α} (f : α → Nat → List Value) (hl : l.length = n) (hn : n ≤ 1000)
    (hf : ∀ j x, l[j]? = some x → (f x j).length = k ∧ P (f x j) x ∧ ∀ i v, (f x j)[i]? = some v → cs[j * k + i]? = some v) : Rw k P W (fun _ => True) (some ⟨g, 0, none⟩) n n l :=
  ⟨hl, Nat.le_refl _, ⟨by unfold maxLen; omega, by omega⟩, .inr ⟨g, 0, rfl, trivial, h.lt, fun j x hx => ⟨f x j, (hf j x hx).1, fun i v hv => by rw [Nat.zero_add]; exact (h.cell _).trans ((hf j x hx).2.2 i v hv), (hf j x hx).2.1⟩⟩⟩
theorem one_at {α : Type} {x y : α} {j : Nat} (h : [x][j]? = some y) : j = 0 ∧ y = x := by
  cases j with
  | zero => simp at h; exact ⟨rfl, h.symm⟩
  | succ j => simp at h
theorem two_at {α : Type} {x y z : α} {j : Nat} (h : [x, y][j]? = some z) : j = 0 ∧ z = x ∨ j = 1 ∧ z = y := by
  match j, h with
  | 0, h => simp at h; exact .inl ⟨rfl, h.symm⟩
  | 1, h => simp at h; exact .inr ⟨rfl, h.symm⟩
  | j + 2, h => simp at h
theorem ob_ms {m : Mat} (h : Ob W g 48 m.cells.toArray) (hok : m.ok) : Ms W (fun _ => True) (some ⟨g, 0, none⟩) 1 1 [m] :=
  h.row (fun x _ => x.cells) rfl (by omega) fun j x hx => by
    obtain ⟨rfl, rfl⟩ := one_at hx
    exact ⟨rfl, ⟨rfl, hok⟩, fun i v hv => by rw [Nat.zero_mul, Nat.zero_add]; simpa using hv⟩
theorem ob_als {a b : Value} {x y : List Mat} (h : Ob W g 49 #[a, b]) (h1 : ∃ A n c, a = .slice A n c ∧ Ms W (fun _ => True) A n c x) (h2 : ∃ A n c, b = .slice A n c ∧ Ms W (fun _ => True) A n c y) : Als W (fun _ => True) (some ⟨g, 0, none⟩) 2 2 [x, y] :=
  h.row (fun _ j => if j = 0 then [a] else [b]) rfl (by omega) fun j z hz => by
    rcases two_at hz with ⟨rfl, rfl⟩ | ⟨rfl, rfl⟩
    · refine ⟨rfl, ?_, fun i v hv => ?_⟩
      · obtain ⟨A, n, c, e, hm⟩ := h1; exact ⟨A, n, c, by rw [e]; rfl, hm⟩
      · cases i with
        | zero => simpa using hv
        | succ i => simp at hv
    · refine ⟨rfl, ?_, fun i v hv => ?_⟩
      · obtain ⟨A, n, c, e, hm⟩ := h2; exact ⟨A, n, c, by rw [e]; rfl, hm⟩
      · cases i with
        | zero => simpa using hv
        | succ i => simp at hv
theorem ob_tg {a : Value} {x : List (List Mat)} (h : Ob W g 50 #[a]) (h1 : ∃ A n c, a = .slice A n c ∧ Als W (fun _ => True) A n c x) : Tg W (fun _ => True) (some ⟨g, 0, none⟩) 1 1 [x] :=
  h.row (fun _ j => [a]) rfl (by omega) fun j z hz => by
    obtain ⟨rfl, rfl⟩ := one_at hz
    obtain ⟨A, n, c, e, hm⟩ := h1
    refine ⟨rfl, ⟨A, n, c, by rw [e], hm⟩, fun i v hv => ?_⟩
    cases i with
    | zero => simpa using hv
    | succ i => simp at hv
theorem ob_nds {x y : Nod} (h : Ob W g 52 (x.cells ++ y.cells).toArray) (hx : x.ok) (hy : y.ok) : Nds W (fun _ => True) (some ⟨g, 0, none⟩) 2 2 [x, y] :=
  h.row (fun z _ => z.cells) rfl (by omega) fun j z hz => by
    rcases two_at hz with ⟨rfl, rfl⟩ | ⟨rfl, rfl⟩
    · refine ⟨rfl, ⟨rfl, hx⟩, fun i v hv => ?_⟩
      have hi : i < 7 := by
        rcases Nat.lt_or_ge i 7 with h | h
        · exact h
        · rw [List.getElem?_eq_none (by simpa [Nod.cells] using h)] at hv; cases hv
      rw [Nat.zero_mul, Nat.zero_add, List.getElem?_toArray, List.getElem?_append_left (by simpa [Nod.cells] using hi)]
      exact hv
    · refine ⟨rfl, ⟨rfl, hy⟩, fun i v hv => ?_⟩
      rw [List.getElem?_toArray, List.getElem?_append_right (by simp [Nod.cells])]
      rw [show 1 * 7 + i - x.cells.length = i by simp [Nod.cells]]
      exact hv
theorem ob_rus {r : Rul} {a b d : Value} (h : Ob W g 54 #[.string r.id, .bool r.deny, a, b, d]) (h0 : r.id.size ≤ maxLen) (h1 : ∃ A n c, a = .slice A n c ∧ Tg W (fun _ => True) A n c r.tg) (h2 : ∃ A n c, b = .slice A n c ∧ Nds W (fun _ => True) A n c r.cond) (h3 : ∃ A n c, d = .slice A n c ∧ Dus W (fun _ => True) A n c r.ob) : Rus W (fun _ => True) (some ⟨g, 0, none⟩) 1 1 [r] :=
  h.row (fun _ j => [.string r.id, .bool r.deny, a, b, d]) rfl (by omega) fun j z hz => by
    obtain ⟨rfl, rfl⟩ := one_at hz
    obtain ⟨A1, n1, c1, e1, t1⟩ := h1
    obtain ⟨A2, n2, c2, e2, t2⟩ := h2
    obtain ⟨A3, n3, c3, e3, t3⟩ := h3
    refine ⟨rfl, ⟨A1, n1, c1, A2, n2, c2, A3, n3, c3, by rw [e1, e2, e3], h0, t1, t2, t3⟩, fun i v hv => ?_⟩
    rw [Nat.zero_mul, Nat.zero_add]
    simpa using hv
theorem ob_dus {o : Dut} (h : Ob W g 56 o.cells.toArray) (hok : o.ok) : Dus W (fun _ => True) (some ⟨g, 0, none⟩) 1 1 [o] :=
  h.row (fun x _ => x.cells) rfl (by omega) fun j x hx => by
    obtain ⟨rfl, rfl⟩ := one_at hx
    exact ⟨rfl, ⟨rfl, hok⟩, fun i v hv => by rw [Nat.zero_mul, Nat.zero_add]; simpa using hv⟩
end
theorem made10 {w W : World} {t : TypeId} {cs : Array Value} {g : Nat} (hb : Below (w.alloc (.cells cs t)).heap.size (w.alloc (.cells cs t)) W) (hg : g = w.heap.size) : Ob W g t cs := by
  subst hg
  exact Ob.below (Ob.made _ _ _) hb (by simp)

theorem runs10_in (w : World) : Below w.heap.size w ((((((((((w.alloc (.cells #[.int .i64 3, .string ⟨#[111, 119, 110, 101, 114]⟩, .bool true] 31)).alloc (.cells #[.int .i64 3, .string ⟨#[111, 119, 110, 101, 114]⟩, .bool true, .int .i64 1, .int .i64 5, .int .i64 0, .string ⟨#[97, 110, 110]⟩] 48)).alloc (.cells #[.int .i64 3, .string ⟨#[111, 119, 110, 101, 114]⟩, .bool true, .int .i64 1, .int .i64 2, .int .i64 1, .string ⟨#[]⟩] 48)).alloc (.cells #[.slice (some ⟨w.heap.size + 1, 0, none⟩) 1 1, .slice (some ⟨w.heap.size + 1 + 1, 0, none⟩) 1 1] 49)).alloc (.cells #[.slice (some ⟨w.heap.size + 1 + 1 + 1, 0, none⟩) 2 2] 50)).alloc (.cells #[.int .i64 1, .int .i64 1, .int .i64 1, .string ⟨#[]⟩, .int .i64 0, .string ⟨#[]⟩, .bool false, .int .i64 11, .int .i64 0, .int .i64 0, .string ⟨#[]⟩, .int .i64 0, .string ⟨#[]⟩, .bool false] 52)).alloc (.cells #[.string ⟨#[114]⟩, .bool true, .slice (some ⟨w.heap.size + 1 + 1 + 1 + 1, 0, none⟩) 1 1, .slice (some ⟨w.heap.size + 1 + 1 + 1 + 1 + 1, 0, none⟩) 2 2, .slice none 0 0] 54)).alloc (.cells #[.string ⟨#[114]⟩, .bool true, .slice (some ⟨w.heap.size + 1 + 1 + 1 + 1, 0, none⟩) 1 1, .slice (some ⟨w.heap.size + 1 + 1 + 1 + 1 + 1, 0, none⟩) 2 2, .slice none 0 0] 54)).alloc (.cells #[.int .i64 1, .int .i64 1, .string ⟨#[120]⟩] 56)).alloc (.cells #[.string ⟨#[112]⟩, .bool false, .int .i64 1, .slice none 0 0, .slice (some ⟨w.heap.size + 1 + 1 + 1 + 1 + 1 + 1 + 1, 0, none⟩) 1 1, .slice none 0 0, .slice (some ⟨w.heap.size + 1 + 1 + 1 + 1 + 1 + 1 + 1 + 1, 0, none⟩) 1 1] 28)) ∧ Ob ((((((((((w.alloc (.cells #[.int .i64 3, .string ⟨#[111, 119, 110, 101, 114]⟩, .bool true] 31)).alloc (.cells #[.int .i64 3, .string ⟨#[111, 119, 110, 101, 114]⟩, .bool true, .int .i64 1, .int .i64 5, .int .i64 0, .string ⟨#[97, 110, 110]⟩] 48)).alloc (.cells #[.int .i64 3, .string ⟨#[111, 119, 110, 101, 114]⟩, .bool true, .int .i64 1, .int .i64 2, .int .i64 1, .string ⟨#[]⟩] 48)).alloc (.cells #[.slice (some ⟨w.heap.size + 1, 0, none⟩) 1 1, .slice (some ⟨w.heap.size + 1 + 1, 0, none⟩) 1 1] 49)).alloc (.cells #[.slice (some ⟨w.heap.size + 1 + 1 + 1, 0, none⟩) 2 2] 50)).alloc (.cells #[.int .i64 1, .int .i64 1, .int .i64 1, .string ⟨#[]⟩, .int .i64 0, .string ⟨#[]⟩, .bool false, .int .i64 11, .int .i64 0, .int .i64 0, .string ⟨#[]⟩, .int .i64 0, .string ⟨#[]⟩, .bool false] 52)).alloc (.cells #[.string ⟨#[114]⟩, .bool true, .slice (some ⟨w.heap.size + 1 + 1 + 1 + 1, 0, none⟩) 1 1, .slice (some ⟨w.heap.size + 1 + 1 + 1 + 1 + 1, 0, none⟩) 2 2, .slice none 0 0] 54)).alloc (.cells #[.string ⟨#[114]⟩, .bool true, .slice (some ⟨w.heap.size + 1 + 1 + 1 + 1, 0, none⟩) 1 1, .slice (some ⟨w.heap.size + 1 + 1 + 1 + 1 + 1, 0, none⟩) 2 2, .slice none 0 0] 54)).alloc (.cells #[.int .i64 1, .int .i64 1, .string ⟨#[120]⟩] 56)).alloc (.cells #[.string ⟨#[112]⟩, .bool false, .int .i64 1, .slice none 0 0, .slice (some ⟨w.heap.size + 1 + 1 + 1 + 1 + 1 + 1 + 1, 0, none⟩) 1 1, .slice none 0 0, .slice (some ⟨w.heap.size + 1 + 1 + 1 + 1 + 1 + 1 + 1 + 1, 0, none⟩) 1 1] 28)) (w.heap.size + 1 + 1 + 1 + 1 + 1 + 1 + 1 + 1 + 1) 28 #[.string ⟨#[112]⟩, .bool false, .int .i64 1, .slice none 0 0, .slice (some ⟨w.heap.size + 1 + 1 + 1 + 1 + 1 + 1 + 1, 0, none⟩) 1 1, .slice none 0 0, .slice (some ⟨w.heap.size + 1 + 1 + 1 + 1 + 1 + 1 + 1 + 1, 0, none⟩) 1 1] ∧
    PolIn ((((((((((w.alloc (.cells #[.int .i64 3, .string ⟨#[111, 119, 110, 101, 114]⟩, .bool true] 31)).alloc (.cells #[.int .i64 3, .string ⟨#[111, 119, 110, 101, 114]⟩, .bool true, .int .i64 1, .int .i64 5, .int .i64 0, .string ⟨#[97, 110, 110]⟩] 48)).alloc (.cells #[.int .i64 3, .string ⟨#[111, 119, 110, 101, 114]⟩, .bool true, .int .i64 1, .int .i64 2, .int .i64 1, .string ⟨#[]⟩] 48)).alloc (.cells #[.slice (some ⟨w.heap.size + 1, 0, none⟩) 1 1, .slice (some ⟨w.heap.size + 1 + 1, 0, none⟩) 1 1] 49)).alloc (.cells #[.slice (some ⟨w.heap.size + 1 + 1 + 1, 0, none⟩) 2 2] 50)).alloc (.cells #[.int .i64 1, .int .i64 1, .int .i64 1, .string ⟨#[]⟩, .int .i64 0, .string ⟨#[]⟩, .bool false, .int .i64 11, .int .i64 0, .int .i64 0, .string ⟨#[]⟩, .int .i64 0, .string ⟨#[]⟩, .bool false] 52)).alloc (.cells #[.string ⟨#[114]⟩, .bool true, .slice (some ⟨w.heap.size + 1 + 1 + 1 + 1, 0, none⟩) 1 1, .slice (some ⟨w.heap.size + 1 + 1 + 1 + 1 + 1, 0, none⟩) 2 2, .slice none 0 0] 54)).alloc (.cells #[.string ⟨#[114]⟩, .bool true, .slice (some ⟨w.heap.size + 1 + 1 + 1 + 1, 0, none⟩) 1 1, .slice (some ⟨w.heap.size + 1 + 1 + 1 + 1 + 1, 0, none⟩) 2 2, .slice none 0 0] 54)).alloc (.cells #[.int .i64 1, .int .i64 1, .string ⟨#[120]⟩] 56)).alloc (.cells #[.string ⟨#[112]⟩, .bool false, .int .i64 1, .slice none 0 0, .slice (some ⟨w.heap.size + 1 + 1 + 1 + 1 + 1 + 1 + 1, 0, none⟩) 1 1, .slice none 0 0, .slice (some ⟨w.heap.size + 1 + 1 + 1 + 1 + 1 + 1 + 1 + 1, 0, none⟩) 1 1] 28)) (fun _ => True) sP none 0 0 (some ⟨w.heap.size + 1 + 1 + 1 + 1 + 1 + 1 + 1, 0, none⟩) 1 1 none 0 0 (some ⟨w.heap.size + 1 + 1 + 1 + 1 + 1 + 1 + 1 + 1, 0, none⟩) 1 1 := by
  obtain ⟨w1, h1⟩ : ∃ x, x = w.alloc (.cells #[.int .i64 3, .string ⟨#[111, 119, 110, 101, 114]⟩, .bool true] 31) := ⟨_, rfl⟩
  rw [← h1]
  have b1 : Below w.heap.size w w1 := h1 ▸ al9' _ _
  have s1 : w1.heap.size = w.heap.size + 1 := by rw [h1]; exact size_al _ _
  obtain ⟨w2, h2⟩ : ∃ x, x = w1.alloc (.cells #[.int .i64 3, .string ⟨#[111, 119, 110, 101, 114]⟩, .bool true, .int .i64 1, .int .i64 5, .int .i64 0, .string ⟨#[97, 110, 110]⟩] 48) := ⟨_, rfl⟩
  rw [← h2]
  have b2 : Below w1.heap.size w1 w2 := h2 ▸ al9' _ _
  have s2 : w2.heap.size = w1.heap.size + 1 := by rw [h2]; exact size_al _ _
  obtain ⟨w3, h3⟩ : ∃ x, x = w2.alloc (.cells #[.int .i64 3, .string ⟨#[111, 119, 110, 101, 114]⟩, .bool true, .int .i64 1, .int .i64 2, .int .i64 1, .string ⟨#[]⟩] 48) := ⟨_, rfl⟩
  rw [← h3]
  have b3 : Below w2.heap.size w2 w3 := h3 ▸ al9' _ _
  have s3 : w3.heap.size = w2.heap.size + 1 := by rw [h3]; exact size_al _ _
  obtain ⟨w4, h4⟩ : ∃ x, x = w3.alloc (.cells #[.slice (some ⟨w.heap.size + 1, 0, none⟩) 1 1, .slice (some ⟨w.heap.size + 1 + 1, 0, none⟩) 1 1] 49) := ⟨_, rfl⟩
  rw [← h4]
  have b4 : Below w3.heap.size w3 w4 := h4 ▸ al9' _ _
  have s4 : w4.heap.size = w3.heap.size + 1 := by rw [h4]; exact size_al _ _
  obtain ⟨w5, h5⟩ : ∃ x, x = w4.alloc (.cells #[.slice (some ⟨w.heap.size + 1 + 1 + 1, 0, none⟩) 2 2] 50) := ⟨_, rfl⟩
  rw [← h5]
  have b5 : Below w4.heap.size w4 w5 := h5 ▸ al9' _ _
  have s5 : w5.heap.size = w4.heap.size + 1 := by rw [h5]; exact size_al _ _
  obtain ⟨w6, h6⟩ : ∃ x, x = w5.alloc (.cells #[.int .i64 1, .int .i64 1, .int .i64 1, .string ⟨#[]⟩, .int .i64 0, .string ⟨#[]⟩, .bool false, .int .i64 11, .int .i64 0, .int .i64 0, .string ⟨#[]⟩, .int .i64 0, .string ⟨#[]⟩, .bool false] 52) := ⟨_, rfl⟩
  rw [← h6]
  have b6 : Below w5.heap.size w5 w6 := h6 ▸ al9' _ _
  have s6 : w6.heap.size = w5.heap.size + 1 := by rw [h6]; exact size_al _ _
  obtain ⟨w7, h7⟩ : ∃ x, x = w6.alloc (.cells #[.string ⟨#[114]⟩, .bool true, .slice (some ⟨w.heap.size + 1 + 1 + 1 + 1, 0, none⟩) 1 1, .slice (some ⟨w.heap.size + 1 + 1 + 1 + 1 + 1, 0, none⟩) 2 2, .slice none 0 0] 54) := ⟨_, rfl⟩
  rw [← h7]
  have b7 : Below w6.heap.size w6 w7 := h7 ▸ al9' _ _
  have s7 : w7.heap.size = w6.heap.size + 1 := by rw [h7]; exact size_al _ _
  obtain ⟨w8, h8⟩ : ∃ x, x = w7.alloc (.cells #[.string ⟨#[114]⟩, .bool true, .slice (some ⟨w.heap.size + 1 + 1 + 1 + 1, 0, none⟩) 1 1, .slice (some ⟨w.heap.size + 1 + 1 + 1 + 1 + 1, 0, none⟩) 2 2, .slice none 0 0] 54) := ⟨_, rfl⟩
  rw [← h8]
  have b8 : Below w7.heap.size w7 w8 := h8 ▸ al9' _ _
  have s8 : w8.heap.size = w7.heap.size + 1 := by rw [h8]; exact size_al _ _
  obtain ⟨w9, h9⟩ : ∃ x, x = w8.alloc (.cells #[.int .i64 1, .int .i64 1, .string ⟨#[120]⟩] 56) := ⟨_, rfl⟩
  rw [← h9]
  have b9 : Below w8.heap.size w8 w9 := h9 ▸ al9' _ _
  have s9 : w9.heap.size = w8.heap.size + 1 := by rw [h9]; exact size_al _ _
  obtain ⟨w10, h10⟩ : ∃ x, x = w9.alloc (.cells #[.string ⟨#[112]⟩, .bool false, .int .i64 1, .slice none 0 0, .slice (some ⟨w.heap.size + 1 + 1 + 1 + 1 + 1 + 1 + 1, 0, none⟩) 1 1, .slice none 0 0, .slice (some ⟨w.heap.size + 1 + 1 + 1 + 1 + 1 + 1 + 1 + 1, 0, none⟩) 1 1] 28) := ⟨_, rfl⟩
  rw [← h10]
  have b10 : Below w9.heap.size w9 w10 := h10 ▸ al9' _ _
  have s10 : w10.heap.size = w9.heap.size + 1 := by rw [h10]; exact size_al _ _
  have e10 : Below w10.heap.size w10 w10 := Below.refl _ _
  have e9 : Below w9.heap.size w9 w10 := below_step b10 e10
  have e8 : Below w8.heap.size w8 w10 := below_step b9 e9
  have e7 : Below w7.heap.size w7 w10 := below_step b8 e8
  have e6 : Below w6.heap.size w6 w10 := below_step b7 e7
  have e5 : Below w5.heap.size w5 w10 := below_step b6 e6
  have e4 : Below w4.heap.size w4 w10 := below_step b5 e5
  have e3 : Below w3.heap.size w3 w10 := below_step b4 e4
  have e2 : Below w2.heap.size w2 w10 := below_step b3 e3
  have e1 : Below w1.heap.size w1 w10 := below_step b2 e2
  have e0 : Below w.heap.size w w10 := below_step b1 e1
  have o1 : Ob w10 (w.heap.size) 31 #[.int .i64 3, .string ⟨#[111, 119, 110, 101, 114]⟩, .bool true] := made10 (h1 ▸ e1) (by omega)
  have o2 : Ob w10 (w.heap.size + 1) 48 #[.int .i64 3, .string ⟨#[111, 119, 110, 101, 114]⟩, .bool true, .int .i64 1, .int .i64 5, .int .i64 0, .string ⟨#[97, 110, 110]⟩] := made10 (h2 ▸ e2) (by omega)
  have o3 : Ob w10 (w.heap.size + 1 + 1) 48 #[.int .i64 3, .string ⟨#[111, 119, 110, 101, 114]⟩, .bool true, .int .i64 1, .int .i64 2, .int .i64 1, .string ⟨#[]⟩] := made10 (h3 ▸ e3) (by omega)
  have o4 : Ob w10 (w.heap.size + 1 + 1 + 1) 49 #[.slice (some ⟨w.heap.size + 1, 0, none⟩) 1 1, .slice (some ⟨w.heap.size + 1 + 1, 0, none⟩) 1 1] := made10 (h4 ▸ e4) (by omega)
  have o5 : Ob w10 (w.heap.size + 1 + 1 + 1 + 1) 50 #[.slice (some ⟨w.heap.size + 1 + 1 + 1, 0, none⟩) 2 2] := made10 (h5 ▸ e5) (by omega)
  have o6 : Ob w10 (w.heap.size + 1 + 1 + 1 + 1 + 1) 52 #[.int .i64 1, .int .i64 1, .int .i64 1, .string ⟨#[]⟩, .int .i64 0, .string ⟨#[]⟩, .bool false, .int .i64 11, .int .i64 0, .int .i64 0, .string ⟨#[]⟩, .int .i64 0, .string ⟨#[]⟩, .bool false] := made10 (h6 ▸ e6) (by omega)
  have o7 : Ob w10 (w.heap.size + 1 + 1 + 1 + 1 + 1 + 1) 54 #[.string ⟨#[114]⟩, .bool true, .slice (some ⟨w.heap.size + 1 + 1 + 1 + 1, 0, none⟩) 1 1, .slice (some ⟨w.heap.size + 1 + 1 + 1 + 1 + 1, 0, none⟩) 2 2, .slice none 0 0] := made10 (h7 ▸ e7) (by omega)
  have o8 : Ob w10 (w.heap.size + 1 + 1 + 1 + 1 + 1 + 1 + 1) 54 #[.string ⟨#[114]⟩, .bool true, .slice (some ⟨w.heap.size + 1 + 1 + 1 + 1, 0, none⟩) 1 1, .slice (some ⟨w.heap.size + 1 + 1 + 1 + 1 + 1, 0, none⟩) 2 2, .slice none 0 0] := made10 (h8 ▸ e8) (by omega)
  have o9 : Ob w10 (w.heap.size + 1 + 1 + 1 + 1 + 1 + 1 + 1 + 1) 56 #[.int .i64 1, .int .i64 1, .string ⟨#[120]⟩] := made10 (h9 ▸ e9) (by omega)
  have o10 : Ob w10 (w.heap.size + 1 + 1 + 1 + 1 + 1 + 1 + 1 + 1 + 1) 28 #[.string ⟨#[112]⟩, .bool false, .int .i64 1, .slice none 0 0, .slice (some ⟨w.heap.size + 1 + 1 + 1 + 1 + 1 + 1 + 1, 0, none⟩) 1 1, .slice none 0 0, .slice (some ⟨w.heap.size + 1 + 1 + 1 + 1 + 1 + 1 + 1 + 1, 0, none⟩) 1 1] := by
    have hh := Ob.made w9 28 #[.string ⟨#[112]⟩, .bool false, .int .i64 1, .slice none 0 0, .slice (some ⟨w.heap.size + 1 + 1 + 1 + 1 + 1 + 1 + 1, 0, none⟩) 1 1, .slice none 0 0, .slice (some ⟨w.heap.size + 1 + 1 + 1 + 1 + 1 + 1 + 1 + 1, 0, none⟩) 1 1]
    rw [← h10, show w9.heap.size = w.heap.size + 1 + 1 + 1 + 1 + 1 + 1 + 1 + 1 + 1 by omega] at hh
    exact hh
  have m1 := ob_ms (m := sM1) o2 (by decide +kernel)
  have m2 := ob_ms (m := sM2) o3 (by decide +kernel)
  have al := ob_als o4 ⟨_, _, _, rfl, m1⟩ ⟨_, _, _, rfl, m2⟩
  have tg := ob_tg o5 ⟨_, _, _, rfl, al⟩
  have nd := ob_nds (x := sN1) (y := sN2) o6 (by decide +kernel) (by decide +kernel)
  have ru := ob_rus (r := sR) o8 (by decide +kernel) ⟨_, _, _, rfl, tg⟩ ⟨_, _, _, rfl, nd⟩ ⟨_, _, _, rfl, Rw.nil_ _ _ _ _⟩
  have du := ob_dus (o := sD) o9 (by decide +kernel)
  exact ⟨e0, o10, ⟨by decide +kernel, by decide +kernel⟩, Rw.nil_ _ _ _ _, ru, ⟨1, Rw.nil_ _ _ _ _⟩, du⟩

set_option maxHeartbeats 3200000 in
set_option maxRecDepth 100000 in
theorem runs10_any (w : World) (ht : Tbl w) : Calls Tryz.prog 5 #[] w fun e w' => e = .returned (.bool true) ∧ Below w.heap.size w w' := by
  obtain ⟨hb, ob, hin⟩ := runs10_in w
  have HC := Lib.hid (show_pol hin (ht.then_ hb))
  rw [sP_text] at HC
  have HB := Lib.hid hb
  have c0 := ob.cell 0
  have c1 := ob.cell 1
  have c2 := ob.cell 2
  have c3 := ob.cell 3
  have c4 := ob.cell 4
  have c5 := ob.cell 5
  have c6 := ob.cell 6
  clear hb ob hin ht
  go_enter Tryz.func5, Tryz.ntmps5
  go_wp2_with (go_at_call 11; refine HC.out.mono ?_; rintro e w1 ⟨rfl, hb1⟩; have B1 := Lib.hid (HB.out.trans (hb1.mono HB.out.size)))
  go_ret
  exact ⟨rfl, B1.out⟩
theorem showRuns_walk (w : World) (ht : Tbl w) : Calls Tryz.prog 5 #[] w fun e w' => e = .returned (.bool true) ∧ Below w.heap.size w w' := runs10_any w ht
end Go.Proofs.YtjpkemamfccfdaaGreatDoor
/- Calls of Right and Small, in any later world. -/
namespace Go.Proofs.YtjpkemamfccfdaaGreatDoor
set_option linter.unusedVariables false
open Go.RowKit

section
variable {w : World} {R : Nat → Prop} {p : Pol} {A1 A2 A3 A4 : Option Addr} {n1 k1 n2 k2 n3 k3 n4 k4 : Nat}
theorem call_right {r : Int} (hr : rightE p = r) (h : PolIn w R p A1 n1 k1 A2 n2 k2 A3 n3 k3 A4 n4 k4) (V : World) (hV : Below w.heap.size w V) :
    Calls Tryz.prog 23 #[.agg #[.string p.id, .bool p.set, .int .i64 p.alg, .slice A1 n1 k1, .slice A2 n2 k2, .slice A3 n3 k3, .slice A4 n4 k4]] V fun e w' => e = .returned (.int .i64 r) ∧ Below V.heap.size V w' := by
  have := right_pol (h.then_ hV)
  rwa [hr] at this
/-- Is it small? Whatever it is, it is so of the policy alone. -/
theorem call_small (h : PolIn w R p A1 n1 k1 A2 n2 k2 A3 n3 k3 A4 n4 k4) : ∃ d, (∃ m, d = m + 1 ∧ Pls w R m A3 n3 k3 p.kids) ∧ ∀ V, Below w.heap.size w V →
    Calls Tryz.prog 4 #[.agg #[.string p.id, .bool p.set, .int .i64 p.alg, .slice A1 n1 k1, .slice A2 n2 k2, .slice A3 n3 k3, .slice A4 n4 k4]] V fun e w' => e = .returned (.bool (decide (polC d p ≤ 3000))) ∧ Below V.heap.size V w' := by
  obtain ⟨h0, h1, h2, ⟨m, h3⟩, h4⟩ := h
  refine ⟨m + 1, ⟨m, rfl, h3⟩, fun V hV => ?_⟩
  have hk := Kept.all hV R
  exact small_pol h0.1 (h1.keep hk (fun _ h _ => h)) (h2.keep hk (fun _ h _ => h)) (h3.keep hk (fun _ h _ => h)) (h4.keep hk (fun _ h _ => h))
end
end Go.Proofs.YtjpkemamfccfdaaGreatDoor
