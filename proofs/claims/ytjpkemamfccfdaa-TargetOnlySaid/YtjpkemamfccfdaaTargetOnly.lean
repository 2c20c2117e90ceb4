/- TargetOnly: the walk. -/
import Derived.Test.YtjpkemamfccfdaaTgtC
import Derived.Test.YtjpkemamfccfdaaTgtB
namespace Go.Proofs.Ytjpkemamfccfdaa
set_option linter.unusedVariables false
open Go.RowKit Go.Sort

/-- So are these ahead. -/
def UpTo {α : Type} (P : α → Prop) (l : List α) (k : Nat) : Prop := ∀ j x, l[j]? = some x → j < k → P x
theorem UpTo.zero {α : Type} (P : α → Prop) (l : List α) : UpTo P l 0 := fun _ _ _ h => absurd h (Nat.not_lt_zero _)
theorem UpTo.step {α : Type} {P : α → Prop} {l : List α} {k : Nat} {x : α} (h : UpTo P l k) (hx : l[k]? = some x) (h2 : P x) : UpTo P l (k + 1) := fun j y hy hj => by
  by_cases e : j = k
  · subst e
    obtain rfl := Option.some.inj (hx.symm.trans hy)
    exact h2
  · exact h j y hy (by omega)
theorem UpTo.all {α : Type} {P : α → Prop} {l : List α} {n : Nat} (h : UpTo P l n) (hn : l.length = n) : ∀ x ∈ l, P x := fun x hx => by
  obtain ⟨j, hj, rfl⟩ := List.getElem_of_mem hx
  exact h j _ (List.getElem?_eq_getElem hj) (by omega)
/-- Does a match name another attribute than this one? -/
def FreeM (g : Giv) (m : Mat) : Prop := ¬ (m.a.cat = g.cat ∧ m.a.name = g.name)
def FreeA (g : Giv) (l : List Mat) : Prop := ∀ m ∈ l, FreeM g m
def FreeO (g : Giv) (l : List (List Mat)) : Prop := ∀ a ∈ l, FreeA g a
theorem free_match {g : Giv} {m : Mat} (h : FreeM g m) (ask : List Giv) : matchI (withA ask g) m = matchI ask m := by
  unfold matchI
  rw [with_getE h, with_getR h]
theorem free_met {g : Giv} {t : Tgt} (h : ∀ o ∈ t, FreeO g o) (ask : List Giv) : metI (withA ask g) t = metI ask t :=
  least_same fun o ho => most_same fun a ha => least_same fun m hm => free_match (h o ho a ha m hm) ask
theorem tright_is {w : World} {R : Nat → Prop} {A : Option Addr} {n c : Nat} {l : List Giv} {r : Int} (hr : rightA l = r) (h : Gvs w R A n c l) :
    Calls Try.prog 21 #[.slice A n c] w fun e w' => e = .returned (.int .i64 r) ∧ Below w.heap.size w w' := by
  have := aright_any h
  rwa [hr] at this
theorem Ob.c3' {w : World} {g : Nat} {t : TypeId} {a b c : Value} (h : Ob w g t #[a, b, c]) : w.cell? ⟨g, 0, none⟩ = some a ∧ w.cell? ⟨g, 1, none⟩ = some b ∧ w.cell? ⟨g, 2, none⟩ = some c := ⟨h.cell 0, h.cell 1, h.cell 2⟩

set_option maxRecDepth 100000 in
set_option maxHeartbeats 12800000 in
theorem targetOnly_walk (W : World) (A0 : Option Addr) (n0 c0 : Nat) (h0 : ∃ l, Tg W (fun _ => True) A0 n0 c0 l) (A2 : Option Addr) (n2 c2 : Nat) (h2 : ∃ l, Gvs W (fun _ => True) A2 n2 c2 l) (g : Giv) {A3 : Option Addr} {n3 c3 : Nat} (hg : g.ok ∧ Vls W (fun _ => True) A3 n3 c3 g.bag) :
    Calls Try.prog 7 #[.slice A0 n0 c0, .slice A2 n2 c2, .agg #[.int .i64 g.cat, .string g.name, .slice A3 n3 c3]] W fun e w' => e = .returned (.bool true) ∧ Below W.heap.size W w' := by
  obtain ⟨t, h0⟩ := h0
  obtain ⟨ask, h2⟩ := h2
  obtain ⟨hgo, hgv⟩ := hg
  obtain ⟨gc, gn, gb⟩ := g
  simp only at hgv ⊢
  have B0 : Hid (Below W.heap.size W (W.alloc (.cells #[.int .i64 gc, .string gn, .slice A3 n3 c3] 48))) := (Below.refl _ _).alloc (Nat.le_refl _) _
  have O0 : Hid (Ob (W.alloc (.cells #[.int .i64 gc, .string gn, .slice A3 n3 c3] 48)) W.heap.size 48 #[.int .i64 gc, .string gn, .slice A3 n3 c3]) := Ob.made _ _ _
  have hle := Rw.le h0
  have hcap := Rw.cap h0
  have HL := Lib.hid (Rw.len h0)
  unfold maxLen at hcap
  have HL2 := Lib.hid (Rw.len h2)
  have HL3 := Lib.hid (Rw.len hgv)
  have T0 := Lib.hid (Tg.up' h0 B0.out)
  have G0 := Lib.hid (Gvs.up' h2 B0.out)
  have V0 := Lib.hid (Vls.up' hgv B0.out)
  have HGO := Lib.hid hgo
  clear h0 h2 hgo hgv
  go_enter Try.func7, Try.ntmps7
  go_upto_region 1 with fail
  obtain ⟨w0, hw0⟩ : ∃ w0, W.alloc (.cells #[.int .i64 gc, .string gn, .slice A3 n3 c3] 48) = w0 := ⟨_, rfl⟩
  rw [hw0] at B0 O0 T0 G0 V0
  rw [hw0]
  clear hw0
  have KG := Lib.hid (fun V (hV : Below w0.heap.size w0 V) => (O0.out.below hV O0.out.lt).c3')
  have OG := Lib.hid (fun V (hV : Below w0.heap.size w0 V) => one_giv (w := V) ⟨gc, gn, gb⟩ HGO.out (Vls.up' V0.out hV))
  by_cases s0 : tgS t ≤ 3000
  rotate_left
  · have S0 := Lib.hid (fun V (hV : Below w0.heap.size w0 V) => tgsmall_is (decide_eq_false s0) (T0.out.up' hV))
    clear s0
    go_wp2_with (first
      | (go_at_call 14; (with_reducible refine (S0.out w0 (Below.refl _ _)).mono ?_); rintro e u1 ⟨rfl, hb⟩; have G1 := Lib.hid hb; clear hb)
      | (go_at_call 3; refine (tgruns_any _).mono ?_; rintro e u9 ⟨rfl, hb⟩; have G9 := Lib.hid (below_step G1.out hb); clear hb))
    go_ret
    exact ⟨rfl, below_step B0.out G9.out⟩
  have S0 := Lib.hid (fun V (hV : Below w0.heap.size w0 V) => tgsmall_is (decide_eq_true s0) (T0.out.up' hV))
  clear s0
  by_cases s2 : fewC ask ≤ 1200
  rotate_left
  · have F1 := Lib.hid (fun V (hV : Below w0.heap.size w0 V) => tgfew_is (decide_eq_false s2) (G0.out.up' hV))
    clear s2
    go_wp2_with (first
      | (go_at_call 14; (with_reducible refine (S0.out w0 (Below.refl _ _)).mono ?_); rintro e u1 ⟨rfl, hb⟩; have G1 := Lib.hid hb; clear hb)
      | (go_at_call 15; (with_reducible refine (F1.out _ G1.out).mono ?_); rintro e u2 ⟨rfl, hb⟩; have G2 := Lib.hid (below_step G1.out hb); obtain ⟨q0, q1, q2⟩ := KG.out _ G2.out; have og := OG.out _ G2.out; clear hb)
      | (go_at_call 3; refine (tgruns_any _).mono ?_; rintro e u9 ⟨rfl, hb⟩; have G9 := Lib.hid (below_step G2.out hb); clear hb))
    go_ret
    exact ⟨rfl, below_step B0.out G9.out⟩
  have F1 := Lib.hid (fun V (hV : Below w0.heap.size w0 V) => tgfew_is (decide_eq_true s2) (G0.out.up' hV))
  by_cases s3 : fewC [⟨gc, gn, gb⟩] ≤ 1200
  rotate_left
  · have F2 := Lib.hid (fun (V : World) (h : Gvs (V.alloc (.cells #[.int .i64 gc, .string gn, .slice A3 n3 c3] 48)) (fun _ => True) (some ⟨V.heap.size, 0, none⟩) 1 1 [⟨gc, gn, gb⟩]) => tgfew_is (decide_eq_false s3) h)
    clear s2 s3
    go_wp2_with (first
      | (go_at_call 14; (with_reducible refine (S0.out w0 (Below.refl _ _)).mono ?_); rintro e u1 ⟨rfl, hb⟩; have G1 := Lib.hid hb; clear hb)
      | (go_at_call 15; (with_reducible refine (F1.out _ G1.out).mono ?_); rintro e u2 ⟨rfl, hb⟩; have G2 := Lib.hid (below_step G1.out hb); obtain ⟨q0, q1, q2⟩ := KG.out _ G2.out; have og := OG.out _ G2.out; clear hb)
      | (go_at_call 15; (with_reducible refine (F2.out u2 og).mono ?_); rintro e u3 ⟨rfl, hb⟩; have G3 := Lib.hid (below_step G2.out (Below.lit hb)); clear hb og q0 q1 q2)
      | (go_at_call 3; refine (tgruns_any _).mono ?_; rintro e u9 ⟨rfl, hb⟩; have G9 := Lib.hid (below_step G3.out hb); clear hb))
    go_ret
    exact ⟨rfl, below_step B0.out G9.out⟩
  have F2 := Lib.hid (fun (V : World) (h : Gvs (V.alloc (.cells #[.int .i64 gc, .string gn, .slice A3 n3 c3] 48)) (fun _ => True) (some ⟨V.heap.size, 0, none⟩) 1 1 [⟨gc, gn, gb⟩]) => tgfew_is (decide_eq_true s3) h)
  have HS := Lib.hid (few_short s2)
  have HN := Lib.hid (few_names s2)
  have HN2 := Lib.hid (few_len s2)
  have HGS := Lib.hid ((few_short s3) ⟨gc, gn, gb⟩ (by simp))
  have HGN := Lib.hid ((few_names s3) ⟨gc, gn, gb⟩ (by simp))
  clear s2 s3
  by_cases r1 : rightA ask = 0
  rotate_left
  · obtain ⟨r, hr⟩ : ∃ r, rightA ask = r := ⟨_, rfl⟩
    have R1 := Lib.hid (fun V (hV : Below w0.heap.size w0 V) => tright_is hr (G0.out.up' hV))
    rw [hr] at r1
    have hne : (r != 0) = true := by rw [bne_iff_ne]; exact r1
    clear r1 hr
    go_wp2_with (first
      | (go_at_call 14; (with_reducible refine (S0.out w0 (Below.refl _ _)).mono ?_); rintro e u1 ⟨rfl, hb⟩; have G1 := Lib.hid hb; clear hb)
      | (go_at_call 15; (with_reducible refine (F1.out _ G1.out).mono ?_); rintro e u2 ⟨rfl, hb⟩; have G2 := Lib.hid (below_step G1.out hb); obtain ⟨q0, q1, q2⟩ := KG.out _ G2.out; have og := OG.out _ G2.out; clear hb)
      | (go_at_call 15; (with_reducible refine (F2.out u2 og).mono ?_); rintro e u3 ⟨rfl, hb⟩; have G3 := Lib.hid (below_step G2.out (Below.lit hb)); clear hb og q0 q1 q2)
      | (go_at_call 21; (with_reducible refine (R1.out _ G3.out).mono ?_); rintro e u4 ⟨rfl, hb⟩; have G4 := Lib.hid (below_step G3.out hb); obtain ⟨q0, q1, q2⟩ := KG.out _ G4.out; have og := OG.out _ G4.out; clear hb)
      | (go_at_call 3; refine (tgruns_any _).mono ?_; rintro e u9 ⟨rfl, hb⟩; have G9 := Lib.hid (below_step G4.out hb); clear hb))
    go_ret
    exact ⟨rfl, below_step B0.out G9.out⟩
  have R1 := Lib.hid (fun V (hV : Below w0.heap.size w0 V) => tright_is r1 (G0.out.up' hV))
  clear r1
  by_cases r2 : rightA [⟨gc, gn, gb⟩] = 0
  rotate_left
  · obtain ⟨r, hr⟩ : ∃ r, rightA [⟨gc, gn, gb⟩] = r := ⟨_, rfl⟩
    have R2 := Lib.hid (fun (V : World) (h : Gvs (V.alloc (.cells #[.int .i64 gc, .string gn, .slice A3 n3 c3] 48)) (fun _ => True) (some ⟨V.heap.size, 0, none⟩) 1 1 [⟨gc, gn, gb⟩]) => tright_is hr h)
    rw [hr] at r2
    have hne : (r != 0) = true := by rw [bne_iff_ne]; exact r2
    clear r2 hr
    go_wp2_with (first
      | (go_at_call 14; (with_reducible refine (S0.out w0 (Below.refl _ _)).mono ?_); rintro e u1 ⟨rfl, hb⟩; have G1 := Lib.hid hb; clear hb)
      | (go_at_call 15; (with_reducible refine (F1.out _ G1.out).mono ?_); rintro e u2 ⟨rfl, hb⟩; have G2 := Lib.hid (below_step G1.out hb); obtain ⟨q0, q1, q2⟩ := KG.out _ G2.out; have og := OG.out _ G2.out; clear hb)
      | (go_at_call 15; (with_reducible refine (F2.out u2 og).mono ?_); rintro e u3 ⟨rfl, hb⟩; have G3 := Lib.hid (below_step G2.out (Below.lit hb)); clear hb og q0 q1 q2)
      | (go_at_call 21; (with_reducible refine (R1.out _ G3.out).mono ?_); rintro e u4 ⟨rfl, hb⟩; have G4 := Lib.hid (below_step G3.out hb); obtain ⟨q0, q1, q2⟩ := KG.out _ G4.out; have og := OG.out _ G4.out; clear hb)
      | (go_at_call 21; (with_reducible refine (R2.out u4 og).mono ?_); rintro e u5 ⟨rfl, hb⟩; have G5 := Lib.hid (below_step G4.out (Below.lit hb)); clear hb og q0 q1 q2)
      | (go_at_call 3; refine (tgruns_any _).mono ?_; rintro e u9 ⟨rfl, hb⟩; have G9 := Lib.hid (below_step G5.out hb); clear hb))
    go_ret
    exact ⟨rfl, below_step B0.out G9.out⟩
  have R2 := Lib.hid (fun (V : World) (h : Gvs (V.alloc (.cells #[.int .i64 gc, .string gn, .slice A3 n3 c3] 48)) (fun _ => True) (some ⟨V.heap.size, 0, none⟩) 1 1 [⟨gc, gn, gb⟩]) => tright_is r2 h)
  clear r2
  go_upto_region 3 with (first
      | (go_at_call 14; (with_reducible refine (S0.out w0 (Below.refl _ _)).mono ?_); rintro e u1 ⟨rfl, hb⟩; have G1 := Lib.hid hb; clear hb)
      | (go_at_call 15; (with_reducible refine (F1.out _ G1.out).mono ?_); rintro e u2 ⟨rfl, hb⟩; have G2 := Lib.hid (below_step G1.out hb); obtain ⟨q0, q1, q2⟩ := KG.out _ G2.out; have og := OG.out _ G2.out; clear hb)
      | (go_at_call 15; (with_reducible refine (F2.out u2 og).mono ?_); rintro e u3 ⟨rfl, hb⟩; have G3 := Lib.hid (below_step G2.out (Below.lit hb)); clear hb og q0 q1 q2)
      | (go_at_call 21; (with_reducible refine (R1.out _ G3.out).mono ?_); rintro e u4 ⟨rfl, hb⟩; have G4 := Lib.hid (below_step G3.out hb); obtain ⟨q0, q1, q2⟩ := KG.out _ G4.out; have og := OG.out _ G4.out; clear hb)
      | (go_at_call 21; (with_reducible refine (R2.out u4 og).mono ?_); rintro e u5 ⟨rfl, hb⟩; have G5 := Lib.hid (below_step G4.out (Below.lit hb)); clear hb og q0 q1 q2))
  clear S0 F1 F2 R1 R2 G1 G2 G3 G4 OG
  go_wp2
  go_loopw [41] (fun i wr => ∃ j : Nat, j ≤ n0 ∧ i = .int .i64 j ∧ UpTo (FreeO ⟨gc, gn, gb⟩) t j ∧ Below w0.heap.size w0 wr) (fun i _ => n0 - (intOf i).toNat)
  case atStart => exact ⟨0, Nat.zero_le _, rfl, UpTo.zero _ _, G5.out⟩
  case round =>
    obtain ⟨j, hj, rfl, hf, hb⟩ := hrel
    have HF := Lib.hid hf
    have HB := Lib.hid hb
    clear hf hb
    by_cases hlt : j < n0
    case neg =>
      obtain rfl : j = n0 := by omega
      have HFR := Lib.hid (free_met (HF.out.all HL.out) ask)
      have CM := Lib.hid (fun V (hV : Below w0.heap.size w0 V) => tgmet_any (T0.out.up' hV) (G0.out.up' hV) HS.out)
      have CW := Lib.hid (fun V (hV : Below w0.heap.size w0 V) => awith_any (w := V) ⟨gc, gn, gb⟩ (G0.out.up' hV) HS.out HN.out (by have := HN2.out; have := HL2.out; omega) HGO.out (Vls.up' V0.out hV) HGS.out.1 (by have := HGS.out.2; have := HL3.out; omega) HGN.out)
      have HSH := Lib.hid (with_short (g := ⟨gc, gn, gb⟩) HS.out HGS.out)
      have HN9 : Hid (n2 + 1 ≤ 1000000) := by show _ ≤ _; have := HN2.out; have := HL2.out; omega
      generalize metI ask t = rm at *
      go_upto_region 17 with fail
      have S0 : Hid (Below wr.heap.size wr wr) := Below.refl _ _
      refine wp_region_held_tail (fun w' => Below wr.heap.size wr w') 12 (by kernel_rfl) (by kernel_rfl) ?_
      intro G
      change HeadW _ _ _ _ _ _ _ _ _ _ (wr.drewN 1)
      have S := Lib.hid (below_drewN S0.out 1)
      generalize wr.drewN 1 = y0 at *
      refine HeadW_take (i := 0) (v := ?_) G rfl (by kernel_rfl) (by kernel_rfl) (by kernel_rfl) (fun _ _ _ h => h) (Or.inl ⟨by rfl, ?_⟩) S.out ?_
      rotate_left
      · intro wz hS
        go_simp
        try with_reducible rfl
      refine HeadW_take (i := 1) (v := ?_) G rfl (by kernel_rfl) (by kernel_rfl) (by kernel_rfl) (fun _ _ _ h => h) (Or.inl ⟨by rfl, ?_⟩) S.out ?_
      rotate_left
      · intro wz hS
        go_simp
        try with_reducible rfl
      refine HeadW_take (i := 3) (v := ?_) G rfl (by kernel_rfl) (by kernel_rfl) (by kernel_rfl) (fun _ _ _ h => h) (Or.inl ⟨by rfl, ?_⟩) S.out ?_
      rotate_left
      · intro wz hS
        go_simp
        try with_reducible rfl
      refine HeadW_take (i := 4) (v := ?_) G rfl (by kernel_rfl) (by kernel_rfl) (by kernel_rfl) (fun _ _ _ h => h) (Or.inl ⟨by rfl, ?_⟩) S.out ?_
      rotate_left
      · intro wz hS
        go_simp
        try with_reducible rfl
      refine HeadW_take (i := 5) (v := ?_) G rfl (by kernel_rfl) (by kernel_rfl) (by kernel_rfl) (fun _ _ _ h => h) (Or.inl ⟨by rfl, ?_⟩) S.out ?_
      rotate_left
      · intro wz hS
        obtain ⟨k0, k1, k2⟩ := KG.out _ (below_step HB.out hS)
        go_simp
        try with_reducible rfl
      refine HeadW_ready (rs := [2]) (by kernel_rfl) rfl rfl ?_
      refine AllW.cons rfl (fun K hK => ?_) AllW.nil
      go_simp
      refine (CM.out _ (below_step HB.out S.out)).mono ?_
      rintro e y1 ⟨rfl, hb⟩
      have S := Lib.hid (S.out.trans (hb.mono S.out.size))
      refine hK _ _ S.out ?_
      clear hK K hb
      refine HeadW_ready (rs := [6]) (by kernel_rfl) rfl rfl ?_
      refine AllW.cons rfl (fun K hK => ?_) AllW.nil
      go_simp
      refine (CW.out _ (below_step HB.out S.out)).mono ?_
      rintro e y2 ⟨A8, n8, c8, rfl, hb, hn8, hgr⟩
      have GW := Lib.hid (Gr.gvs hgr (by have := HN9.out; omega))
      have S := Lib.hid (S.out.trans (hb.mono S.out.size))
      refine hK _ _ S.out ?_
      clear hK K hb
      clear hgr hn8
      refine HeadW_ready (rs := [7]) (by kernel_rfl) rfl rfl ?_
      refine AllW.cons rfl (fun K hK => ?_) AllW.nil
      go_simp
      refine (tgmet_is HFR.out (T0.out.up' (below_step HB.out S.out)) (GW.out.up' (Below.refl _ _)) HSH.out).mono ?_
      rintro e y3 ⟨rfl, hb⟩
      have S := Lib.hid (S.out.trans (hb.mono S.out.size))
      refine hK _ _ S.out ?_
      clear hK K hb
      refine HeadW_take (i := 8) (v := ?_) G rfl (by kernel_rfl) (by kernel_rfl) (by kernel_rfl) (fun _ _ _ h => h) (Or.inl ⟨by rfl, ?_⟩) S.out ?_
      rotate_left
      · intro wz hS
        go_simp
        try with_reducible rfl
      refine HeadW_take (i := 9) (v := ?_) G rfl (by kernel_rfl) (by kernel_rfl) (by kernel_rfl) (fun _ _ _ h => h) (Or.inl ⟨by rfl, ?_⟩) S.out ?_
      rotate_left
      · intro wz hS
        go_simp
        try with_reducible rfl
      refine HeadW_ready (rs := [10]) (by kernel_rfl) rfl rfl ?_
      refine AllW.cons rfl (fun K hK => ?_) AllW.nil
      go_simp
      refine (tgruns_any _).mono ?_
      rintro e y4 ⟨rfl, hb⟩
      have S := Lib.hid (S.out.trans (hb.mono S.out.size))
      refine hK _ _ S.out ?_
      clear hK K hb
      refine HeadW_take (i := 11) (v := ?_) G rfl (by kernel_rfl) (by kernel_rfl) (by kernel_rfl) (fun _ _ _ h => h) (Or.inl ⟨by rfl, ?_⟩) S.out ?_
      rotate_left
      · intro wz hS
        go_simp
        try with_reducible rfl
      intro _
      refine ⟨by kernel_rfl, ?_⟩
      simp only [List.drop_succ_cons, List.drop_zero]
      go_wp2_with fail
      go_ret
      exact ⟨rfl, below_step B0.out (below_step HB.out S.out)⟩
    obtain ⟨b, o, x, A4, n4, c4, rfl, _, _, hx, x0, hA⟩ := (T0.out.up' HB.out).at_ hlt
    have HX := Lib.hid hx
    have HL1 := Lib.hid (Rw.len hA)
    have hle1 := Rw.le hA
    have hcap1 := Rw.cap hA
    unfold maxLen at hcap1
    have HA := Lib.hid hA
    clear hx hA
    obtain ⟨w1, hw1⟩ : ∃ w1, w1 = wr := ⟨wr, rfl⟩
    subst hw1
    go_wp2_with fail
    go_loopw [47] (fun i wq => ∃ q : Nat, q ≤ n4 ∧ i = .int .i64 q ∧ UpTo (FreeA ⟨gc, gn, gb⟩) x q ∧ Below w1.heap.size w1 wq) (fun i _ => n4 - (intOf i).toNat)
    case atStart => exact ⟨0, Nat.zero_le _, rfl, UpTo.zero _ _, Below.refl _ _⟩
    case round =>
      clear x0
      obtain ⟨q, hq, rfl, hf, hbw⟩ := hrel
      have HF1 := Lib.hid hf
      have HB1 := Lib.hid (below_step HB.out hbw)
      have HBQ := Lib.hid hbw
      have HA1 := Lib.hid (HA.out.up' hbw)
      clear hbw hf
      by_cases hlt1 : q < n4
      case neg =>
        obtain rfl : q = n4 := by omega
        have HZ := Lib.hid (HF.out.step HX.out (HF1.out.all HL1.out))
        go_wp2_with fail
        go_roundw
        case rel => exact ⟨j + 1, by omega, by go_num, HZ.out, HB1.out⟩
        case measure => simp [intOf]; omega
      obtain ⟨b1, o1, y, A5, n5, c5, rfl, _, _, hy, y0, hM⟩ := HA1.out.at_ hlt1
      have HY := Lib.hid hy
      have HL2' := Lib.hid (Rw.len hM)
      have hle2 := Rw.le hM
      have hcap2 := Rw.cap hM
      unfold maxLen at hcap2
      have HMS := Lib.hid hM
      clear hy hM
      obtain ⟨w2, hw2⟩ : ∃ w2, w2 = wr := ⟨wr, rfl⟩
      subst hw2
      go_wp2_with fail
      go_loopw [53] (fun i wq => ∃ p : Nat, p ≤ n5 ∧ i = .int .i64 p ∧ UpTo (FreeM ⟨gc, gn, gb⟩) y p ∧ Below w2.heap.size w2 wq) (fun i _ => n5 - (intOf i).toNat)
      case atStart => exact ⟨0, Nat.zero_le _, rfl, UpTo.zero _ _, Below.refl _ _⟩
      case round =>
        clear y0
        obtain ⟨p, hp, rfl, hf, hbw⟩ := hrel
        have HF2 := Lib.hid hf
        have HB2 := Lib.hid (below_step HB1.out hbw)
        have HBP := Lib.hid hbw
        have HBQ2 := Lib.hid (below_step HBQ.out hbw)
        have HM1 := Lib.hid (HMS.out.up' hbw)
        clear hbw hf
        by_cases hlt2 : p < n5
        case neg =>
          obtain rfl : p = n5 := by omega
          have HZ := Lib.hid (HF1.out.step HY.out (HF2.out.all HL2'.out))
          go_wp2_with fail
          go_roundw
          case rel => exact ⟨q + 1, by omega, by go_num, HZ.out, HBQ2.out⟩
          case measure => simp [intOf]; omega
        obtain ⟨b2, o2, m, rfl, _, _, hm, hok, c0', c1', c2', c3', c4', c5', c6'⟩ := HM1.out.at_ hlt2
        have HMM := Lib.hid hm
        obtain ⟨⟨xc, xn, xu⟩, xo, ⟨xk, xnn, xs⟩⟩ := m
        simp only at c0' c1' c2' c3' c4' c5' c6'
        have BL := Lib.hid (below_step HB2.out ((Below.refl wr.heap.size wr).alloc (Nat.le_refl _) (.cells #[.int .i64 xc, .string xn, .bool xu, .int .i64 xo, .int .i64 xk, .int .i64 xnn, .string xs] 28)))
        have BLP := Lib.hid (below_step HBP.out ((Below.refl wr.heap.size wr).alloc (Nat.le_refl _) (.cells #[.int .i64 xc, .string xn, .bool xu, .int .i64 xo, .int .i64 xk, .int .i64 xnn, .string xs] 28)))
        obtain ⟨g0, g1, g2⟩ := KG.out _ BL.out
        have HTB := text_beq' xn gn
        clear hm hok
        by_cases h3 : xc = gc
        rotate_left
        · have hb3 : (xc == gc) = false := by rw [beq_eq_false_iff_ne]; exact h3
          have HZ := Lib.hid (HF2.out.step HMM.out (fun e => h3 e.1))
          clear h3
          go_wp2_with fail
          go_roundw
          case rel => exact ⟨p + 1, by omega, by go_num, HZ.out, BLP.out⟩
          case measure => simp [intOf]; omega
        subst xc
        by_cases h4 : xn = gn
        · rw [decide_eq_true h4] at HTB
          clear h4
          go_wp2_with (go_at_call 3; refine (tgruns_any _).mono ?_; rintro e w9 ⟨rfl, hb⟩; have K2 := Lib.hid (below_step BL.out hb); clear hb)
          go_ret
          exact ⟨rfl, below_step B0.out K2.out⟩
        · rw [decide_eq_false h4] at HTB
          have HZ := Lib.hid (HF2.out.step HMM.out (fun e => h4 e.2))
          clear h4
          go_wp2_with fail
          go_roundw
          case rel => exact ⟨p + 1, by omega, by go_num, HZ.out, BLP.out⟩
          case measure => simp [intOf]; omega
end Go.Proofs.Ytjpkemamfccfdaa
