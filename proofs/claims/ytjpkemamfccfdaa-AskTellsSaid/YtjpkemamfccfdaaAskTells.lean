/- AskTells: the walk. -/
import Derived.Test.YtjpkemamfccfdaaAskC
import Derived.Test.YtjpkemamfccfdaaRefRightA
import Derived.Test.YtjpkemamfccfdaaRefWithA
import Derived.Test.YtjpkemamfccfdaaRefGetA
import Derived.Test.YtjpkemamfccfdaaPutRefW
import Derived.Test.YtjpkemamfccfdaaAskB
namespace Go.Proofs.Ytjpkemamfccfdaa
set_option linter.unusedVariables false
open Go.RowKit Go.Sort

theorem afew_is {w : World} {R : Nat → Prop} {A : Option Addr} {n c : Nat} {l : List Giv} {b : Bool} (hb : decide (fewC l ≤ 1200) = b) (h : Gvs w R A n c l) :
    Calls Try.prog 15 #[.slice A n c] w fun e w' => e = .returned (.bool b) ∧ Below w.heap.size w w' := by
  have := few_any h
  rwa [hb] at this
theorem Ob.c3a {w : World} {g : Nat} {t : TypeId} {a b c : Value} (h : Ob w g t #[a, b, c]) : w.cell? ⟨g, 0, none⟩ = some a ∧ w.cell? ⟨g, 1, none⟩ = some b ∧ w.cell? ⟨g, 2, none⟩ = some c := ⟨h.cell 0, h.cell 1, h.cell 2⟩
theorem Gvs.upA {w w' : World} {R : Nat → Prop} {A : Option Addr} {n c : Nat} {l : List Giv} (h : Gvs w R A n c l) (hb : Below w.heap.size w w') : Gvs w' (fun _ => True) A n c l := h.keep (Kept.all hb R) (fun _ _ _ => trivial)
theorem Vls.upA {w w' : World} {R : Nat → Prop} {A : Option Addr} {n c : Nat} {l : List Vl} (h : Vls w R A n c l) (hb : Below w.heap.size w w') : Vls w' (fun _ => True) A n c l := h.keep (Kept.all hb R) (fun _ _ _ => trivial)
theorem right_at {w : World} {R : Nat → Prop} {A : Option Addr} {n c : Nat} {l : List Giv} {r : Int} (hr : rightA l = r) (h : Gvs w R A n c l) :
    Calls Try.prog 21 #[.slice A n c] w fun e w' => e = .returned (.int .i64 r) ∧ Below w.heap.size w w' := by
  have := aright_any h
  rwa [hr] at this
theorem rright_at {w : World} {R : Nat → Prop} {A : Option Addr} {n c : Nat} {l : List Giv} {r : Int} (hr : rightA l = r) (h : Gvs w R A n c l) :
    Calls Try.prog 27 #[.slice A n c] w fun e w' => e = .returned (.int .i64 r) ∧ Below w.heap.size w w' := by
  have := rright_any h
  rwa [hr] at this
theorem put_one {l : List Giv} {b1 b2 : List UInt8} (h : rightA l = 0) (h1 : PutOf l b1) (h2 : PutOf l b2) : b1 = b2 := put_turned rfl (Mix.refl _ _ _) (apart_right h) h1 h2

set_option maxRecDepth 100000 in
set_option maxHeartbeats 32000000 in
theorem askTells_walk (W : World) (A : Option Addr) (n c : Nat) (h : ∃ l, Gvs W (fun _ => True) A n c l) (a : Atr) (ha : a.ok) (g : Giv) {A3 : Option Addr} {n3 c3 : Nat} (hg : g.ok ∧ Vls W (fun _ => True) A3 n3 c3 g.bag) :
    Calls Try.prog 9 #[.slice A n c, .agg #[.int .i64 a.cat, .string a.name, .bool a.must], .agg #[.int .i64 g.cat, .string g.name, .slice A3 n3 c3]] W fun e w' => e = .returned (.bool true) ∧ Below W.heap.size W w' := by
  obtain ⟨l, h⟩ := h
  obtain ⟨hgo, hgv⟩ := hg
  have GA := Lib.hid (fun V (hV : Below W.heap.size W V) (hs : ShortG l) => aget_any (w := V) a (Gvs.upA h hV) hs)
  have GR := Lib.hid (fun V (hV : Below W.heap.size W V) (hs : ShortG l) => rget_any (w := V) a (Gvs.upA h hV) hs)
  obtain ⟨ac, an, au⟩ := a
  obtain ⟨gc, gn, gb⟩ := g
  simp only at hgv GA GR ⊢
  generalize getE l _ = ee at *
  generalize getR l _ = bag at *
  have B0 : Hid (Below W.heap.size W ((W.alloc (.cells #[.int .i64 ac, .string an, .bool au] 23)).alloc (.cells #[.int .i64 gc, .string gn, .slice A3 n3 c3] 48))) := ((Below.refl _ _).alloc (Nat.le_refl _) _).alloc (by rw [size_al]; omega) _
  have O4 : Hid (Ob ((W.alloc (.cells #[.int .i64 ac, .string an, .bool au] 23)).alloc (.cells #[.int .i64 gc, .string gn, .slice A3 n3 c3] 48)) W.heap.size 23 #[.int .i64 ac, .string an, .bool au]) := (Ob.made W 23 #[.int .i64 ac, .string an, .bool au]).keep (Below.heap_alloc _ _ _ (by rw [size_al]; omega))
  have O5 : Hid (Ob ((W.alloc (.cells #[.int .i64 ac, .string an, .bool au] 23)).alloc (.cells #[.int .i64 gc, .string gn, .slice A3 n3 c3] 48)) (W.heap.size + 1) 48 #[.int .i64 gc, .string gn, .slice A3 n3 c3]) := by
    have := Ob.made (W.alloc (.cells #[.int .i64 ac, .string an, .bool au] 23)) 48 #[.int .i64 gc, .string gn, .slice A3 n3 c3]
    rwa [size_al] at this
  have hnm : an.size ≤ maxLen := ha.2
  unfold maxLen at hnm
  have HL := Lib.hid (Rw.len h)
  have HL3 := Lib.hid (Rw.len hgv)
  have G0 := Lib.hid (Gvs.upA h B0.out)
  have V0 := Lib.hid (Vls.upA hgv B0.out)
  have HGO := Lib.hid hgo
  have GA := Lib.hid (fun V (hV : Below ((W.alloc (.cells #[.int .i64 ac, .string an, .bool au] 23)).alloc (.cells #[.int .i64 gc, .string gn, .slice A3 n3 c3] 48)).heap.size ((W.alloc (.cells #[.int .i64 ac, .string an, .bool au] 23)).alloc (.cells #[.int .i64 gc, .string gn, .slice A3 n3 c3] 48)) V) (hs : ShortG l) => GA.out V (below_step B0.out hV) hs)
  have GR := Lib.hid (fun V (hV : Below ((W.alloc (.cells #[.int .i64 ac, .string an, .bool au] 23)).alloc (.cells #[.int .i64 gc, .string gn, .slice A3 n3 c3] 48)).heap.size ((W.alloc (.cells #[.int .i64 ac, .string an, .bool au] 23)).alloc (.cells #[.int .i64 gc, .string gn, .slice A3 n3 c3] 48)) V) (hs : ShortG l) => GR.out V (below_step B0.out hV) hs)
  clear h hgo hgv ha
  go_enter Try.func9, Try.ntmps9
  go_upto_region 1 with fail
  obtain ⟨w0, hw0⟩ : ∃ w0, (W.alloc (.cells #[.int .i64 ac, .string an, .bool au] 23)).alloc (.cells #[.int .i64 gc, .string gn, .slice A3 n3 c3] 48) = w0 := ⟨_, rfl⟩
  rw [hw0] at B0 O4 O5 G0 V0 GA GR
  rw [hw0]
  clear hw0
  have KA := Lib.hid (fun V (hV : Below w0.heap.size w0 V) => (O4.out.below hV O4.out.lt).c3a)
  have KG := Lib.hid (fun V (hV : Below w0.heap.size w0 V) => (O5.out.below hV O5.out.lt).c3a)
  have OG := Lib.hid (fun V (hV : Below w0.heap.size w0 V) => one_giv (w := V) ⟨gc, gn, gb⟩ HGO.out (Vls.upA V0.out hV))
  by_cases s2 : fewC l ≤ 1200
  rotate_left
  · have F1 := Lib.hid (fun V (hV : Below w0.heap.size w0 V) => afew_is (decide_eq_false s2) (G0.out.upA hV))
    clear s2
    go_wp2_with (first
      | (go_at_call 15; (with_reducible refine (F1.out w0 (Below.refl _ _)).mono ?_); rintro e u1 ⟨rfl, hb⟩; have G1 := Lib.hid hb; obtain ⟨q0, q1, q2⟩ := KG.out _ hb; have og := OG.out _ hb; clear hb)
      | (go_at_call 23; refine (aruns_any _).mono ?_; rintro e u9 ⟨rfl, hb⟩; have G9 := Lib.hid (below_step G1.out hb); clear hb))
    go_ret
    exact ⟨rfl, below_step B0.out G9.out⟩
  have F1 := Lib.hid (fun V (hV : Below w0.heap.size w0 V) => afew_is (decide_eq_true s2) (G0.out.upA hV))
  by_cases s3 : fewC [⟨gc, gn, gb⟩] ≤ 1200
  rotate_left
  · have F2 := Lib.hid (fun (V : World) (h : Gvs (V.alloc (.cells #[.int .i64 gc, .string gn, .slice A3 n3 c3] 48)) (fun _ => True) (some ⟨V.heap.size, 0, none⟩) 1 1 [⟨gc, gn, gb⟩]) => afew_is (decide_eq_false s3) h)
    clear s2 s3
    go_wp2_with (first
      | (go_at_call 15; (with_reducible refine (F1.out w0 (Below.refl _ _)).mono ?_); rintro e u1 ⟨rfl, hb⟩; have G1 := Lib.hid hb; obtain ⟨q0, q1, q2⟩ := KG.out _ hb; have og := OG.out _ hb; clear hb)
      | (go_at_call 15; (with_reducible refine (F2.out u1 og).mono ?_); rintro e u2 ⟨rfl, hb⟩; have G2 := Lib.hid (below_step G1.out (Below.lit hb)); obtain ⟨a0, a1, a2⟩ := KA.out _ G2.out; clear hb og q0 q1 q2)
      | (go_at_call 23; refine (aruns_any _).mono ?_; rintro e u9 ⟨rfl, hb⟩; have G9 := Lib.hid (below_step G2.out hb); clear hb))
    go_ret
    exact ⟨rfl, below_step B0.out G9.out⟩
  have F2 := Lib.hid (fun (V : World) (h : Gvs (V.alloc (.cells #[.int .i64 gc, .string gn, .slice A3 n3 c3] 48)) (fun _ => True) (some ⟨V.heap.size, 0, none⟩) 1 1 [⟨gc, gn, gb⟩]) => afew_is (decide_eq_true s3) h)
  by_cases s4 : (60 : Int) < (an.size : Int)
  · clear s2 s3
    go_wp2_with (first
      | (go_at_call 15; (with_reducible refine (F1.out w0 (Below.refl _ _)).mono ?_); rintro e u1 ⟨rfl, hb⟩; have G1 := Lib.hid hb; obtain ⟨q0, q1, q2⟩ := KG.out _ hb; have og := OG.out _ hb; clear hb)
      | (go_at_call 15; (with_reducible refine (F2.out u1 og).mono ?_); rintro e u2 ⟨rfl, hb⟩; have G2 := Lib.hid (below_step G1.out (Below.lit hb)); obtain ⟨a0, a1, a2⟩ := KA.out _ G2.out; clear hb og q0 q1 q2)
      | (go_at_call 23; refine (aruns_any _).mono ?_; rintro e u9 ⟨rfl, hb⟩; have G9 := Lib.hid (below_step G2.out hb); clear hb))
    go_ret
    exact ⟨rfl, below_step B0.out G9.out⟩
  have HS := Lib.hid (few_short s2)
  have HN := Lib.hid (few_names s2)
  have HN2 := Lib.hid (few_len s2)
  have HFB := Lib.hid (few_bags s2)
  have HFF := Lib.hid (few_fits s2)
  have HGS := Lib.hid ((few_short s3) ⟨gc, gn, gb⟩ (by simp))
  have HGN := Lib.hid ((few_names s3) ⟨gc, gn, gb⟩ (by simp))
  clear s2 s3
  go_upto_region 3 with (first
    | (go_at_call 15; (with_reducible refine (F1.out w0 (Below.refl _ _)).mono ?_); rintro e u1 ⟨rfl, hb⟩; have G1 := Lib.hid hb; obtain ⟨q0, q1, q2⟩ := KG.out _ hb; have og := OG.out _ hb; clear hb)
    | (go_at_call 15; (with_reducible refine (F2.out u1 og).mono ?_); rintro e u2 ⟨rfl, hb⟩; have G2 := Lib.hid (below_step G1.out (Below.lit hb)); obtain ⟨a0, a1, a2⟩ := KA.out _ G2.out; clear hb og q0 q1 q2))
  clear F1 F2 G1 OG a0 a1 a2 s4
  have hn6 : n ≤ 600 := by have := HN2.out; have := HL.out; omega
  go_wp2_with fail
  refine (asks_any (G0.out.upA G2.out) HFB.out (by omega)).mono ?_
  rintro e v1 ⟨A7, c7, rfl, hb, hg7⟩
  have K1 := Lib.hid (below_step G2.out hb)
  have WAS := Lib.hid (Gvs.keep (Gr.gvs hg7 (by omega)) (Kept.refl _ _) (R' := fun _ => True) (fun _ _ _ => trivial))
  obtain ⟨a0, a1, a2⟩ := KA.out _ K1.out
  clear hb hg7
  go_wp2_with fail
  refine (GA.out _ K1.out HS.out).mono ?_
  rintro e v2 ⟨A8, n8, c8, rfl, hb, hx⟩
  have K2 := Lib.hid (below_step K1.out hb)
  have C1 := Lib.hid hb
  have XB := Lib.hid (Vls.keep hx (Kept.refl _ _) (R' := fun _ => True) (fun _ _ _ => trivial))
  obtain ⟨a0, a1, a2⟩ := KA.out _ K2.out
  clear hb hx
  go_wp2_with fail
  refine (GR.out _ K2.out HS.out).mono ?_
  rintro e v3 ⟨A9, n9, c9, rfl, hb, hx⟩
  have K3 := Lib.hid (below_step K2.out hb)
  have C1 := Lib.hid (below_step C1.out hb)
  have C2 := Lib.hid hb
  have C4 : Hid (Below v3.heap.size v3 v3) := Below.refl _ _
  have YB := Lib.hid (Vls.keep hx (Kept.refl _ _) (R' := fun _ => True) (fun _ _ _ => trivial))
  clear hb hx a0 a1 a2
  obtain ⟨r, hr⟩ : ∃ r, rightA l = r := ⟨_, rfl⟩
  have HR := Lib.hid hr
  have WA := Lib.hid (fun V (hV : Below w0.heap.size w0 V) => awith_any (w := V) ⟨gc, gn, gb⟩ (G0.out.upA hV) HS.out HN.out (by omega) HGO.out (Vls.upA V0.out hV) HGS.out.1 (by have := HGS.out.2; have := HL3.out; omega) HGN.out)
  have WR := Lib.hid (fun V (hV : Below w0.heap.size w0 V) => rwith_any (w := V) ⟨gc, gn, gb⟩ (G0.out.upA hV) HS.out (by omega) HGO.out (Vls.upA V0.out hV) (by have := HGS.out.2; have := HL3.out; omega))
  go_wp2_with fail
  refine (rright_at HR.out (G0.out.upA K3.out)).mono ?_
  rintro e v4 ⟨rfl, hb⟩
  have K4 := Lib.hid (below_step K3.out hb)
  have C1 := Lib.hid (below_step C1.out hb)
  have C2 := Lib.hid (below_step C2.out hb)
  have C4 := Lib.hid (below_step C4.out hb)
  have C3 : Hid (Below v4.heap.size v4 v4) := Below.refl _ _
  clear hb
  by_cases hr0 : r = 0
  rotate_left
  · have hne : (r != 0) = true := by rw [bne_iff_ne]; exact hr0
    clear hr hr0
    go_upto_region 7 with fail
    have S0 : Hid (Below v4.heap.size v4 v4) := Below.refl _ _
    refine wp_region_held_tail (fun w' => Below v4.heap.size v4 w') 35 (by kernel_rfl) (by kernel_rfl) ?_
    intro G
    change HeadW _ _ _ _ _ _ _ _ _ _ (v4.drewN 1)
    have S := Lib.hid (below_drewN S0.out 1)
    generalize v4.drewN 1 = y0 at *
    refine HeadW_take (i := 0) (v := ?_) G rfl (by kernel_rfl) (by kernel_rfl) (by kernel_rfl) (fun _ _ _ h => h) (Or.inl ⟨by rfl, ?_⟩) S.out ?_
    rotate_left
    · intro wz hS
      go_simp
      try with_reducible rfl
    refine HeadW_take (i := 1) (v := ?_) G rfl (by kernel_rfl) (by kernel_rfl) (by kernel_rfl) (fun _ _ _ h => h) (Or.inl ⟨by rfl, ?_⟩) S.out ?_
    rotate_left
    · intro wz hS
      go_simp
      try with_reducible rfl
    refine HeadW_ready (rs := [2]) (by kernel_rfl) rfl rfl ?_
    refine AllW.cons rfl (fun K hK => ?_) AllW.nil
    go_simp
    refine (bsame_any (Vls.upA XB.out (below_step C2.out (below_step C3.out S.out))) (Vls.upA YB.out (below_step C4.out (below_step C3.out S.out)))).mono ?_
    rintro e y1 ⟨rfl, hb⟩
    have S := Lib.hid (S.out.trans (hb.mono S.out.size))
    refine hK _ _ S.out ?_
    clear hK K hb
    refine HeadW_ready (rs := [3]) (by kernel_rfl) rfl rfl ?_
    refine AllW.cons rfl (fun K hK => ?_) AllW.nil
    go_simp
    refine hK _ _ S.out ?_
    clear hK K
    refine HeadW_take (i := 4) (v := ?_) G rfl (by kernel_rfl) (by kernel_rfl) (by kernel_rfl) (fun _ _ _ h => h) (Or.inl ⟨by rfl, ?_⟩) S.out ?_
    rotate_left
    · intro wz hS
      go_simp
      try with_reducible rfl
    refine HeadW_take (i := 5) (v := ?_) G rfl (by kernel_rfl) (by kernel_rfl) (by kernel_rfl) (fun _ _ _ h => h) (Or.inl ⟨by rfl, ?_⟩) S.out ?_
    rotate_left
    · intro wz hS
      go_simp
      try with_reducible rfl
    refine HeadW_ready (rs := [6]) (by kernel_rfl) rfl rfl ?_
    refine AllW.cons rfl (fun K hK => ?_) AllW.nil
    go_simp
    refine hK _ _ S.out ?_
    clear hK K
    refine HeadW_ready (rs := [7]) (by kernel_rfl) rfl rfl ?_
    refine AllW.cons rfl (fun K hK => ?_) AllW.nil
    go_simp
    refine hK _ _ S.out ?_
    clear hK K
    refine HeadW_ready (rs := [8]) (by kernel_rfl) rfl rfl ?_
    refine AllW.cons rfl (fun K hK => ?_) AllW.nil
    go_simp
    refine hK _ _ S.out ?_
    clear hK K
    refine HeadW_take (i := 9) (v := ?_) G rfl (by kernel_rfl) (by kernel_rfl) (by kernel_rfl) (fun _ _ _ h => h) (Or.inl ⟨by rfl, ?_⟩) S.out ?_
    rotate_left
    · intro wz hS
      go_simp
      try with_reducible rfl
    refine HeadW_take (i := 11) (v := ?_) G rfl (by kernel_rfl) (by kernel_rfl) (by kernel_rfl) (fun _ _ _ h => h) (Or.inl ⟨by rfl, ?_⟩) S.out ?_
    rotate_left
    · intro wz hS
      go_simp
      try with_reducible rfl
    refine HeadW_ready (rs := [10]) (by kernel_rfl) rfl rfl ?_
    refine AllW.cons rfl (fun K hK => ?_) AllW.nil
    go_simp
    refine (right_at HR.out (G0.out.upA (below_step K4.out S.out))).mono ?_
    rintro e y2 ⟨rfl, hb⟩
    have S := Lib.hid (S.out.trans (hb.mono S.out.size))
    refine hK _ _ S.out ?_
    clear hK K hb
    refine HeadW_ready (rs := [12]) (by kernel_rfl) rfl rfl ?_
    refine AllW.cons rfl (fun K hK => ?_) AllW.nil
    go_simp
    refine (rright_at HR.out (G0.out.upA (below_step K4.out S.out))).mono ?_
    rintro e y3 ⟨rfl, hb⟩
    have S := Lib.hid (S.out.trans (hb.mono S.out.size))
    refine hK _ _ S.out ?_
    clear hK K hb
    refine HeadW_ready (rs := [13]) (by kernel_rfl) rfl rfl ?_
    refine AllW.cons rfl (fun K hK => ?_) AllW.nil
    go_simp
    refine hK _ _ S.out ?_
    clear hK K
    refine HeadW_ready (rs := [14]) (by kernel_rfl) rfl rfl ?_
    refine AllW.cons rfl (fun K hK => ?_) AllW.nil
    go_simp
    refine hK _ _ S.out ?_
    clear hK K
    refine HeadW_ready (rs := [15]) (by kernel_rfl) rfl rfl ?_
    refine AllW.cons rfl (fun K hK => ?_) AllW.nil
    go_simp
    refine hK _ _ S.out ?_
    clear hK K
    refine HeadW_ready (rs := [16]) (by kernel_rfl) rfl rfl ?_
    refine AllW.cons rfl (fun K hK => ?_) AllW.nil
    go_simp
    refine hK _ _ S.out ?_
    clear hK K
    refine HeadW_ready (rs := [17]) (by kernel_rfl) rfl rfl ?_
    refine AllW.cons rfl (fun K hK => ?_) AllW.nil
    go_simp
    refine hK _ _ S.out ?_
    clear hK K
    refine HeadW_ready (rs := [18]) (by kernel_rfl) rfl rfl ?_
    refine AllW.cons rfl (fun K hK => ?_) AllW.nil
    go_simp
    refine hK _ _ S.out ?_
    clear hK K
    refine HeadW_take (i := 19) (v := ?_) G rfl (by kernel_rfl) (by kernel_rfl) (by kernel_rfl) (fun _ _ _ h => h) (Or.inl ⟨by rfl, ?_⟩) S.out ?_
    rotate_left
    · intro wz hS
      go_simp
      try with_reducible rfl
    refine HeadW_take (i := 20) (v := ?_) G rfl (by kernel_rfl) (by kernel_rfl) (by kernel_rfl) (fun _ _ _ h => h) (Or.inl ⟨by rfl, ?_⟩) S.out ?_
    rotate_left
    · intro wz hS
      obtain ⟨k0, k1, k2⟩ := KG.out _ (below_step K4.out hS)
      go_simp
      try with_reducible rfl
    refine HeadW_take (i := 22) (v := ?_) G rfl (by kernel_rfl) (by kernel_rfl) (by kernel_rfl) (fun _ _ _ h => h) (Or.inl ⟨by rfl, ?_⟩) S.out ?_
    rotate_left
    · intro wz hS
      go_simp
      try with_reducible rfl
    refine HeadW_take (i := 23) (v := ?_) G rfl (by kernel_rfl) (by kernel_rfl) (by kernel_rfl) (fun _ _ _ h => h) (Or.inl ⟨by rfl, ?_⟩) S.out ?_
    rotate_left
    · intro wz hS
      obtain ⟨k0, k1, k2⟩ := KG.out _ (below_step K4.out hS)
      go_simp
      try with_reducible rfl
    refine HeadW_ready (rs := [21]) (by kernel_rfl) rfl rfl ?_
    refine AllW.cons rfl (fun K hK => ?_) AllW.nil
    go_simp
    refine (WA.out _ (below_step K4.out S.out)).mono ?_
    rintro e y4 ⟨B1, k1, d1', rfl, hb, _, hgr⟩
    have GW1 := Lib.hid (Gvs.keep (Gr.gvs hgr (by omega)) (Kept.refl _ _) (R' := fun _ => True) (fun _ _ _ => trivial))
    have CW : Hid (Below y4.heap.size y4 y4) := Below.refl _ _
    have S := Lib.hid (S.out.trans (hb.mono S.out.size))
    refine hK _ _ S.out ?_
    clear hK K hb
    clear hgr
    refine HeadW_ready (rs := [24]) (by kernel_rfl) rfl rfl ?_
    refine AllW.cons rfl (fun K hK => ?_) AllW.nil
    go_simp
    refine (WR.out _ (below_step K4.out S.out)).mono ?_
    rintro e y5 ⟨B2, k2, d2', rfl, hb, hgr⟩
    have GW2 := Lib.hid hgr
    have CW := Lib.hid (below_step CW.out hb)
    have S := Lib.hid (S.out.trans (hb.mono S.out.size))
    refine hK _ _ S.out ?_
    clear hK K hb
    clear hgr
    refine HeadW_ready (rs := [25]) (by kernel_rfl) rfl rfl ?_
    refine AllW.cons rfl (fun K hK => ?_) AllW.nil
    go_simp
    refine (same_asks (GW1.out.upA CW.out) GW2.out).mono ?_
    rintro e y6 ⟨rfl, hb⟩
    have S := Lib.hid (S.out.trans (hb.mono S.out.size))
    refine hK _ _ S.out ?_
    clear hK K hb
    refine HeadW_ready (rs := [26]) (by kernel_rfl) rfl rfl ?_
    refine AllW.cons rfl (fun K hK => ?_) AllW.nil
    go_simp
    refine hK _ _ S.out ?_
    clear hK K
    refine HeadW_ready (rs := [27]) (by kernel_rfl) rfl rfl ?_
    refine AllW.cons rfl (fun K hK => ?_) AllW.nil
    go_simp
    refine hK _ _ S.out ?_
    clear hK K
    refine HeadW_take (i := 28) (v := ?_) G rfl (by kernel_rfl) (by kernel_rfl) (by kernel_rfl) (fun _ _ _ h => h) (Or.inl ⟨by rfl, ?_⟩) S.out ?_
    rotate_left
    · intro wz hS
      go_simp
      try with_reducible rfl
    refine HeadW_take (i := 29) (v := ?_) G rfl (by kernel_rfl) (by kernel_rfl) (by kernel_rfl) (fun _ _ _ h => h) (Or.inl ⟨by rfl, ?_⟩) S.out ?_
    rotate_left
    · intro wz hS
      go_simp
      try with_reducible rfl
    refine HeadW_ready (rs := [30]) (by kernel_rfl) rfl rfl ?_
    refine AllW.cons rfl (fun K hK => ?_) AllW.nil
    go_simp
    refine (same_asks (G0.out.upA (below_step K4.out S.out)) (WAS.out.upA (below_step C1.out (below_step C3.out S.out)))).mono ?_
    rintro e y7 ⟨rfl, hb⟩
    have S := Lib.hid (S.out.trans (hb.mono S.out.size))
    refine hK _ _ S.out ?_
    clear hK K hb
    refine HeadW_ready (rs := [31]) (by kernel_rfl) rfl rfl ?_
    refine AllW.cons rfl (fun K hK => ?_) AllW.nil
    go_simp
    refine hK _ _ S.out ?_
    clear hK K
    refine HeadW_ready (rs := [32]) (by kernel_rfl) rfl rfl ?_
    refine AllW.cons rfl (fun K hK => ?_) AllW.nil
    go_simp
    refine hK _ _ S.out ?_
    clear hK K
    refine HeadW_ready (rs := [33]) (by kernel_rfl) rfl rfl ?_
    refine AllW.cons rfl (fun K hK => ?_) AllW.nil
    go_simp
    refine (aruns_any _).mono ?_
    rintro e y8 ⟨rfl, hb⟩
    have S := Lib.hid (S.out.trans (hb.mono S.out.size))
    refine hK _ _ S.out ?_
    clear hK K hb
    refine HeadW_take (i := 34) (v := ?_) G rfl (by kernel_rfl) (by kernel_rfl) (by kernel_rfl) (fun _ _ _ h => h) (Or.inl ⟨by rfl, ?_⟩) S.out ?_
    rotate_left
    · intro wz hS
      go_simp
      try with_reducible rfl
    intro _
    refine ⟨by kernel_rfl, ?_⟩
    simp only [List.drop_succ_cons, List.drop_zero]
    go_wp2_with fail
    go_ret
    exact ⟨rfl, below_step B0.out (below_step K4.out S.out)⟩
  subst hr0
  clear hr
  go_wp2_with fail
  refine (put_any (G0.out.upA K4.out) HFF.out).mono ?_
  rintro e v5 ⟨P1, m1, d1, bs1, rfl, hb, hp1, hs1⟩
  have K5 := Lib.hid (below_step K4.out hb)
  have C3 := Lib.hid (below_step C3.out hb)
  have PB1 := Lib.hid hp1
  have SB1 := Lib.hid hs1
  clear hb hp1 hs1
  go_wp2_with fail
  refine (rput_any (G0.out.upA K5.out) HFF.out).mono ?_
  rintro e v6 ⟨P2, m2, d2, bs2, rfl, hb, hp2, hs2⟩
  have K6 := Lib.hid (below_step K5.out hb)
  have C3 := Lib.hid (below_step C3.out hb)
  have SB1 := Lib.hid (SB1.out.keep hb.block)
  have HEQ := Lib.hid (decide_eq_true (put_one HR.out PB1.out hp2))
  have SB2 := Lib.hid hs2
  clear hb hp2 hs2
  go_wp2_with fail
  refine (same_is HEQ.out SB1.out SB2.out).mono ?_
  rintro e v7 ⟨rfl, hb⟩
  have K7 := Lib.hid (below_step K6.out hb)
  have C3 := Lib.hid (below_step C3.out hb)
  clear hb SB1 SB2 PB1 HEQ
  go_upto_region 7 with fail
  have S0 : Hid (Below v7.heap.size v7 v7) := Below.refl _ _
  refine wp_region_held_tail (fun w' => Below v7.heap.size v7 w') 35 (by kernel_rfl) (by kernel_rfl) ?_
  intro G
  change HeadW _ _ _ _ _ _ _ _ _ _ (v7.drewN 1)
  have S := Lib.hid (below_drewN S0.out 1)
  generalize v7.drewN 1 = y0 at *
  refine HeadW_take (i := 0) (v := ?_) G rfl (by kernel_rfl) (by kernel_rfl) (by kernel_rfl) (fun _ _ _ h => h) (Or.inl ⟨by rfl, ?_⟩) S.out ?_
  rotate_left
  · intro wz hS
    go_simp
    try with_reducible rfl
  refine HeadW_take (i := 1) (v := ?_) G rfl (by kernel_rfl) (by kernel_rfl) (by kernel_rfl) (fun _ _ _ h => h) (Or.inl ⟨by rfl, ?_⟩) S.out ?_
  rotate_left
  · intro wz hS
    go_simp
    try with_reducible rfl
  refine HeadW_ready (rs := [2]) (by kernel_rfl) rfl rfl ?_
  refine AllW.cons rfl (fun K hK => ?_) AllW.nil
  go_simp
  refine (bsame_any (Vls.upA XB.out (below_step C2.out (below_step C3.out S.out))) (Vls.upA YB.out (below_step C4.out (below_step C3.out S.out)))).mono ?_
  rintro e y1 ⟨rfl, hb⟩
  have S := Lib.hid (S.out.trans (hb.mono S.out.size))
  refine hK _ _ S.out ?_
  clear hK K hb
  refine HeadW_ready (rs := [3]) (by kernel_rfl) rfl rfl ?_
  refine AllW.cons rfl (fun K hK => ?_) AllW.nil
  go_simp
  refine hK _ _ S.out ?_
  clear hK K
  refine HeadW_take (i := 4) (v := ?_) G rfl (by kernel_rfl) (by kernel_rfl) (by kernel_rfl) (fun _ _ _ h => h) (Or.inl ⟨by rfl, ?_⟩) S.out ?_
  rotate_left
  · intro wz hS
    go_simp
    try with_reducible rfl
  refine HeadW_take (i := 5) (v := ?_) G rfl (by kernel_rfl) (by kernel_rfl) (by kernel_rfl) (fun _ _ _ h => h) (Or.inl ⟨by rfl, ?_⟩) S.out ?_
  rotate_left
  · intro wz hS
    go_simp
    try with_reducible rfl
  refine HeadW_ready (rs := [6]) (by kernel_rfl) rfl rfl ?_
  refine AllW.cons rfl (fun K hK => ?_) AllW.nil
  go_simp
  refine hK _ _ S.out ?_
  clear hK K
  refine HeadW_ready (rs := [7]) (by kernel_rfl) rfl rfl ?_
  refine AllW.cons rfl (fun K hK => ?_) AllW.nil
  go_simp
  refine hK _ _ S.out ?_
  clear hK K
  refine HeadW_ready (rs := [8]) (by kernel_rfl) rfl rfl ?_
  refine AllW.cons rfl (fun K hK => ?_) AllW.nil
  go_simp
  refine hK _ _ S.out ?_
  clear hK K
  refine HeadW_take (i := 9) (v := ?_) G rfl (by kernel_rfl) (by kernel_rfl) (by kernel_rfl) (fun _ _ _ h => h) (Or.inl ⟨by rfl, ?_⟩) S.out ?_
  rotate_left
  · intro wz hS
    go_simp
    try with_reducible rfl
  refine HeadW_take (i := 11) (v := ?_) G rfl (by kernel_rfl) (by kernel_rfl) (by kernel_rfl) (fun _ _ _ h => h) (Or.inl ⟨by rfl, ?_⟩) S.out ?_
  rotate_left
  · intro wz hS
    go_simp
    try with_reducible rfl
  refine HeadW_ready (rs := [10]) (by kernel_rfl) rfl rfl ?_
  refine AllW.cons rfl (fun K hK => ?_) AllW.nil
  go_simp
  refine (right_at HR.out (G0.out.upA (below_step K7.out S.out))).mono ?_
  rintro e y2 ⟨rfl, hb⟩
  have S := Lib.hid (S.out.trans (hb.mono S.out.size))
  refine hK _ _ S.out ?_
  clear hK K hb
  refine HeadW_ready (rs := [12]) (by kernel_rfl) rfl rfl ?_
  refine AllW.cons rfl (fun K hK => ?_) AllW.nil
  go_simp
  refine (rright_at HR.out (G0.out.upA (below_step K7.out S.out))).mono ?_
  rintro e y3 ⟨rfl, hb⟩
  have S := Lib.hid (S.out.trans (hb.mono S.out.size))
  refine hK _ _ S.out ?_
  clear hK K hb
  refine HeadW_ready (rs := [13]) (by kernel_rfl) rfl rfl ?_
  refine AllW.cons rfl (fun K hK => ?_) AllW.nil
  go_simp
  refine hK _ _ S.out ?_
  clear hK K
  refine HeadW_ready (rs := [14]) (by kernel_rfl) rfl rfl ?_
  refine AllW.cons rfl (fun K hK => ?_) AllW.nil
  go_simp
  refine hK _ _ S.out ?_
  clear hK K
  refine HeadW_ready (rs := [15]) (by kernel_rfl) rfl rfl ?_
  refine AllW.cons rfl (fun K hK => ?_) AllW.nil
  go_simp
  refine hK _ _ S.out ?_
  clear hK K
  refine HeadW_ready (rs := [16]) (by kernel_rfl) rfl rfl ?_
  refine AllW.cons rfl (fun K hK => ?_) AllW.nil
  go_simp
  refine hK _ _ S.out ?_
  clear hK K
  refine HeadW_ready (rs := [17]) (by kernel_rfl) rfl rfl ?_
  refine AllW.cons rfl (fun K hK => ?_) AllW.nil
  go_simp
  refine hK _ _ S.out ?_
  clear hK K
  refine HeadW_ready (rs := [18]) (by kernel_rfl) rfl rfl ?_
  refine AllW.cons rfl (fun K hK => ?_) AllW.nil
  go_simp
  refine hK _ _ S.out ?_
  clear hK K
  refine HeadW_take (i := 19) (v := ?_) G rfl (by kernel_rfl) (by kernel_rfl) (by kernel_rfl) (fun _ _ _ h => h) (Or.inl ⟨by rfl, ?_⟩) S.out ?_
  rotate_left
  · intro wz hS
    go_simp
    try with_reducible rfl
  refine HeadW_take (i := 20) (v := ?_) G rfl (by kernel_rfl) (by kernel_rfl) (by kernel_rfl) (fun _ _ _ h => h) (Or.inl ⟨by rfl, ?_⟩) S.out ?_
  rotate_left
  · intro wz hS
    obtain ⟨k0, k1, k2⟩ := KG.out _ (below_step K7.out hS)
    go_simp
    try with_reducible rfl
  refine HeadW_take (i := 22) (v := ?_) G rfl (by kernel_rfl) (by kernel_rfl) (by kernel_rfl) (fun _ _ _ h => h) (Or.inl ⟨by rfl, ?_⟩) S.out ?_
  rotate_left
  · intro wz hS
    go_simp
    try with_reducible rfl
  refine HeadW_take (i := 23) (v := ?_) G rfl (by kernel_rfl) (by kernel_rfl) (by kernel_rfl) (fun _ _ _ h => h) (Or.inl ⟨by rfl, ?_⟩) S.out ?_
  rotate_left
  · intro wz hS
    obtain ⟨k0, k1, k2⟩ := KG.out _ (below_step K7.out hS)
    go_simp
    try with_reducible rfl
  refine HeadW_ready (rs := [21]) (by kernel_rfl) rfl rfl ?_
  refine AllW.cons rfl (fun K hK => ?_) AllW.nil
  go_simp
  refine (WA.out _ (below_step K7.out S.out)).mono ?_
  rintro e y4 ⟨B1, k1, d1', rfl, hb, _, hgr⟩
  have GW1 := Lib.hid (Gvs.keep (Gr.gvs hgr (by omega)) (Kept.refl _ _) (R' := fun _ => True) (fun _ _ _ => trivial))
  have CW : Hid (Below y4.heap.size y4 y4) := Below.refl _ _
  have S := Lib.hid (S.out.trans (hb.mono S.out.size))
  refine hK _ _ S.out ?_
  clear hK K hb
  clear hgr
  refine HeadW_ready (rs := [24]) (by kernel_rfl) rfl rfl ?_
  refine AllW.cons rfl (fun K hK => ?_) AllW.nil
  go_simp
  refine (WR.out _ (below_step K7.out S.out)).mono ?_
  rintro e y5 ⟨B2, k2, d2', rfl, hb, hgr⟩
  have GW2 := Lib.hid hgr
  have CW := Lib.hid (below_step CW.out hb)
  have S := Lib.hid (S.out.trans (hb.mono S.out.size))
  refine hK _ _ S.out ?_
  clear hK K hb
  clear hgr
  refine HeadW_ready (rs := [25]) (by kernel_rfl) rfl rfl ?_
  refine AllW.cons rfl (fun K hK => ?_) AllW.nil
  go_simp
  refine (same_asks (GW1.out.upA CW.out) GW2.out).mono ?_
  rintro e y6 ⟨rfl, hb⟩
  have S := Lib.hid (S.out.trans (hb.mono S.out.size))
  refine hK _ _ S.out ?_
  clear hK K hb
  refine HeadW_ready (rs := [26]) (by kernel_rfl) rfl rfl ?_
  refine AllW.cons rfl (fun K hK => ?_) AllW.nil
  go_simp
  refine hK _ _ S.out ?_
  clear hK K
  refine HeadW_ready (rs := [27]) (by kernel_rfl) rfl rfl ?_
  refine AllW.cons rfl (fun K hK => ?_) AllW.nil
  go_simp
  refine hK _ _ S.out ?_
  clear hK K
  refine HeadW_take (i := 28) (v := ?_) G rfl (by kernel_rfl) (by kernel_rfl) (by kernel_rfl) (fun _ _ _ h => h) (Or.inl ⟨by rfl, ?_⟩) S.out ?_
  rotate_left
  · intro wz hS
    go_simp
    try with_reducible rfl
  refine HeadW_take (i := 29) (v := ?_) G rfl (by kernel_rfl) (by kernel_rfl) (by kernel_rfl) (fun _ _ _ h => h) (Or.inl ⟨by rfl, ?_⟩) S.out ?_
  rotate_left
  · intro wz hS
    go_simp
    try with_reducible rfl
  refine HeadW_ready (rs := [30]) (by kernel_rfl) rfl rfl ?_
  refine AllW.cons rfl (fun K hK => ?_) AllW.nil
  go_simp
  refine (same_asks (G0.out.upA (below_step K7.out S.out)) (WAS.out.upA (below_step C1.out (below_step C3.out S.out)))).mono ?_
  rintro e y7 ⟨rfl, hb⟩
  have S := Lib.hid (S.out.trans (hb.mono S.out.size))
  refine hK _ _ S.out ?_
  clear hK K hb
  refine HeadW_ready (rs := [31]) (by kernel_rfl) rfl rfl ?_
  refine AllW.cons rfl (fun K hK => ?_) AllW.nil
  go_simp
  refine hK _ _ S.out ?_
  clear hK K
  refine HeadW_ready (rs := [32]) (by kernel_rfl) rfl rfl ?_
  refine AllW.cons rfl (fun K hK => ?_) AllW.nil
  go_simp
  refine hK _ _ S.out ?_
  clear hK K
  refine HeadW_ready (rs := [33]) (by kernel_rfl) rfl rfl ?_
  refine AllW.cons rfl (fun K hK => ?_) AllW.nil
  go_simp
  refine (aruns_any _).mono ?_
  rintro e y8 ⟨rfl, hb⟩
  have S := Lib.hid (S.out.trans (hb.mono S.out.size))
  refine hK _ _ S.out ?_
  clear hK K hb
  refine HeadW_take (i := 34) (v := ?_) G rfl (by kernel_rfl) (by kernel_rfl) (by kernel_rfl) (fun _ _ _ h => h) (Or.inl ⟨by rfl, ?_⟩) S.out ?_
  rotate_left
  · intro wz hS
    go_simp
    try with_reducible rfl
  intro _
  refine ⟨by kernel_rfl, ?_⟩
  simp only [List.drop_succ_cons, List.drop_zero]
  go_wp2_with fail
  go_ret
  exact ⟨rfl, below_step B0.out (below_step K7.out S.out)⟩
end Go.Proofs.Ytjpkemamfccfdaa
