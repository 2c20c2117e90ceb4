/- FunErrors: the walk. -/
import Derived.Test.YtjcegpakacedoaaFunRuns
import Derived.Test.YtjcegpakacedoaaWithin
import Derived.Test.YtjcegpakacedoaaOpenVal
import Derived.Lib.MinMax
import Derived.Test.YtjcegpakacedoaaHTail
namespace Go.Proofs.Ytjcegpakacedoaa
set_option linter.unusedVariables false
open Go.RowKit Go.Sort

def badV : Vl := ⟨9, 0, ⟨#[]⟩⟩
theorem bad_wrong : ¬ badV.right := rv_none (by decide)
theorem bad_ok : badV.ok := ⟨⟨by decide, by decide⟩, ⟨by decide, by decide⟩, Nat.zero_le _⟩
theorem bad_first (f : Int) (b : Vl) : callV f [badV, b] = (noneV, 1) := call_bad (allR_bad (k := 0) rfl bad_wrong)
theorem bad_second (f : Int) (a : Vl) : callV f [a, badV] = (noneV, 1) := call_bad (allR_bad (k := 1) rfl bad_wrong)
theorem needs_two (f : Int) : needs f = 1 ∨ needs f = 2 := by unfold needs; split <;> simp
theorem none_len (f : Int) : callV f [] = (noneV, 1) := call_len (by have := needs_two f; show 0 ≠ _; omega)
theorem three_len (f : Int) (a b c : Vl) : callV f [a, b, c] = (noneV, 1) := call_len (by have := needs_two f; show 3 ≠ _; omega)
theorem op_low (a b : Vl) : callV 5 [a, b] = (noneV, 1) := call_op (by decide)
theorem op_high {g : Int} (h : 14 ≤ g) (a b : Vl) : callV g [a, b] = (noneV, 1) := call_op (by omega)
theorem Vs.lit3 (w : World) (a b c : Vl) (ha : a.ok) (hb : b.ok) (hc : c.ok) : Vs (w.alloc (.cells #[.int .i64 a.k, .int .i64 a.n, .string a.s, .int .i64 b.k, .int .i64 b.n, .string b.s, .int .i64 c.k, .int .i64 c.n, .string c.s] 26)) (w.heap.size + 1) (some ⟨w.heap.size, 0, none⟩) 3 3 [a, b, c] := by
  refine ⟨rfl, Nat.le_refl _, by simp [maxLen], .inr ⟨w.heap.size, 0, rfl, by omega, fun j v hv => ?_⟩, by simpa using ⟨ha, hb, hc⟩⟩
  match j, hv with
  | 0, hv => simp at hv; subst hv; exact ⟨(Ob.made w _ _).cell 0, (Ob.made w _ _).cell 1, (Ob.made w _ _).cell 2⟩
  | 1, hv => simp at hv; subst hv; exact ⟨(Ob.made w _ _).cell 3, (Ob.made w _ _).cell 4, (Ob.made w _ _).cell 5⟩
  | 2, hv => simp at hv; subst hv; exact ⟨(Ob.made w _ _).cell 6, (Ob.made w _ _).cell 7, (Ob.made w _ _).cell 8⟩
  | j + 3, hv => simp at hv
theorem Vs.lit2b (w : World) (x : Obj) (a b : Vl) (ha : a.ok) (hb : b.ok) : Vs ((w.alloc x).alloc (.cells #[.int .i64 a.k, .int .i64 a.n, .string a.s, .int .i64 b.k, .int .i64 b.n, .string b.s] 26)) (w.heap.size + 1 + 1) (some ⟨w.heap.size + 1, 0, none⟩) 2 2 [a, b] := by
  have := Vs.lit2 (w.alloc x) a b ha hb
  rwa [size_al] at this
theorem few_ok {k n : Int} {s t : ByteArray} (h : Vl.ok ⟨k, n, s⟩) (ht : t.size ≤ 70) : Vl.ok ⟨k, n, t⟩ := ⟨h.1, h.2.1, Nat.le_trans ht (by simp [maxLen])⟩

set_option maxHeartbeats 6400000 in
set_option maxRecDepth 100000 in
theorem funErrors_walk (W : World) (op : Int) (ho : (Lit.int .i64 op).wf = true) (a : Vl) (ha : a.ok) (b : Vl) (hb : b.ok) :
    Calls Try.prog 8 #[.int .i64 op, a.val, b.val] W fun e w' => e = .returned (.bool true) ∧ Below W.heap.size W w' := by
  obtain ⟨ka, na, sa⟩ := a
  obtain ⟨kb, nb, sb⟩ := b
  show Calls _ _ #[_, .agg #[.int .i64 ka, .int .i64 na, .string sa], .agg #[.int .i64 kb, .int .i64 nb, .string sb]] W _
  have xa := (Bx.made W ka na sa).alloc (.cells #[.int .i64 kb, .int .i64 nb, .string sb] 26)
  have xb : Bx ((W.alloc (.cells #[.int .i64 ka, .int .i64 na, .string sa] 26)).alloc (.cells #[.int .i64 kb, .int .i64 nb, .string sb] 26)) (W.heap.size + 1) kb nb sb := by
    have := Bx.made (W.alloc (.cells #[.int .i64 ka, .int .i64 na, .string sa] 26)) kb nb sb
    rwa [size_al] at this
  have d := below2 W (.cells #[.int .i64 ka, .int .i64 na, .string sa] 26) (.cells #[.int .i64 kb, .int .i64 nb, .string sb] 26)
  have XA := Lib.hid xa
  have XB := Lib.hid xb
  have D := Lib.hid d
  clear xa xb d
  have k1 := fun w => within_any (n := op) (lo := 0) (hi := 7) (w := w) (by omega) (by omega) (by omega)
  have l1 := within_le (n := op) (lo := 0) (hi := 7) (by omega)
  generalize withinOf op 0 7 = u at *
  have k2 := fun w => within_any (n := op) (lo := 0) (hi := 9) (w := w) (by omega) (by omega) (by omega)
  have l2 := within_le (n := op) (lo := 0) (hi := 9) (by omega)
  generalize withinOf op 0 9 = v at *
  obtain ⟨f, hf⟩ : ∃ f, 6 + u = f := ⟨_, rfl⟩
  obtain ⟨g, hg⟩ : ∃ g, 14 + v = g := ⟨_, rfl⟩
  have hwf : IntKind.i64.wrap (6 + u) = f := by rw [hf]; exact wrap_in (by unfold In64; omega)
  have hwg : IntKind.i64.wrap (14 + v) = g := by rw [hg]; exact wrap_in (by unfold In64; omega)
  have HG : Hid (14 ≤ g) := by show _ ≤ _; omega
  have K1 := Lib.hid k1
  have K2 := Lib.hid k2
  have HF := Lib.hid hwf
  have HWG := Lib.hid hwg
  have OA := Lib.hid ha
  have OB := Lib.hid hb
  clear k1 k2 l1 l2 hf hg ho ha hb hwf hwg
  go_enter Try.func8, Try.ntmps8
  go_wp2_with fail
  generalize (W.alloc (.cells #[.int .i64 ka, .int .i64 na, .string sa] 26)).alloc (.cells #[.int .i64 kb, .int .i64 nb, .string sb] 26) = w1 at *
  have xa := XA.out.drewN 1
  have xb := XB.out.drewN 1
  have xc := xa.c3
  have xf := xa.fz
  have HS0 : Hid ((w1.drewN 1).cell? ⟨W.heap.size + 1, 2, none⟩ = some (.string sb)) := xb.c3.2.2
  have HS1 : Hid (∀ u, ((w1.drewN 1).setCell ⟨W.heap.size, 2, none⟩ u).cell? ⟨W.heap.size + 1, 2, none⟩ = some (.string sb)) := fun u => (xb.only (r := W.heap.size) (Only.refl.setCell (p := ⟨W.heap.size, 2, none⟩) rfl u) (by omega)).c3.2.2
  have xg := xb.fz
  have HS2 : Hid (∀ u, ((w1.drewN 1).setCell ⟨W.heap.size, 2, none⟩ u).frozen? ⟨W.heap.size + 1, 2, none⟩ = false) := fun u => (xb.only (r := W.heap.size) (Only.refl.setCell (p := ⟨W.heap.size, 2, none⟩) rfl u) (by omega)).fz 2
  have E1 := Lib.hid (((xa.setS (sa.extract 0 (min (sa.size : Int) 70).toNat))).only (r := W.heap.size + 1) (Only.refl.setCell (p := ⟨W.heap.size + 1, 2, none⟩) rfl (.string (sb.extract 0 (min (sb.size : Int) 70).toNat))) (by omega))
  have E2 := Lib.hid ((xb.only (r := W.heap.size) (Only.refl.setCell (p := ⟨W.heap.size, 2, none⟩) rfl (.string (sa.extract 0 (min (sa.size : Int) 70).toNat))) (by omega)).setS (sb.extract 0 (min (sb.size : Int) 70).toNat))
  have E3 := Lib.hid (((below_drewN D.out 1).setCell (p := ⟨W.heap.size, 2, none⟩) (Nat.le_refl _) (.string (sa.extract 0 (min (sa.size : Int) 70).toNat))).setCell (p := ⟨W.heap.size + 1, 2, none⟩) (by show _ ≤ W.heap.size + 1; omega) (.string (sb.extract 0 (min (sb.size : Int) 70).toNat)))
  have E4 : Hid ((sa.extract 0 (min (sa.size : Int) 70).toNat).size ≤ 70) := by show _ ≤ _; rw [ByteArray.size_extract]; omega
  have E5 : Hid ((sb.extract 0 (min (sb.size : Int) 70).toNat).size ≤ 70) := by show _ ≤ _; rw [ByteArray.size_extract]; omega
  have EZ : Hid ((((w1.drewN 1).setCell ⟨W.heap.size, 2, none⟩ (.string (sa.extract 0 (min (sa.size : Int) 70).toNat))).setCell ⟨W.heap.size + 1, 2, none⟩ (.string (sb.extract 0 (min (sb.size : Int) 70).toNat))).heap.size = w1.heap.size) := by show _ = _; simp [World.setCell, World.drewN]
  have m1 : 0 ≤ min (sa.size : Int) 70 := by omega
  have m2 : min (sa.size : Int) 70 ≤ (sa.size : Int) := by omega
  have m3 : 0 ≤ min (sb.size : Int) 70 := by omega
  have m4 : min (sb.size : Int) 70 ≤ (sb.size : Int) := by omega
  clear xa xb
  refine wp_region_held_tail (fun w' => w'.cell? ⟨W.heap.size + 1, 2, none⟩ = some (.string sb)) 16 (by kernel_rfl) (by kernel_rfl) ?_
  intro G
  change HeadW _ _ _ _ _ _ _ _ _ _ (w1.drewN 1)
  refine HeadW_take (i := 0) (v := ?_) G rfl (by kernel_rfl) (by kernel_rfl) (by kernel_rfl) (fun _ _ _ h => h) (Or.inl ⟨by rfl, ?_⟩) HS0.out ?_
  rotate_left
  · intro w hS
    go_simp
    try with_reducible rfl
  refine HeadW_take (i := 2) (v := ?_) G rfl (by kernel_rfl) (by kernel_rfl) (by kernel_rfl) (fun _ _ _ h => h) (Or.inl ⟨by rfl, ?_⟩) HS0.out ?_
  rotate_left
  · intro w hS
    go_simp
    try with_reducible rfl
  refine HeadW_take (i := 7) (v := ?_) G rfl (by kernel_rfl) (by kernel_rfl) (by kernel_rfl) (fun _ _ _ h => h) (Or.inl ⟨by rfl, ?_⟩) HS0.out ?_
  rotate_left
  · intro w hS
    go_simp
    try with_reducible rfl
  refine HeadW_take (i := 8) (v := ?_) G rfl (by kernel_rfl) (by kernel_rfl) (by kernel_rfl) (fun _ _ _ h => h) (Or.inl ⟨by rfl, ?_⟩) HS0.out ?_
  rotate_left
  · intro w hS
    go_simp
    try with_reducible rfl
  refine HeadW_take (i := 9) (v := ?_) G rfl (by kernel_rfl) (by kernel_rfl) (by kernel_rfl) (fun _ _ _ h => h) (Or.inl ⟨by rfl, ?_⟩) HS0.out ?_
  rotate_left
  · intro w hS
    go_simp
    try with_reducible rfl
  refine HeadW_take (i := 10) (v := ?_) G rfl (by kernel_rfl) (by kernel_rfl) (by kernel_rfl) (fun _ _ _ h => h) (Or.inl ⟨by rfl, ?_⟩) HS0.out ?_
  rotate_left
  · intro w hS
    go_simp
    try with_reducible rfl
  refine HeadW_take (i := 11) (v := ?_) G rfl (by kernel_rfl) (by kernel_rfl) (by kernel_rfl) (fun _ _ _ h => h) (Or.inl ⟨by rfl, ?_⟩) HS0.out ?_
  rotate_left
  · intro w hS
    go_simp
    try with_reducible rfl
  refine HeadW_take (i := 12) (v := ?_) G rfl (by kernel_rfl) (by kernel_rfl) (by kernel_rfl) (fun _ _ _ h => h) (Or.inl ⟨by rfl, ?_⟩) HS0.out ?_
  rotate_left
  · intro w hS
    go_simp
    try with_reducible rfl
  refine HeadW_take (i := 13) (v := ?_) G rfl (by kernel_rfl) (by kernel_rfl) (by kernel_rfl) (fun _ _ _ h => h) (Or.inl ⟨by rfl, ?_⟩) HS0.out ?_
  rotate_left
  · intro w hS
    go_simp
    try with_reducible rfl
  refine HeadW_ready (rs := [1, 3]) (by kernel_rfl) rfl rfl ?_
  refine AllW.cons rfl (fun K hK => ?_) (AllW.cons rfl (fun K hK => ?_) AllW.nil)
  · go_simp
    refine hK _ _ HS0.out ?_
    clear hK K
    refine HeadW_ready (rs := [3]) (by kernel_rfl) rfl rfl ?_
    refine AllW.cons rfl (fun K hK => ?_) AllW.nil
    go_simp
    refine hK _ _ HS0.out ?_
    clear hK K
    refine HeadW_take (i := 4) (v := ?_) G rfl (by kernel_rfl) (by kernel_rfl) (by kernel_rfl) (fun _ _ _ h => h) (Or.inl ⟨by rfl, ?_⟩) HS0.out ?_
    rotate_left
    · intro w hS
      go_simp
      try with_reducible rfl
    refine HeadW_take (i := 5) (v := ?_) G rfl (by kernel_rfl) (by kernel_rfl) (by kernel_rfl) (fun _ _ _ h => h) (Or.inl ⟨by rfl, ?_⟩) HS0.out ?_
    rotate_left
    · intro w hS
      go_simp
      try with_reducible rfl
    refine HeadW_take (i := 6) (v := ?_) G rfl (by kernel_rfl) (by kernel_rfl) (by kernel_rfl) (fun _ _ _ h => h) (Or.inl ⟨by rfl, ?_⟩) HS0.out ?_
    rotate_left
    · intro w hS
      go_simp
      try with_reducible rfl
    refine HeadW_take (i := 14) (v := ?_) G rfl (by kernel_rfl) (by kernel_rfl) (by kernel_rfl) (fun _ _ _ h => h) (Or.inl ⟨by rfl, ?_⟩) HS0.out ?_
    rotate_left
    · intro w hS
      go_simp
      try with_reducible rfl
    refine HeadW_ready (rs := [15]) (by kernel_rfl) rfl rfl ?_
    refine AllW.cons rfl (fun K hK => ?_) AllW.nil
    go_simp
    refine hK _ _ (HS1.out _) ?_
    clear hK K
    intro _
    refine ⟨by kernel_rfl, ?_⟩
    simp only [List.drop_succ_cons, List.drop_zero]
    have hs1 := HS1.out (.string (sa.extract 0 (min (sa.size : Int) 70).toNat))
    have hs2 := HS2.out (.string (sa.extract 0 (min (sa.size : Int) 70).toNat))
    go_wp2_with fail
    clear xc xf xg HS0 HS1 HS2 hs1 hs2 m1 m2 m3 m4 G XA XB D
    generalize sa.extract 0 (min (sa.size : Int) 70).toNat = ta at *
    generalize sb.extract 0 (min (sb.size : Int) 70).toNat = tb at *
    generalize ((w1.drewN 1).setCell ⟨W.heap.size, 2, none⟩ (.string ta)).setCell ⟨W.heap.size + 1, 2, none⟩ (.string tb) = W2 at *
    have XA2 := Lib.hid (E1.out.alloc (.cells #[.int .i64 9, .int .i64 0, .string ⟨#[]⟩] 26))
    have XB2 := Lib.hid (E2.out.alloc (.cells #[.int .i64 9, .int .i64 0, .string ⟨#[]⟩] 26))
    have xbad := Bx.made W2 9 0 ⟨#[]⟩
    rw [EZ.out] at xbad
    have XBAD2 := Lib.hid xbad
    clear xbad EZ
    have D0 := Lib.hid (E3.out.trans ((below1 W2 (.cells #[.int .i64 9, .int .i64 0, .string ⟨#[]⟩] 26)).mono E3.out.size))
    have TA := Lib.hid (few_ok OA.out E4.out)
    have TB := Lib.hid (few_ok OB.out E5.out)
    clear E1 E2 E3 E4 E5
    generalize W2.alloc (.cells #[.int .i64 9, .int .i64 0, .string ⟨#[]⟩] 26) = W3 at *
    have hwf := HF.out
    have lXA := XA2.out.c3
    have tXA := XA2.out.lt
    have lXB := XB2.out.c3
    have tXB := XB2.out.lt
    have lXBAD := XBAD2.out.c3
    have tXBAD := XBAD2.out.lt
    refine (K1.out _).mono ?_
    rintro e w' ⟨rfl, rfl⟩
    go_wp2_with fail
    clear hwf
    refine (call_pair (Vs.lit2 W3 badV ⟨kb, nb, tb⟩ bad_ok TB.out) (by rw [size_al]; omega) (by omega) f (k := 0) (m := 0) (s := ⟨#[]⟩) (e := 1) (bad_first f _)).mono ?_
    rintro e v1 ⟨rfl, hb⟩
    have D1 := Lib.hid (below_step D0.out (Below.lit hb))
    have XA_1 := Lib.hid (XA2.out.then_ (Below.lit hb))
    have XB_1 := Lib.hid (XB2.out.then_ (Below.lit hb))
    have XBAD_1 := Lib.hid (XBAD2.out.then_ (Below.lit hb))
    clear hb XA2 XB2 XBAD2 D0
    clear lXA
    clear tXA
    clear lXB
    clear tXB
    clear lXBAD
    clear tXBAD
    have lXA := XA_1.out.c3
    have tXA := XA_1.out.lt
    have lXBAD := XBAD_1.out.c3
    have tXBAD := XBAD_1.out.lt
    go_wp2_with fail
    refine (call_pair (Vs.lit2b v1 (.cells #[.int .i64 0, .int .i64 0, .string ⟨#[]⟩] 26) ⟨ka, na, ta⟩ badV TA.out bad_ok) (by rw [size_al, size_al]; omega) (by omega) f (k := 0) (m := 0) (s := ⟨#[]⟩) (e := 1) (bad_second f _)).mono ?_
    rintro e v2 ⟨rfl, hb⟩
    have D2 := Lib.hid (below_step D1.out (Below.lit (Below.lit hb)))
    have XA_2 := Lib.hid (XA_1.out.then_ (Below.lit (Below.lit hb)))
    have XB_2 := Lib.hid (XB_1.out.then_ (Below.lit (Below.lit hb)))
    have XBAD_2 := Lib.hid (XBAD_1.out.then_ (Below.lit (Below.lit hb)))
    have XU_2 := Lib.hid ((Bx.made v1 0 0 ⟨#[]⟩).then_ (Below.lit hb))
    clear hb XA_1 XB_1 XBAD_1 D1
    clear lXA
    clear tXA
    clear lXBAD
    clear tXBAD
    go_wp2_with fail
    refine (call_pair (Vs.nil_ (v2.alloc (.cells #[.int .i64 0, .int .i64 0, .string ⟨#[]⟩] 26)) 0) (Nat.zero_le _) (by omega) f (k := 0) (m := 0) (s := ⟨#[]⟩) (e := 1) (none_len f)).mono ?_
    rintro e v3 ⟨rfl, hb⟩
    have D3 := Lib.hid (below_step D2.out (Below.lit hb))
    have XA_3 := Lib.hid (XA_2.out.then_ (Below.lit hb))
    have XB_3 := Lib.hid (XB_2.out.then_ (Below.lit hb))
    have XBAD_3 := Lib.hid (XBAD_2.out.then_ (Below.lit hb))
    have XU_3 := Lib.hid (XU_2.out.then_ (Below.lit hb))
    have XV_3 := Lib.hid ((Bx.made v2 0 0 ⟨#[]⟩).then_ hb)
    clear hb XA_2 XB_2 XBAD_2 XU_2 D2
    go_wp2_with fail
    refine (lnum_any 1 _).mono ?_
    rintro e v4 ⟨rfl, hb⟩
    have D4 := Lib.hid (below_step D3.out (Below.lit hb))
    have XA_4 := Lib.hid (XA_3.out.then_ (Below.lit hb))
    have XB_4 := Lib.hid (XB_3.out.then_ (Below.lit hb))
    have XBAD_4 := Lib.hid (XBAD_3.out.then_ (Below.lit hb))
    have XU_4 := Lib.hid (XU_3.out.then_ (Below.lit hb))
    have XV_4 := Lib.hid (XV_3.out.then_ (Below.lit hb))
    have XW_4 := Lib.hid ((Bx.made v3 0 0 ⟨#[]⟩).then_ hb)
    clear hb XA_3 XB_3 XBAD_3 XU_3 XV_3 D3
    go_wp2_with fail
    refine (lnum_any 2 _).mono ?_
    rintro e v5 ⟨rfl, hb⟩
    have D5 := Lib.hid (below_step D4.out hb)
    have XA_5 := Lib.hid (XA_4.out.then_ hb)
    have XB_5 := Lib.hid (XB_4.out.then_ hb)
    have XBAD_5 := Lib.hid (XBAD_4.out.then_ hb)
    have XU_5 := Lib.hid (XU_4.out.then_ hb)
    have XV_5 := Lib.hid (XV_4.out.then_ hb)
    have XW_5 := Lib.hid (XW_4.out.then_ hb)
    clear hb XA_4 XB_4 XBAD_4 XU_4 XV_4 XW_4 D4
    go_wp2_with fail
    refine (lnum_any 3 _).mono ?_
    rintro e v6 ⟨rfl, hb⟩
    have D6 := Lib.hid (below_step D5.out hb)
    have XA_6 := Lib.hid (XA_5.out.then_ hb)
    have XB_6 := Lib.hid (XB_5.out.then_ hb)
    have XBAD_6 := Lib.hid (XBAD_5.out.then_ hb)
    have XU_6 := Lib.hid (XU_5.out.then_ hb)
    have XV_6 := Lib.hid (XV_5.out.then_ hb)
    have XW_6 := Lib.hid (XW_5.out.then_ hb)
    clear hb XA_5 XB_5 XBAD_5 XU_5 XV_5 XW_5 D5
    go_wp2_with fail
    refine (call_pair (Vs.lit3 _ (numV 1) (numV 2) (numV 3) (num_ok (by decide)) (num_ok (by decide)) (num_ok (by decide))) (by rw [size_al]; omega) (by omega) f (k := 0) (m := 0) (s := ⟨#[]⟩) (e := 1) (three_len f _ _ _)).mono ?_
    rintro e v7 ⟨rfl, hb⟩
    have D7 := Lib.hid (below_step D6.out (Below.lit hb))
    have XA_7 := Lib.hid (XA_6.out.then_ (Below.lit hb))
    have XB_7 := Lib.hid (XB_6.out.then_ (Below.lit hb))
    have XBAD_7 := Lib.hid (XBAD_6.out.then_ (Below.lit hb))
    have XU_7 := Lib.hid (XU_6.out.then_ (Below.lit hb))
    have XV_7 := Lib.hid (XV_6.out.then_ (Below.lit hb))
    have XW_7 := Lib.hid (XW_6.out.then_ (Below.lit hb))
    clear hb XA_6 XB_6 XBAD_6 XU_6 XV_6 XW_6 D6
    go_wp2_with fail
    refine (lnum_any 1 _).mono ?_
    rintro e v8 ⟨rfl, hb⟩
    have D8 := Lib.hid (below_step D7.out (Below.lit hb))
    have XA_8 := Lib.hid (XA_7.out.then_ (Below.lit hb))
    have XB_8 := Lib.hid (XB_7.out.then_ (Below.lit hb))
    have XBAD_8 := Lib.hid (XBAD_7.out.then_ (Below.lit hb))
    have XU_8 := Lib.hid (XU_7.out.then_ (Below.lit hb))
    have XV_8 := Lib.hid (XV_7.out.then_ (Below.lit hb))
    have XW_8 := Lib.hid (XW_7.out.then_ (Below.lit hb))
    have XX_8 := Lib.hid ((Bx.made v7 0 0 ⟨#[]⟩).then_ hb)
    clear hb XA_7 XB_7 XBAD_7 XU_7 XV_7 XW_7 D7
    go_wp2_with fail
    refine (lnum_any 2 _).mono ?_
    rintro e v9 ⟨rfl, hb⟩
    have D9 := Lib.hid (below_step D8.out hb)
    have XA_9 := Lib.hid (XA_8.out.then_ hb)
    have XB_9 := Lib.hid (XB_8.out.then_ hb)
    have XBAD_9 := Lib.hid (XBAD_8.out.then_ hb)
    have XU_9 := Lib.hid (XU_8.out.then_ hb)
    have XV_9 := Lib.hid (XV_8.out.then_ hb)
    have XW_9 := Lib.hid (XW_8.out.then_ hb)
    have XX_9 := Lib.hid (XX_8.out.then_ hb)
    clear hb XA_8 XB_8 XBAD_8 XU_8 XV_8 XW_8 XX_8 D8
    go_wp2_with fail
    refine (call_pair (Vs.lit2 _ (numV 1) (numV 2) (num_ok (by decide)) (num_ok (by decide))) (by rw [size_al]; omega) (by omega) 5 (k := 0) (m := 0) (s := ⟨#[]⟩) (e := 1) (op_low _ _)).mono ?_
    rintro e v10 ⟨rfl, hb⟩
    have D10 := Lib.hid (below_step D9.out (Below.lit hb))
    have XA_10 := Lib.hid (XA_9.out.then_ (Below.lit hb))
    have XB_10 := Lib.hid (XB_9.out.then_ (Below.lit hb))
    have XBAD_10 := Lib.hid (XBAD_9.out.then_ (Below.lit hb))
    have XU_10 := Lib.hid (XU_9.out.then_ (Below.lit hb))
    have XV_10 := Lib.hid (XV_9.out.then_ (Below.lit hb))
    have XW_10 := Lib.hid (XW_9.out.then_ (Below.lit hb))
    have XX_10 := Lib.hid (XX_9.out.then_ (Below.lit hb))
    clear hb XA_9 XB_9 XBAD_9 XU_9 XV_9 XW_9 XX_9 D9
    go_wp2_with fail
    have hwg := HWG.out
    refine (K2.out _).mono ?_
    rintro e w' ⟨rfl, rfl⟩
    go_wp2_with fail
    refine (lnum_any 1 _).mono ?_
    rintro e v11 ⟨rfl, hb⟩
    have D11 := Lib.hid (below_step D10.out (Below.lit hb))
    have XA_11 := Lib.hid (XA_10.out.then_ (Below.lit hb))
    have XB_11 := Lib.hid (XB_10.out.then_ (Below.lit hb))
    have XBAD_11 := Lib.hid (XBAD_10.out.then_ (Below.lit hb))
    have XU_11 := Lib.hid (XU_10.out.then_ (Below.lit hb))
    have XV_11 := Lib.hid (XV_10.out.then_ (Below.lit hb))
    have XW_11 := Lib.hid (XW_10.out.then_ (Below.lit hb))
    have XX_11 := Lib.hid (XX_10.out.then_ (Below.lit hb))
    have XY_11 := Lib.hid ((Bx.made v10 0 0 ⟨#[]⟩).then_ hb)
    clear hb XA_10 XB_10 XBAD_10 XU_10 XV_10 XW_10 XX_10 D10
    go_wp2_with fail
    refine (lnum_any 2 _).mono ?_
    rintro e v12 ⟨rfl, hb⟩
    have D12 := Lib.hid (below_step D11.out hb)
    have XA_12 := Lib.hid (XA_11.out.then_ hb)
    have XB_12 := Lib.hid (XB_11.out.then_ hb)
    have XBAD_12 := Lib.hid (XBAD_11.out.then_ hb)
    have XU_12 := Lib.hid (XU_11.out.then_ hb)
    have XV_12 := Lib.hid (XV_11.out.then_ hb)
    have XW_12 := Lib.hid (XW_11.out.then_ hb)
    have XX_12 := Lib.hid (XX_11.out.then_ hb)
    have XY_12 := Lib.hid (XY_11.out.then_ hb)
    clear hb XA_11 XB_11 XBAD_11 XU_11 XV_11 XW_11 XX_11 XY_11 D11
    go_wp2_with fail
    have hve : ∀ W, _ = Result.ok true W := fun W => (val_eq 0 0 0 0 ⟨#[]⟩ ⟨#[]⟩ W).trans (by rw [veq_true rfl])
    refine (call_pair (Vs.lit2 _ (numV 1) (numV 2) (num_ok (by decide)) (num_ok (by decide))) (by rw [size_al]; omega) (by omega) g (k := 0) (m := 0) (s := ⟨#[]⟩) (e := 1) (op_high HG.out _ _)).mono ?_
    rintro e v13 ⟨rfl, hb⟩
    have D13 := Lib.hid (below_step D12.out (Below.lit hb))
    have XA_13 := Lib.hid (XA_12.out.then_ (Below.lit hb))
    have XB_13 := Lib.hid (XB_12.out.then_ (Below.lit hb))
    have XBAD_13 := Lib.hid (XBAD_12.out.then_ (Below.lit hb))
    have XU_13 := Lib.hid (XU_12.out.then_ (Below.lit hb))
    have XV_13 := Lib.hid (XV_12.out.then_ (Below.lit hb))
    have XW_13 := Lib.hid (XW_12.out.then_ (Below.lit hb))
    have XX_13 := Lib.hid (XX_12.out.then_ (Below.lit hb))
    have XY_13 := Lib.hid (XY_12.out.then_ (Below.lit hb))
    clear hb XA_12 XB_12 XBAD_12 XU_12 XV_12 XW_12 XX_12 XY_12 D12
    have lXU := XU_13.out.c3
    have tXU := XU_13.out.lt
    have lXV := XV_13.out.c3
    have tXV := XV_13.out.lt
    have lXW := XW_13.out.c3
    have tXW := XW_13.out.lt
    have lXX := XX_13.out.c3
    have tXX := XX_13.out.lt
    have lXY := XY_13.out.c3
    have tXY := XY_13.out.lt
    go_wp2_with fail
    refine (fruns_any _).mono ?_
    rintro e w9 ⟨rfl, hb⟩
    have D9 := Lib.hid (below_step D13.out (Below.lit (Below.lit hb)))
    clear hb
    go_wp2_with fail
    go_ret
    exact ⟨rfl, D9.out⟩
  · go_simp
    refine hK _ _ HS0.out ?_
    clear hK K
    refine HeadW_take (i := 4) (v := ?_) G rfl (by kernel_rfl) (by kernel_rfl) (by kernel_rfl) (fun _ _ _ h => h) (Or.inl ⟨by rfl, ?_⟩) HS0.out ?_
    rotate_left
    · intro w hS
      go_simp
      try with_reducible rfl
    refine HeadW_take (i := 5) (v := ?_) G rfl (by kernel_rfl) (by kernel_rfl) (by kernel_rfl) (fun _ _ _ h => h) (Or.inl ⟨by rfl, ?_⟩) HS0.out ?_
    rotate_left
    · intro w hS
      go_simp
      try with_reducible rfl
    refine HeadW_ready (rs := [1]) (by kernel_rfl) rfl rfl ?_
    refine AllW.cons rfl (fun K hK => ?_) AllW.nil
    go_simp
    refine hK _ _ HS0.out ?_
    clear hK K
    refine HeadW_take (i := 6) (v := ?_) G rfl (by kernel_rfl) (by kernel_rfl) (by kernel_rfl) (fun _ _ _ h => h) (Or.inl ⟨by rfl, ?_⟩) HS0.out ?_
    rotate_left
    · intro w hS
      go_simp
      try with_reducible rfl
    refine HeadW_take (i := 14) (v := ?_) G rfl (by kernel_rfl) (by kernel_rfl) (by kernel_rfl) (fun _ _ _ h => h) (Or.inl ⟨by rfl, ?_⟩) HS0.out ?_
    rotate_left
    · intro w hS
      go_simp
      try with_reducible rfl
    refine HeadW_ready (rs := [15]) (by kernel_rfl) rfl rfl ?_
    refine AllW.cons rfl (fun K hK => ?_) AllW.nil
    go_simp
    refine hK _ _ (HS1.out _) ?_
    clear hK K
    intro _
    refine ⟨by kernel_rfl, ?_⟩
    simp only [List.drop_succ_cons, List.drop_zero]
    have hs1 := HS1.out (.string (sa.extract 0 (min (sa.size : Int) 70).toNat))
    have hs2 := HS2.out (.string (sa.extract 0 (min (sa.size : Int) 70).toNat))
    go_wp2_with fail
    clear xc xf xg HS0 HS1 HS2 hs1 hs2 m1 m2 m3 m4 G XA XB D
    generalize sa.extract 0 (min (sa.size : Int) 70).toNat = ta at *
    generalize sb.extract 0 (min (sb.size : Int) 70).toNat = tb at *
    generalize ((w1.drewN 1).setCell ⟨W.heap.size, 2, none⟩ (.string ta)).setCell ⟨W.heap.size + 1, 2, none⟩ (.string tb) = W2 at *
    have XA2 := Lib.hid (E1.out.alloc (.cells #[.int .i64 9, .int .i64 0, .string ⟨#[]⟩] 26))
    have XB2 := Lib.hid (E2.out.alloc (.cells #[.int .i64 9, .int .i64 0, .string ⟨#[]⟩] 26))
    have xbad := Bx.made W2 9 0 ⟨#[]⟩
    rw [EZ.out] at xbad
    have XBAD2 := Lib.hid xbad
    clear xbad EZ
    have D0 := Lib.hid (E3.out.trans ((below1 W2 (.cells #[.int .i64 9, .int .i64 0, .string ⟨#[]⟩] 26)).mono E3.out.size))
    have TA := Lib.hid (few_ok OA.out E4.out)
    have TB := Lib.hid (few_ok OB.out E5.out)
    clear E1 E2 E3 E4 E5
    generalize W2.alloc (.cells #[.int .i64 9, .int .i64 0, .string ⟨#[]⟩] 26) = W3 at *
    have hwf := HF.out
    have lXA := XA2.out.c3
    have tXA := XA2.out.lt
    have lXB := XB2.out.c3
    have tXB := XB2.out.lt
    have lXBAD := XBAD2.out.c3
    have tXBAD := XBAD2.out.lt
    refine (K1.out _).mono ?_
    rintro e w' ⟨rfl, rfl⟩
    go_wp2_with fail
    clear hwf
    refine (call_pair (Vs.lit2 W3 badV ⟨kb, nb, tb⟩ bad_ok TB.out) (by rw [size_al]; omega) (by omega) f (k := 0) (m := 0) (s := ⟨#[]⟩) (e := 1) (bad_first f _)).mono ?_
    rintro e v1 ⟨rfl, hb⟩
    have D1 := Lib.hid (below_step D0.out (Below.lit hb))
    have XA_1 := Lib.hid (XA2.out.then_ (Below.lit hb))
    have XB_1 := Lib.hid (XB2.out.then_ (Below.lit hb))
    have XBAD_1 := Lib.hid (XBAD2.out.then_ (Below.lit hb))
    clear hb XA2 XB2 XBAD2 D0
    clear lXA
    clear tXA
    clear lXB
    clear tXB
    clear lXBAD
    clear tXBAD
    have lXA := XA_1.out.c3
    have tXA := XA_1.out.lt
    have lXBAD := XBAD_1.out.c3
    have tXBAD := XBAD_1.out.lt
    go_wp2_with fail
    refine (call_pair (Vs.lit2b v1 (.cells #[.int .i64 0, .int .i64 0, .string ⟨#[]⟩] 26) ⟨ka, na, ta⟩ badV TA.out bad_ok) (by rw [size_al, size_al]; omega) (by omega) f (k := 0) (m := 0) (s := ⟨#[]⟩) (e := 1) (bad_second f _)).mono ?_
    rintro e v2 ⟨rfl, hb⟩
    have D2 := Lib.hid (below_step D1.out (Below.lit (Below.lit hb)))
    have XA_2 := Lib.hid (XA_1.out.then_ (Below.lit (Below.lit hb)))
    have XB_2 := Lib.hid (XB_1.out.then_ (Below.lit (Below.lit hb)))
    have XBAD_2 := Lib.hid (XBAD_1.out.then_ (Below.lit (Below.lit hb)))
    have XU_2 := Lib.hid ((Bx.made v1 0 0 ⟨#[]⟩).then_ (Below.lit hb))
    clear hb XA_1 XB_1 XBAD_1 D1
    clear lXA
    clear tXA
    clear lXBAD
    clear tXBAD
    go_wp2_with fail
    refine (call_pair (Vs.nil_ (v2.alloc (.cells #[.int .i64 0, .int .i64 0, .string ⟨#[]⟩] 26)) 0) (Nat.zero_le _) (by omega) f (k := 0) (m := 0) (s := ⟨#[]⟩) (e := 1) (none_len f)).mono ?_
    rintro e v3 ⟨rfl, hb⟩
    have D3 := Lib.hid (below_step D2.out (Below.lit hb))
    have XA_3 := Lib.hid (XA_2.out.then_ (Below.lit hb))
    have XB_3 := Lib.hid (XB_2.out.then_ (Below.lit hb))
    have XBAD_3 := Lib.hid (XBAD_2.out.then_ (Below.lit hb))
    have XU_3 := Lib.hid (XU_2.out.then_ (Below.lit hb))
    have XV_3 := Lib.hid ((Bx.made v2 0 0 ⟨#[]⟩).then_ hb)
    clear hb XA_2 XB_2 XBAD_2 XU_2 D2
    go_wp2_with fail
    refine (lnum_any 1 _).mono ?_
    rintro e v4 ⟨rfl, hb⟩
    have D4 := Lib.hid (below_step D3.out (Below.lit hb))
    have XA_4 := Lib.hid (XA_3.out.then_ (Below.lit hb))
    have XB_4 := Lib.hid (XB_3.out.then_ (Below.lit hb))
    have XBAD_4 := Lib.hid (XBAD_3.out.then_ (Below.lit hb))
    have XU_4 := Lib.hid (XU_3.out.then_ (Below.lit hb))
    have XV_4 := Lib.hid (XV_3.out.then_ (Below.lit hb))
    have XW_4 := Lib.hid ((Bx.made v3 0 0 ⟨#[]⟩).then_ hb)
    clear hb XA_3 XB_3 XBAD_3 XU_3 XV_3 D3
    go_wp2_with fail
    refine (lnum_any 2 _).mono ?_
    rintro e v5 ⟨rfl, hb⟩
    have D5 := Lib.hid (below_step D4.out hb)
    have XA_5 := Lib.hid (XA_4.out.then_ hb)
    have XB_5 := Lib.hid (XB_4.out.then_ hb)
    have XBAD_5 := Lib.hid (XBAD_4.out.then_ hb)
    have XU_5 := Lib.hid (XU_4.out.then_ hb)
    have XV_5 := Lib.hid (XV_4.out.then_ hb)
    have XW_5 := Lib.hid (XW_4.out.then_ hb)
    clear hb XA_4 XB_4 XBAD_4 XU_4 XV_4 XW_4 D4
    go_wp2_with fail
    refine (lnum_any 3 _).mono ?_
    rintro e v6 ⟨rfl, hb⟩
    have D6 := Lib.hid (below_step D5.out hb)
    have XA_6 := Lib.hid (XA_5.out.then_ hb)
    have XB_6 := Lib.hid (XB_5.out.then_ hb)
    have XBAD_6 := Lib.hid (XBAD_5.out.then_ hb)
    have XU_6 := Lib.hid (XU_5.out.then_ hb)
    have XV_6 := Lib.hid (XV_5.out.then_ hb)
    have XW_6 := Lib.hid (XW_5.out.then_ hb)
    clear hb XA_5 XB_5 XBAD_5 XU_5 XV_5 XW_5 D5
    go_wp2_with fail
    refine (call_pair (Vs.lit3 _ (numV 1) (numV 2) (numV 3) (num_ok (by decide)) (num_ok (by decide)) (num_ok (by decide))) (by rw [size_al]; omega) (by omega) f (k := 0) (m := 0) (s := ⟨#[]⟩) (e := 1) (three_len f _ _ _)).mono ?_
    rintro e v7 ⟨rfl, hb⟩
    have D7 := Lib.hid (below_step D6.out (Below.lit hb))
    have XA_7 := Lib.hid (XA_6.out.then_ (Below.lit hb))
    have XB_7 := Lib.hid (XB_6.out.then_ (Below.lit hb))
    have XBAD_7 := Lib.hid (XBAD_6.out.then_ (Below.lit hb))
    have XU_7 := Lib.hid (XU_6.out.then_ (Below.lit hb))
    have XV_7 := Lib.hid (XV_6.out.then_ (Below.lit hb))
    have XW_7 := Lib.hid (XW_6.out.then_ (Below.lit hb))
    clear hb XA_6 XB_6 XBAD_6 XU_6 XV_6 XW_6 D6
    go_wp2_with fail
    refine (lnum_any 1 _).mono ?_
    rintro e v8 ⟨rfl, hb⟩
    have D8 := Lib.hid (below_step D7.out (Below.lit hb))
    have XA_8 := Lib.hid (XA_7.out.then_ (Below.lit hb))
    have XB_8 := Lib.hid (XB_7.out.then_ (Below.lit hb))
    have XBAD_8 := Lib.hid (XBAD_7.out.then_ (Below.lit hb))
    have XU_8 := Lib.hid (XU_7.out.then_ (Below.lit hb))
    have XV_8 := Lib.hid (XV_7.out.then_ (Below.lit hb))
    have XW_8 := Lib.hid (XW_7.out.then_ (Below.lit hb))
    have XX_8 := Lib.hid ((Bx.made v7 0 0 ⟨#[]⟩).then_ hb)
    clear hb XA_7 XB_7 XBAD_7 XU_7 XV_7 XW_7 D7
    go_wp2_with fail
    refine (lnum_any 2 _).mono ?_
    rintro e v9 ⟨rfl, hb⟩
    have D9 := Lib.hid (below_step D8.out hb)
    have XA_9 := Lib.hid (XA_8.out.then_ hb)
    have XB_9 := Lib.hid (XB_8.out.then_ hb)
    have XBAD_9 := Lib.hid (XBAD_8.out.then_ hb)
    have XU_9 := Lib.hid (XU_8.out.then_ hb)
    have XV_9 := Lib.hid (XV_8.out.then_ hb)
    have XW_9 := Lib.hid (XW_8.out.then_ hb)
    have XX_9 := Lib.hid (XX_8.out.then_ hb)
    clear hb XA_8 XB_8 XBAD_8 XU_8 XV_8 XW_8 XX_8 D8
    go_wp2_with fail
    refine (call_pair (Vs.lit2 _ (numV 1) (numV 2) (num_ok (by decide)) (num_ok (by decide))) (by rw [size_al]; omega) (by omega) 5 (k := 0) (m := 0) (s := ⟨#[]⟩) (e := 1) (op_low _ _)).mono ?_
    rintro e v10 ⟨rfl, hb⟩
    have D10 := Lib.hid (below_step D9.out (Below.lit hb))
    have XA_10 := Lib.hid (XA_9.out.then_ (Below.lit hb))
    have XB_10 := Lib.hid (XB_9.out.then_ (Below.lit hb))
    have XBAD_10 := Lib.hid (XBAD_9.out.then_ (Below.lit hb))
    have XU_10 := Lib.hid (XU_9.out.then_ (Below.lit hb))
    have XV_10 := Lib.hid (XV_9.out.then_ (Below.lit hb))
    have XW_10 := Lib.hid (XW_9.out.then_ (Below.lit hb))
    have XX_10 := Lib.hid (XX_9.out.then_ (Below.lit hb))
    clear hb XA_9 XB_9 XBAD_9 XU_9 XV_9 XW_9 XX_9 D9
    go_wp2_with fail
    have hwg := HWG.out
    refine (K2.out _).mono ?_
    rintro e w' ⟨rfl, rfl⟩
    go_wp2_with fail
    refine (lnum_any 1 _).mono ?_
    rintro e v11 ⟨rfl, hb⟩
    have D11 := Lib.hid (below_step D10.out (Below.lit hb))
    have XA_11 := Lib.hid (XA_10.out.then_ (Below.lit hb))
    have XB_11 := Lib.hid (XB_10.out.then_ (Below.lit hb))
    have XBAD_11 := Lib.hid (XBAD_10.out.then_ (Below.lit hb))
    have XU_11 := Lib.hid (XU_10.out.then_ (Below.lit hb))
    have XV_11 := Lib.hid (XV_10.out.then_ (Below.lit hb))
    have XW_11 := Lib.hid (XW_10.out.then_ (Below.lit hb))
    have XX_11 := Lib.hid (XX_10.out.then_ (Below.lit hb))
    have XY_11 := Lib.hid ((Bx.made v10 0 0 ⟨#[]⟩).then_ hb)
    clear hb XA_10 XB_10 XBAD_10 XU_10 XV_10 XW_10 XX_10 D10
    go_wp2_with fail
    refine (lnum_any 2 _).mono ?_
    rintro e v12 ⟨rfl, hb⟩
    have D12 := Lib.hid (below_step D11.out hb)
    have XA_12 := Lib.hid (XA_11.out.then_ hb)
    have XB_12 := Lib.hid (XB_11.out.then_ hb)
    have XBAD_12 := Lib.hid (XBAD_11.out.then_ hb)
    have XU_12 := Lib.hid (XU_11.out.then_ hb)
    have XV_12 := Lib.hid (XV_11.out.then_ hb)
    have XW_12 := Lib.hid (XW_11.out.then_ hb)
    have XX_12 := Lib.hid (XX_11.out.then_ hb)
    have XY_12 := Lib.hid (XY_11.out.then_ hb)
    clear hb XA_11 XB_11 XBAD_11 XU_11 XV_11 XW_11 XX_11 XY_11 D11
    go_wp2_with fail
    have hve : ∀ W, _ = Result.ok true W := fun W => (val_eq 0 0 0 0 ⟨#[]⟩ ⟨#[]⟩ W).trans (by rw [veq_true rfl])
    refine (call_pair (Vs.lit2 _ (numV 1) (numV 2) (num_ok (by decide)) (num_ok (by decide))) (by rw [size_al]; omega) (by omega) g (k := 0) (m := 0) (s := ⟨#[]⟩) (e := 1) (op_high HG.out _ _)).mono ?_
    rintro e v13 ⟨rfl, hb⟩
    have D13 := Lib.hid (below_step D12.out (Below.lit hb))
    have XA_13 := Lib.hid (XA_12.out.then_ (Below.lit hb))
    have XB_13 := Lib.hid (XB_12.out.then_ (Below.lit hb))
    have XBAD_13 := Lib.hid (XBAD_12.out.then_ (Below.lit hb))
    have XU_13 := Lib.hid (XU_12.out.then_ (Below.lit hb))
    have XV_13 := Lib.hid (XV_12.out.then_ (Below.lit hb))
    have XW_13 := Lib.hid (XW_12.out.then_ (Below.lit hb))
    have XX_13 := Lib.hid (XX_12.out.then_ (Below.lit hb))
    have XY_13 := Lib.hid (XY_12.out.then_ (Below.lit hb))
    clear hb XA_12 XB_12 XBAD_12 XU_12 XV_12 XW_12 XX_12 XY_12 D12
    have lXU := XU_13.out.c3
    have tXU := XU_13.out.lt
    have lXV := XV_13.out.c3
    have tXV := XV_13.out.lt
    have lXW := XW_13.out.c3
    have tXW := XW_13.out.lt
    have lXX := XX_13.out.c3
    have tXX := XX_13.out.lt
    have lXY := XY_13.out.c3
    have tXY := XY_13.out.lt
    go_wp2_with fail
    refine (fruns_any _).mono ?_
    rintro e w9 ⟨rfl, hb⟩
    have D9 := Lib.hid (below_step D13.out (Below.lit (Below.lit hb)))
    clear hb
    go_wp2_with fail
    go_ret
    exact ⟨rfl, D9.out⟩
end Go.Proofs.Ytjcegpakacedoaa
