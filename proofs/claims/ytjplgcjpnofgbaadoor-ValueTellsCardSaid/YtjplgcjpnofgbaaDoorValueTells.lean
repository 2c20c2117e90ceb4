/- ValueTells: the walk. -/
import Derived.Test.YtjplgcjpnofgbaaDoorVApp
import Derived.Test.YtjplgcjpnofgbaaDoorVRoom
import Derived.Test.YtjplgcjpnofgbaaDoorVBag
import Derived.Test.YtjplgcjpnofgbaaDoorVHas
import Derived.Test.YtjplgcjpnofgbaaDoorVThree
import Derived.Test.YtjplgcjpnofgbaaDoorVPut
import Derived.Test.YtjplgcjpnofgbaaDoorRefOnly
import Derived.Test.YtjplgcjpnofgbaaDoorSame
import Derived.Deep.RegionHeld3
import Derived.Deep.RegionHeld
import Derived.Lib.QuietBelow
import Derived.Deep.DrawnRows
import Derived.Test.YtjplgcjpnofgbaaDoorVShow
import Derived.Test.YtjplgcjpnofgbaaDoorVName
import Derived.Test.YtjplgcjpnofgbaaDoorVLess
import Derived.Test.YtjplgcjpnofgbaaDoorOpenVals
import Derived.Deep.RegionWith
import Derived.Deep.DeepCutAuto
namespace Go.Proofs.YtjplgcjpnofgbaaDoor
set_option linter.unusedVariables false
open Go.RowKit Go.Sort

/-- What has been gathered: own. -/
def OwnRel (w6 : World) (l : List Vl) (o i : Value) (wr : World) : Prop :=
  ∃ (k c : Nat) (A : Option Addr), k ≤ l.length ∧ o = .slice A k c ∧ i = .int .i64 (k : Int) ∧ wr.ownsRow w6.heap.size 26 3 (.slice A k c) k (cells3 ((l.take k).map fewV)) ∧ Below w6.heap.size w6 wr
theorem own_nil {w : World} {base e size : Nat} : w.ownsRow base e size (.slice none 0 0) 0 [] := ⟨by simp, .inl ⟨rfl, rfl⟩⟩

theorem Vs.of_ob {w : World} {g n : Nat} {l : List Vl} (h : Ob w g 26 (cells3 l).toArray) (hl : l.length = n) (hn : n ≤ 1000000) (hok : ∀ v ∈ l, v.ok) : Vs w (g + 1) (some ⟨g, 0, none⟩) n n l := by
  refine ⟨hl, Nat.le_refl _, by unfold maxLen; omega, .inr ⟨g, 0, rfl, by omega, fun j v hv => ?_⟩, hok⟩
  obtain ⟨a, b, c⟩ := cells3_at hv
  rw [Nat.zero_add]
  exact ⟨(h.cell _).trans ((List.getElem?_toArray ..).trans a), (h.cell _).trans ((List.getElem?_toArray ..).trans b), (h.cell _).trans ((List.getElem?_toArray ..).trans c)⟩
theorem room_ok {l : List Vl} {x : Vl} (h : ∀ v ∈ l, v.ok) (hx : x.ok) : ∀ v ∈ l ++ List.replicate 80 x, v.ok := fun v hv => by
  rcases List.mem_append.1 hv with hv | hv
  · exact h v hv
  · rw [(List.mem_replicate.1 hv).2]; exact hx
theorem room_take {w : World} {B n : Nat} {A : Option Addr} {l : List Vl} {x : Vl} (h : Vs w B A (n + 80) (n + 80) (l ++ List.replicate 80 x)) (hl : l.length = n) : Vs w B A n (n + 80) l := by
  have := h.take (k := n) (by omega)
  rwa [List.take_left' hl] at this

/-- The literal nine. -/
abbrev nine : Obj := .cells #[.int .u8 9] 5
theorem put9 {W : World} {g : Nat} (h : Ob W g 5 #[.int .u8 9]) {k m : Int} {s : ByteArray} (ok : Vl.ok ⟨k, m, s⟩) (hs : s.size ≤ 80) :
    Calls Tryd.prog 19 #[.slice (some ⟨g, 0, none⟩) 1 1, .agg #[.int .i64 k, .int .i64 m, .string s]] W fun e w' => ∃ A n c, e = .returned (.slice A n c) ∧ w'.ownsRow W.heap.size 5 1 (.slice A n c) n (bv ([9] ++ putB ⟨k, m, s⟩)) ∧ Below W.heap.size W w' :=
  (vput_any (l := [9]) (B := g + 1) (Ob.sl (xs := bv [9]) (n := 1) h rfl (by simp [maxLen])) h.lt (by omega) ok.1 ok.2.1 (by omega)).mono fun _ _ ⟨A, n, c, h1, h2, h3⟩ => ⟨A, n, c, h1, h2, h3⟩
theorem own9 {W : World} {g : Nat} (h : Ob W g 5 #[.int .u8 9]) : W.ownsRow g 5 1 (.slice (some ⟨g, 0, none⟩) 1 1) 1 (bv [9]) := by
  refine ⟨rfl, .inr ⟨g, 1, _, rfl, Nat.le_refl _, h, Nat.le_refl _, by simp [maxLen], by simp, rfl⟩⟩
theorem refput9 {W : World} {g : Nat} (h : Ob W g 5 #[.int .u8 9]) {k m : Int} {s : ByteArray} (ok : Vl.ok ⟨k, m, s⟩) (hs : s.size ≤ 80) :
    Calls Tryd.prog 20 #[.slice (some ⟨g, 0, none⟩) 1 1, .agg #[.int .i64 k, .int .i64 m, .string s]] W fun e w' => ∃ A n c, e = .returned (.slice A n c) ∧ Sl w' w'.heap.size A n c (bv ([9] ++ putB ⟨k, m, s⟩)) ∧ W.grownBy w' (some g) :=
  (vrefput_only (l := [9]) (own9 h) (Nat.le_of_lt h.lt) (by omega) ok.1 ok.2.1 (by omega) rfl).mono fun _ _ ⟨A, n, c, h1, h2, _, h3⟩ => ⟨A, n, c, h1, Sl.of_own h2, h3⟩

theorem ob_a (W : World) : Ob (W.alloc nine) W.heap.size 5 #[.int .u8 9] := Ob.made W _ _
theorem ob_b (W : World) : Ob ((W.alloc nine).alloc nine) W.heap.size 5 #[.int .u8 9] := (ob_a W).keep (Below.heap_alloc _ _ _ (by rw [size_al]; omega))
theorem ob_c (W : World) : Ob ((W.alloc nine).alloc nine) (W.heap.size + 1) 5 #[.int .u8 9] := by have := ob_a (W.alloc nine); rwa [size_al] at this
theorem put_kept {W2 wp wq : World} {B g2 n c : Nat} {A : Option Addr} {l : List UInt8} (h : wp.ownsRow B 5 1 (.slice A n c) n (bv l)) (hw : ∀ k, k < wp.heap.size → W2.heap[k]? = wp.heap[k]?) (hz : wp.heap.size ≤ W2.heap.size) (g : W2.grownBy wq (some g2)) (hg : g2 < B ∨ wp.heap.size ≤ g2) : Sl wq wq.heap.size A n c (bv l) := by
  have hs := Sl.of_own h
  have hlo := own_from h rfl
  refine (hs.keep_from (lo := B) hlo fun k h1 h2 => ?_).more (Nat.le_trans hz g.size)
  exact (g.block k (by omega) (by rintro e; injection e with e; omega)).trans (hw k h2)
theorem box_kept {W wq : World} {g g2 : Nat} {k n : Int} {s : ByteArray} (h : Bx W g k n s) (hg : W.grownBy wq (some g2)) (hne : g ≠ g2) : Bx wq g k n s := Ob.keep h (hg.block g h.lt (by rintro e; injection e with e; exact hne e))
theorem below_grown {W wq : World} {B g2 : Nat} (h : W.grownBy wq (some g2)) (hB : B ≤ g2) (hz : B ≤ W.heap.size) : Below B W wq := ⟨h.os, h.tape, h.output, h.size, fun k hk => h.block k (by omega) (by rintro e; injection e with e; omega)⟩

theorem put_d1 {w3 wa wp wq : World} (h : Below w3.heap.size w3 wa) (hb : Below (wa.alloc nine).heap.size (wa.alloc nine) wp) (g : (wp.alloc nine).grownBy wq (some wp.heap.size)) : Below w3.heap.size w3 wq := by
  have h1 := h.size
  have h2 := hb.size
  rw [size_al] at h2
  have a : Below w3.heap.size w3 wp := (h.alloc h1 _).trans (hb.mono (by rw [size_al]; omega))
  exact (a.alloc (by omega) _).trans (below_grown g (by omega) (by rw [size_al]; omega))
theorem put_d2 {w3 wa wp wq : World} {g2 : Nat} (h : Below w3.heap.size w3 wa) (hb : Below ((wa.alloc nine).alloc nine).heap.size ((wa.alloc nine).alloc nine) wp) (g : wp.grownBy wq (some g2)) (hg : wa.heap.size ≤ g2) : Below w3.heap.size w3 wq := by
  have h1 := h.size
  have h2 := hb.size
  rw [size_al, size_al] at h2
  have a : Below w3.heap.size w3 wp := ((h.alloc h1 _).alloc (by rw [size_al]; omega) _).trans (hb.mono (by rw [size_al, size_al]; omega))
  exact a.trans (below_grown g (by omega) (by omega))

theorem same_below {f : FuncId} {args : Array Value} {w : World} {v : Ending} (h : Calls Tryd.prog f args w fun e w' => e = v ∧ w' = w) : Calls Tryd.prog f args w fun e w' => e = v ∧ Below w.heap.size w w' := h.mono fun _ _ ⟨a, b⟩ => ⟨a, by rw [b]; exact Below.refl _ _⟩

set_option maxHeartbeats 25600000 in
set_option maxRecDepth 100000 in
theorem valueTells_walk (w : World) (a : Vl) (ha : a.ok) (b : Vl) (hb : b.ok) (s : ByteArray) (hs : s.size ≤ maxLen) (A : Option Addr) (n c : Nat) (hl0 : ∃ l, Vs w w.heap.size A n c l) (htab : Tab w) :
    Calls Tryd.prog 4 #[a.val, b.val, .string s, .slice A n c] w fun e w' => e = .returned (.bool true) ∧ Below w.heap.size w w' := by
  obtain ⟨l0, hl⟩ := hl0
  have hnc := hl.2.1
  have hcap := hl.2.2.1
  unfold maxLen at hcap hs
  have ht : ∀ w', Below w.heap.size w w' → Tab w' := fun w' hb => htab.then_ hb
  have HT := Lib.hid ht
  obtain ⟨ka, na, sa⟩ := a
  obtain ⟨kb, nb, sb⟩ := b
  obtain ⟨ta, hta, hsa⟩ : ∃ ta, fewV ⟨ka, na, sa⟩ = ⟨ka, na, ta⟩ ∧ ta.size ≤ 80 := ⟨_, rfl, fewV_size _⟩
  obtain ⟨tb, htb, hsb⟩ : ∃ tb, fewV ⟨kb, nb, sb⟩ = ⟨kb, nb, tb⟩ ∧ tb.size ≤ 80 := ⟨_, rfl, fewV_size _⟩
  have FA := Lib.hid (fun W => by have := few_any ka na sa ha.2.2 W; rw [hta] at this; exact this)
  have FB := Lib.hid (fun W => by have := few_any kb nb sb hb.2.2 W; rw [htb] at this; exact this)
  dsimp only [Vl.val] at FA FB
  have HSA := Lib.hid hsa
  have HSB := Lib.hid hsb
  have OKA : Hid (Vl.ok ⟨ka, na, ta⟩) := ⟨ha.1, ha.2.1, Nat.le_trans hsa (by simp [maxLen])⟩
  have OKB : Hid (Vl.ok ⟨kb, nb, tb⟩) := ⟨hb.1, hb.2.1, Nat.le_trans hsb (by simp [maxLen])⟩
  have H := Lib.hid hl
  clear hl ht htab hta htb ha hb hsa hsb
  show Calls _ _ #[.agg #[.int .i64 ka, .int .i64 na, .string sa], .agg #[.int .i64 kb, .int .i64 nb, .string sb], .string s, .slice A n c] w _
  go_enter Tryd.func4, Tryd.ntmps4
  go_wp2_with fail
  have B0 := Lib.hid ((Bx.made w ka na sa).alloc (.cells #[.int .i64 kb, .int .i64 nb, .string sb] 26))
  have B1 := Lib.hid (Bx.made (w.alloc (.cells #[.int .i64 ka, .int .i64 na, .string sa] 26)) kb nb sb)
  have D := Lib.hid (((Below.refl w.heap.size w).alloc (Nat.le_refl _) (.cells #[.int .i64 ka, .int .i64 na, .string sa] 26)).alloc (by rw [size_al]; omega) (.cells #[.int .i64 kb, .int .i64 nb, .string sb] 26))
  generalize (w.alloc (.cells #[.int .i64 ka, .int .i64 na, .string sa] 26)).alloc (.cells #[.int .i64 kb, .int .i64 nb, .string sb] 26) = W3 at *
  have B1' : Hid (Bx W3 (w.heap.size + 1) kb nb sb) := by have := B1.out; rw [size_al] at this; exact this
  clear B1
  go_cut [2, 3] (fun u v wx => ∃ w6 t n1 l, w6 = wx ∧ u = .string t ∧ v = .slice A n1 c ∧ t.size ≤ 60 ∧ n1 ≤ 20 ∧ n1 ≤ c ∧ Vs w w.heap.size A n1 c l ∧ Bx wx w.heap.size ka na ta ∧ Bx wx (w.heap.size + 1) kb nb tb ∧ Below w.heap.size w wx)
  case first =>
    have c0 := B0.out.c3
    have c1 := B1'.out.c3
    have B0d : Hid (Bx W3.drew w.heap.size ka na sa) := B0.out.drewN 1
    have B1d : Hid (Bx W3.drew (w.heap.size + 1) kb nb sb) := B1'.out.drewN 1
    have Dd : Hid (Below w.heap.size w W3.drew) := below_drewN D.out 1
    have m1 : 0 ≤ min (s.size : Int) 60 := by omega
    have m2 : min (s.size : Int) 60 ≤ (s.size : Int) := by omega
    have m3 : 0 ≤ min (n : Int) 20 := by omega
    have m4 : min (n : Int) 20 ≤ (c : Int) := by omega
    refine wp_region_any (by kernel_rfl) ?_
    change wpAny _ _ _ _ _ _ _ (World.drew _)
    refine wpAny_take (i := 4) (v := ?_) rfl (by kernel_rfl) (by kernel_rfl) (by kernel_rfl) (fun _ _ _ h => h) (Or.inl ⟨by rfl, ?_⟩) ?_
    rotate_left
    · intro w
      go_simp
      try with_reducible rfl
    refine wpAny_take (i := 5) (v := ?_) rfl (by kernel_rfl) (by kernel_rfl) (by kernel_rfl) (fun _ _ _ h => h) (Or.inl ⟨by rfl, ?_⟩) ?_
    rotate_left
    · intro w
      go_simp
      try with_reducible rfl
    refine wpAny_take (i := 6) (v := ?_) rfl (by kernel_rfl) (by kernel_rfl) (by kernel_rfl) (fun _ _ _ h => h) (Or.inl ⟨by rfl, ?_⟩) ?_
    rotate_left
    · intro w
      go_simp
      try with_reducible rfl
    refine wpAny_take (i := 7) (v := ?_) rfl (by kernel_rfl) (by kernel_rfl) (by kernel_rfl) (fun _ _ _ h => h) (Or.inl ⟨by rfl, ?_⟩) ?_
    rotate_left
    · intro w
      go_simp
      try with_reducible rfl
    refine wpAny_take (i := 8) (v := ?_) rfl (by kernel_rfl) (by kernel_rfl) (by kernel_rfl) (fun _ _ _ h => h) (Or.inl ⟨by rfl, ?_⟩) ?_
    rotate_left
    · intro w
      go_simp
      try with_reducible rfl
    refine wpAny_take (i := 9) (v := ?_) rfl (by kernel_rfl) (by kernel_rfl) (by kernel_rfl) (fun _ _ _ h => h) (Or.inl ⟨by rfl, ?_⟩) ?_
    rotate_left
    · intro w
      go_simp
      try with_reducible rfl
    refine wpAny_take (i := 10) (v := ?_) rfl (by kernel_rfl) (by kernel_rfl) (by kernel_rfl) (fun _ _ _ h => h) (Or.inl ⟨by rfl, ?_⟩) ?_
    rotate_left
    · intro w
      go_simp
      try with_reducible rfl
    refine wpAny_take (i := 11) (v := ?_) rfl (by kernel_rfl) (by kernel_rfl) (by kernel_rfl) (fun _ _ _ h => h) (Or.inl ⟨by rfl, ?_⟩) ?_
    rotate_left
    · intro w
      go_simp
      try with_reducible rfl
    refine wpAny_take (i := 12) (v := ?_) rfl (by kernel_rfl) (by kernel_rfl) (by kernel_rfl) (fun _ _ _ h => h) (Or.inl ⟨by rfl, ?_⟩) ?_
    rotate_left
    · intro w
      go_simp
      try with_reducible rfl
    refine wpAny_take (i := 13) (v := ?_) rfl (by kernel_rfl) (by kernel_rfl) (by kernel_rfl) (fun _ _ _ h => h) (Or.inl ⟨by rfl, ?_⟩) ?_
    rotate_left
    · intro w
      go_simp
      try with_reducible rfl
    refine wpAny_ready (rs := [0, 2]) (by kernel_rfl) (by simp) ?_
    refine AllReady.cons rfl (fun K hK => ?_) (AllReady.cons rfl (fun K hK => ?_) AllReady.nil)
    · go_simp
      refine hK _ _ ?_
      clear hK K
      refine wpAny_ready (rs := [1, 2]) (by kernel_rfl) (by simp) ?_
      refine AllReady.cons rfl (fun K hK => ?_) (AllReady.cons rfl (fun K hK => ?_) AllReady.nil)
      · go_simp
        go_wp2_with (go_at_call 14; with_reducible refine (FA.out _).mono ?_; rintro e wa ⟨rfl, hba⟩)
        have ca0 := (B0d.out.then_ hba).c3
        have ca1 := (B1d.out.then_ hba).c3
        refine wpAny_ready (rs := [2]) (by kernel_rfl) (by simp) ?_
        refine AllReady.cons rfl (fun K hK => ?_) AllReady.nil
        go_simp
        refine hK _ _ ?_
        clear hK K
        refine wpAny_ready (rs := [3]) (by kernel_rfl) (by simp) ?_
        refine AllReady.cons rfl (fun K hK => ?_) AllReady.nil
        go_simp
        go_wp2_with (go_at_call 14; with_reducible refine (FB.out _).mono ?_; rintro e wb ⟨rfl, hbb⟩)
        have cb0 := ((B0d.out.then_ hba).then_ hbb).c3
        have cb1 := ((B1d.out.then_ hba).then_ hbb).c3
        have fb0 := ((B0d.out.then_ hba).then_ hbb).fz
        have fb1 := ((B1d.out.then_ hba).then_ hbb).fz
        refine wpAny_ready (rs := [14]) (by kernel_rfl) (by simp) ?_
        refine AllReady.cons rfl (fun K hK => ?_) AllReady.nil
        go_simp
        refine hK _ _ ?_
        clear hK K
        refine wpAny_ready (rs := [15]) (by kernel_rfl) (by simp) ?_
        refine AllReady.cons rfl (fun K hK => ?_) AllReady.nil
        go_simp
        refine hK _ _ ?_
        clear hK K
        refine wpAny_ready (rs := [16]) (by kernel_rfl) (by simp) ?_
        refine AllReady.cons rfl (fun K hK => ?_) AllReady.nil
        go_simp
        refine hK _ _ ?_
        clear hK K
        refine wpAny_ready (rs := [17]) (by kernel_rfl) (by simp) ?_
        refine AllReady.cons rfl (fun K hK => ?_) AllReady.nil
        go_simp
        refine hK _ _ ?_
        clear hK K
        refine wpAny_done (by kernel_rfl) ?_ _
        have A0 := Lib.hid ((((B0d.out.then_ hba).then_ hbb).put ka na ta).past (g' := w.heap.size + 1) (by omega) (.int .i64 kb) (.int .i64 nb) (.string tb))
        have E0 := Lib.hid ((((B1d.out.then_ hba).then_ hbb).past (g' := w.heap.size) (by omega) (.int .i64 ka) (.int .i64 na) (.string ta)).put kb nb tb)
        have D0 := Lib.hid (below_put (below_put (below_step (below_step Dd.out hba) hbb) (g := w.heap.size) (Nat.le_refl _) (.int .i64 ka) (.int .i64 na) (.string ta)) (g := w.heap.size + 1) (by omega) (.int .i64 kb) (.int .i64 nb) (.string tb))
        clear ca0 ca1 cb0 cb1 fb0 fb1 hba hbb c0 c1
        go_wp2_with fail
        go_meet
        exact ⟨_, _, _, l0.take (min (n : Int) 20).toNat, rfl, rfl, rfl, by rw [ByteArray.size_extract]; omega, by omega, by omega, H.out.take (by omega), A0.out, E0.out, D0.out⟩
      · go_simp
        refine hK _ _ ?_
        clear hK K
        refine wpAny_ready (rs := [1]) (by kernel_rfl) (by simp) ?_
        refine AllReady.cons rfl (fun K hK => ?_) AllReady.nil
        go_simp
        go_wp2_with (go_at_call 14; with_reducible refine (FA.out _).mono ?_; rintro e wa ⟨rfl, hba⟩)
        have ca0 := (B0d.out.then_ hba).c3
        have ca1 := (B1d.out.then_ hba).c3
        refine wpAny_ready (rs := [3]) (by kernel_rfl) (by simp) ?_
        refine AllReady.cons rfl (fun K hK => ?_) AllReady.nil
        go_simp
        go_wp2_with (go_at_call 14; with_reducible refine (FB.out _).mono ?_; rintro e wb ⟨rfl, hbb⟩)
        have cb0 := ((B0d.out.then_ hba).then_ hbb).c3
        have cb1 := ((B1d.out.then_ hba).then_ hbb).c3
        have fb0 := ((B0d.out.then_ hba).then_ hbb).fz
        have fb1 := ((B1d.out.then_ hba).then_ hbb).fz
        refine wpAny_ready (rs := [14]) (by kernel_rfl) (by simp) ?_
        refine AllReady.cons rfl (fun K hK => ?_) AllReady.nil
        go_simp
        refine hK _ _ ?_
        clear hK K
        refine wpAny_ready (rs := [15]) (by kernel_rfl) (by simp) ?_
        refine AllReady.cons rfl (fun K hK => ?_) AllReady.nil
        go_simp
        refine hK _ _ ?_
        clear hK K
        refine wpAny_ready (rs := [16]) (by kernel_rfl) (by simp) ?_
        refine AllReady.cons rfl (fun K hK => ?_) AllReady.nil
        go_simp
        refine hK _ _ ?_
        clear hK K
        refine wpAny_ready (rs := [17]) (by kernel_rfl) (by simp) ?_
        refine AllReady.cons rfl (fun K hK => ?_) AllReady.nil
        go_simp
        refine hK _ _ ?_
        clear hK K
        refine wpAny_done (by kernel_rfl) ?_ _
        have A0 := Lib.hid ((((B0d.out.then_ hba).then_ hbb).put ka na ta).past (g' := w.heap.size + 1) (by omega) (.int .i64 kb) (.int .i64 nb) (.string tb))
        have E0 := Lib.hid ((((B1d.out.then_ hba).then_ hbb).past (g' := w.heap.size) (by omega) (.int .i64 ka) (.int .i64 na) (.string ta)).put kb nb tb)
        have D0 := Lib.hid (below_put (below_put (below_step (below_step Dd.out hba) hbb) (g := w.heap.size) (Nat.le_refl _) (.int .i64 ka) (.int .i64 na) (.string ta)) (g := w.heap.size + 1) (by omega) (.int .i64 kb) (.int .i64 nb) (.string tb))
        clear ca0 ca1 cb0 cb1 fb0 fb1 hba hbb c0 c1
        go_wp2_with fail
        go_meet
        exact ⟨_, _, _, l0.take (min (n : Int) 20).toNat, rfl, rfl, rfl, by rw [ByteArray.size_extract]; omega, by omega, by omega, H.out.take (by omega), A0.out, E0.out, D0.out⟩
    · go_simp
      refine hK _ _ ?_
      clear hK K
      refine wpAny_ready (rs := [0]) (by kernel_rfl) (by simp) ?_
      refine AllReady.cons rfl (fun K hK => ?_) AllReady.nil
      go_simp
      refine hK _ _ ?_
      clear hK K
      refine wpAny_ready (rs := [1]) (by kernel_rfl) (by simp) ?_
      refine AllReady.cons rfl (fun K hK => ?_) AllReady.nil
      go_simp
      go_wp2_with (go_at_call 14; with_reducible refine (FA.out _).mono ?_; rintro e wa ⟨rfl, hba⟩)
      have ca0 := (B0d.out.then_ hba).c3
      have ca1 := (B1d.out.then_ hba).c3
      refine wpAny_ready (rs := [3]) (by kernel_rfl) (by simp) ?_
      refine AllReady.cons rfl (fun K hK => ?_) AllReady.nil
      go_simp
      go_wp2_with (go_at_call 14; with_reducible refine (FB.out _).mono ?_; rintro e wb ⟨rfl, hbb⟩)
      have cb0 := ((B0d.out.then_ hba).then_ hbb).c3
      have cb1 := ((B1d.out.then_ hba).then_ hbb).c3
      have fb0 := ((B0d.out.then_ hba).then_ hbb).fz
      have fb1 := ((B1d.out.then_ hba).then_ hbb).fz
      refine wpAny_ready (rs := [14]) (by kernel_rfl) (by simp) ?_
      refine AllReady.cons rfl (fun K hK => ?_) AllReady.nil
      go_simp
      refine hK _ _ ?_
      clear hK K
      refine wpAny_ready (rs := [15]) (by kernel_rfl) (by simp) ?_
      refine AllReady.cons rfl (fun K hK => ?_) AllReady.nil
      go_simp
      refine hK _ _ ?_
      clear hK K
      refine wpAny_ready (rs := [16]) (by kernel_rfl) (by simp) ?_
      refine AllReady.cons rfl (fun K hK => ?_) AllReady.nil
      go_simp
      refine hK _ _ ?_
      clear hK K
      refine wpAny_ready (rs := [17]) (by kernel_rfl) (by simp) ?_
      refine AllReady.cons rfl (fun K hK => ?_) AllReady.nil
      go_simp
      refine hK _ _ ?_
      clear hK K
      refine wpAny_done (by kernel_rfl) ?_ _
      have A0 := Lib.hid ((((B0d.out.then_ hba).then_ hbb).put ka na ta).past (g' := w.heap.size + 1) (by omega) (.int .i64 kb) (.int .i64 nb) (.string tb))
      have E0 := Lib.hid ((((B1d.out.then_ hba).then_ hbb).past (g' := w.heap.size) (by omega) (.int .i64 ka) (.int .i64 na) (.string ta)).put kb nb tb)
      have D0 := Lib.hid (below_put (below_put (below_step (below_step Dd.out hba) hbb) (g := w.heap.size) (Nat.le_refl _) (.int .i64 ka) (.int .i64 na) (.string ta)) (g := w.heap.size + 1) (by omega) (.int .i64 kb) (.int .i64 nb) (.string tb))
      clear ca0 ca1 cb0 cb1 fb0 fb1 hba hbb c0 c1
      go_wp2_with fail
      go_meet
      exact ⟨_, _, _, l0.take (min (n : Int) 20).toNat, rfl, rfl, rfl, by rw [ByteArray.size_extract]; omega, by omega, by omega, H.out.take (by omega), A0.out, E0.out, D0.out⟩
  case rest =>
    obtain ⟨w6, t, n1, l, hwx, rfl, rfl, ht60, hn1, hnc1, hl, h0, h1, hd⟩ := hcut
    subst hwx
    have HL := Lib.hid hl
    have B0 := Lib.hid h0
    have B1 := Lib.hid h1
    have D := Lib.hid hd
    have HT60 := Lib.hid ht60
    have HLEN := Lib.hid hl.1
    clear hl h0 h1 hd ht60 H FA FB hnc hs
    have hst : OwnRel w6 l (.slice none 0 0) (.int .i64 0) w6 := ⟨0, 0, none, by omega, rfl, rfl, own_nil, Below.refl _ _⟩
    have HST := Lib.hid hst
    clear hst
    go_wp2_with fail
    go_loopw [9, 34] (fun o i wr => OwnRel w6 l o i wr) (fun _ i _ => n1 - (intOf i).toNat)
    case atStart => exact HST.out
    case round =>
      obtain ⟨k, c1, A1, hk, rfl, rfl, hown, hbel⟩ := hrel
      have HK : Hid (k ≤ l.length) := hk
      have hkn : k ≤ n1 := by have := HLEN.out; omega
      have HB := Lib.hid hbel
      have HO := Lib.hid hown
      clear hk hown hbel
      by_cases hlt : k < n1
      · obtain ⟨b, o, x, rfl, hbb, hx, hxok, x0, x1, x2⟩ := (HL.out.below (Below.trans D.out (HB.out.mono D.out.size))).at_ hlt
        have HXO := Lib.hid hxok
        obtain ⟨kx, nx, sx⟩ := x
        obtain ⟨tx, htx, hsx⟩ : ∃ tx, fewV ⟨kx, nx, sx⟩ = ⟨kx, nx, tx⟩ ∧ tx.size ≤ 80 := ⟨_, rfl, fewV_size _⟩
        have HTX := Lib.hid htx
        have FX := Lib.hid (fun W => by have := few_any kx nx sx hxok.2.2 W; rw [htx] at this; exact this)
        have OKX : Hid (Vl.ok ⟨kx, nx, tx⟩) := ⟨hxok.1, hxok.2.1, Nat.le_trans hsx (by simp [maxLen])⟩
        have HX := Lib.hid hx
        have hi2 : 0 ≤ (k : Int) ∧ (k : Int) < n1 := by omega
        clear hx hxok htx hsx
        dsimp only [Vl.val] at FX x0 x1 x2
        go_wp2_with fail
        refine (FX.out _).mono ?_
        rintro e w1 ⟨rfl, hb1⟩
        obtain ⟨A2, c2, w2, hap, hown2, hbel2, _⟩ := append_vals (w := w1.alloc (.cells #[.int .i64 kx, .int .i64 nx, .string tx] 26)) (ty := 30) (base := w6.heap.size) ((own_then HO.out hb1).alloc _) (Vs.lit1 w1 ⟨kx, nx, tx⟩ OKX.out) (by omega) (by rw [size_al]; have := HB.out.size; have := hb1.size; omega)
        have HO2 := Lib.hid hown2
        have HB2 := Lib.hid (((below_step HB.out hb1).alloc (Nat.le_trans HB.out.size hb1.size) _).trans hbel2)
        have HAP := Lib.hid hap
        clear hap hown2 hbel2 hb1
        go_wp2_with (at_builtin; refine wpList_append_run rfl _ _ _ _ rfl rfl rfl HAP.out ?_)
        go_roundw
        case rel =>
          refine ⟨k + 1, c2, A2, by have := HLEN.out; omega, rfl, by go_num, ?_, HB2.out⟩
          have e : (l.take (k + 1)).map fewV = (l.take k).map fewV ++ [⟨kx, nx, tx⟩] := by
            rw [List.take_add_one, HX.out, List.map_append]
            simp [HTX.out]
          rw [e]
          exact HO2.out
        case measure => simp [intOf]; omega
      · obtain rfl : n1 = k := by omega
        have hall : l.take n1 = l := List.take_of_length_le (by have := HLEN.out; omega)
        rw [hall] at HO
        generalize hL : l.map fewV = L at *
        have HLN : Hid (L.length = n1) := by show _ = _; rw [← hL, List.length_map]; exact HLEN.out
        have HOKL : Hid (∀ v ∈ L, v.ok) := by
          show ∀ v ∈ L, v.ok
          subst hL
          intro v hv
          obtain ⟨x, hx, rfl⟩ := List.mem_map.1 hv
          have hxo := HL.out.2.2.2.2 x hx
          exact ⟨hxo.1, hxo.2.1, Nat.le_trans (fewV_size x) (by simp [maxLen])⟩
        have HV := Lib.hid (Vs.of_own HO.out HOKL.out)
        have DW := Lib.hid (Below.trans D.out (HB.out.mono D.out.size))
        have B0w := Lib.hid (B0.out.below HB.out B0.out.lt)
        have B1w := Lib.hid (B1.out.below HB.out B1.out.lt)
        clear hL hall HO HB B0 B1
        have c0 := B0w.out.c3
        have c1 := B1w.out.c3
        have LA := Lib.hid (fun W => less_any ⟨ka, na, ta⟩ ⟨kb, nb, tb⟩ OKA.out.2.2 OKB.out.2.2 W)
        have RA := Lib.hid (fun W => refless_any ⟨ka, na, ta⟩ ⟨kb, nb, tb⟩ OKA.out.2.2 OKB.out.2.2 W)
        dsimp only [Vl.val] at LA RA
        generalize lessOf ⟨ka, na, ta⟩ ⟨kb, nb, tb⟩ = lo at *
        go_wp2_with fail
        refine (LA.out _).mono ?_
        rintro e w1 ⟨rfl, hb1⟩
        have D1 := Lib.hid (below_step DW.out hb1)
        have V1 := Lib.hid (HV.out.then_ hb1)
        have P1 := Lib.hid (B0w.out.then_ hb1)
        have Q1 := Lib.hid (B1w.out.then_ hb1)
        clear c0 c1 hb1 DW HV B0w B1w
        have c0 := P1.out.c3
        have c1 := Q1.out.c3
        go_wp2_with fail
        refine (RA.out _).mono ?_
        rintro e w2 ⟨rfl, hb1⟩
        have D2 := Lib.hid (below_step D1.out hb1)
        have V2 := Lib.hid (V1.out.then_ hb1)
        have P2 := Lib.hid (P1.out.then_ hb1)
        have Q2 := Lib.hid (Q1.out.then_ hb1)
        clear c0 c1 hb1 D1 V1 P1 Q1
        have c0 := P2.out.c3
        have RM := Lib.hid (vroomy_any ⟨ka, na, ta⟩ V2.out (Nat.le_refl _) (by omega))
        dsimp only at RM
        go_wp2_with fail
        refine RM.out.mono ?_
        rintro e w3 ⟨rfl, ho3, hb3⟩
        have D3 := Lib.hid (below_step D2.out hb3)
        have V3 := Lib.hid (V2.out.then_ hb3)
        have P3 := Lib.hid (P2.out.then_ hb3)
        have Q3 := Lib.hid (Q2.out.then_ hb3)
        have F3 := Lib.hid (Vs.of_ob (n := n1 + 80) ho3 (by rw [List.length_append, List.length_replicate, HLN.out]) (by omega) (room_ok HOKL.out OKA.out))
        have G3 := Lib.hid (room_take F3.out HLN.out)
        have HR2 : Hid (w2.heap.size + 1 + 1 ≤ w3.heap.size) := ho3.lt
        clear c0 hb3 ho3 RM D2 V2 P2 Q2
        go_wp2_with fail
        go_cut [17] (fun u wx => ∃ w7, w7 = wx ∧ u = .bool true ∧ Below w3.heap.size w3 wx)
        case first =>
          have c0 := P3.out.c3
          have RR := Lib.hid (fun W => refright_any ka na ta OKA.out.2.2 W)
          cases hr : decide (RightV ka na ta.data.toList)
          · rw [hr] at RR
            have Q1 : Hid (∀ d os, Calls Tryd.prog 17 #[.agg #[.int .i64 ka, .int .i64 na, .string ta]] (grow (redrawn w3 d) os) fun e w'' => e = .returned (.bool false) ∧ ∃ p : Regrown, w'' = grow (redrawn w3 p.d) p.os) := fun d os => Calls.regrown_of (RR.out _)
            obtain ⟨z0, z1, z2⟩ := P3.out.grown
            clear hr RR c0
            refine wp_region_quiet_below (by kernel_rfl) (by kernel_rfl) ?_
            repeat (go_big_quiet_step ((first | (go_at_call 17; exact Q1.out _ _))))
            refine wpQuiet_nil ?_
            intro _ hw'
            obtain ⟨⟨dq, osq⟩, hw''⟩ := hw'
            subst hw''
            clear z0 z1 z2
            go_wp2_with fail
            go_meet
            exact ⟨_, rfl, rfl, below_regrown w3 dq osq⟩
          · rw [hr] at RR
            clear hr c0
            have PD : Hid (Bx w3.drew w.heap.size ka na ta) := P3.out.drewN 1
            have DD : Hid (Below w3.heap.size w3 w3.drew) := below_drewN (Below.refl _ _) 1
            have HLT : Hid (w.heap.size < w3.heap.size) := P3.out.lt
            go_region_held3 (fun w' => w'.cell? ⟨w.heap.size, 0, none⟩ = some (.int .i64 ka) ∧ w'.cell? ⟨w.heap.size, 1, none⟩ = some (.int .i64 na) ∧ w'.cell? ⟨w.heap.size, 2, none⟩ = some (.string ta))
              (first | exact PD.out.c3 | exact PA.out.c3 | exact (PA.out.alloc _).c3 | exact ((PA.out.alloc _).alloc _).c3 | exact PP.out.c3 | exact (PP.out.alloc _).c3 | exact PQ.out.c3 | exact PS.out.c3)
              ((first
                | (go_at_call 17; (with_reducible refine (RR.out _).mono ?_); rintro e wa ⟨rfl, hba⟩; have PA := Lib.hid (PD.out.then_ hba); have DA := Lib.hid (below_step DD.out hba); clear hba)
                | (go_at_call 19; (with_reducible refine (put9 (ob_a _) OKA.out HSA.out).mono ?_); rintro e wp ⟨A7, n7, c7, rfl, hop, hbp⟩; have PP := Lib.hid ((PA.out.alloc _).then_ hbp); have OP := Lib.hid hop; have BP := Lib.hid hbp; clear hop hbp)
                | (go_at_call 19; (with_reducible refine (put9 (ob_b _) OKA.out HSA.out).mono ?_); rintro e wp ⟨A7, n7, c7, rfl, hop, hbp⟩; have PP := Lib.hid (((PA.out.alloc _).alloc _).then_ hbp); have OP := Lib.hid hop; have BP := Lib.hid hbp; have OB := Lib.hid ((ob_c _).below hbp (by rw [size_al, size_al]; omega)); clear hop hbp)
                | (go_at_call 19; (with_reducible refine (put9 (ob_c _) OKA.out HSA.out).mono ?_); rintro e wp ⟨A7, n7, c7, rfl, hop, hbp⟩; have PP := Lib.hid (((PA.out.alloc _).alloc _).then_ hbp); have OP := Lib.hid hop; have BP := Lib.hid hbp; have OB := Lib.hid ((ob_b _).below hbp (by rw [size_al, size_al]; omega)); clear hop hbp)
                | (go_at_call 20; (with_reducible refine (refput9 (ob_a _) OKA.out HSA.out).mono ?_); rintro e wq ⟨A8, n8, c8, rfl, hsq, hgq⟩; have PQ := Lib.hid (box_kept (PP.out.alloc _) hgq (Nat.ne_of_lt PP.out.lt)); have SP := Lib.hid (put_kept OP.out (fun k hk => Below.heap_alloc _ _ k hk) (by rw [size_al]; omega) hgq (.inr (Nat.le_refl _))); have SQ := Lib.hid hsq; have DQ := Lib.hid (put_d1 DA.out BP.out hgq); clear hsq hgq)
                | (go_at_call 20; (with_reducible refine (refput9 OB.out OKA.out HSA.out).mono ?_); rintro e wq ⟨A8, n8, c8, rfl, hsq, hgq⟩; have PQ := Lib.hid (box_kept PP.out hgq (by have := PA.out.lt; omega)); have SP := Lib.hid (put_kept OP.out (fun k hk => rfl) (Nat.le_refl _) hgq (.inl (by rw [size_al, size_al]; omega))); have SQ := Lib.hid hsq; have DQ := Lib.hid (put_d2 DA.out BP.out hgq (by omega)); clear hsq hgq)
                | (go_at_call 18; (with_reducible refine (same_true SP.out SQ.out rfl).mono ?_); rintro e ws ⟨rfl, hbs⟩; have PS := Lib.hid (PQ.out.then_ hbs); have DS := Lib.hid (below_step DQ.out hbs); clear hbs)))
            all_goals
              go_wp2_with fail
              go_meet
              exact ⟨_, rfl, rfl, DS.out⟩
        case rest =>
          obtain ⟨w7, hwx, rfl, hb7⟩ := hcut
          subst hwx
          have HZ : Hid (w2.heap.size + 1 + 1 ≤ w7.heap.size) := Nat.le_trans HR2.out hb7.size
          have F7 := Lib.hid ((F3.out.more HR2.out).then_ hb7)
          have G7 := Lib.hid ((G3.out.more HR2.out).then_ hb7)
          have V7 := Lib.hid (V3.out.then_ hb7)
          have P7 := Lib.hid (P3.out.then_ hb7)
          have Q7 := Lib.hid (Q3.out.then_ hb7)
          have D7 := Lib.hid (below_step D3.out hb7)
          clear hb7 HR2 F3 G3 V3 P3 Q3 D3
          have K := Lib.hid (fun d os => below_regrown w7 d os)
          have C1 : Hid (∀ d os, Calls Tryd.prog 21 #[.string t] (grow (redrawn w7 d) os) fun e w'' => e = .returned (.bool (decide (Named t.data.toList))) ∧ ∃ p : Regrown, w'' = grow (redrawn w7 p.d) p.os) := fun d os => Calls.regrown_of (same_below (name_any t (by have := HT60.out; unfold maxLen; omega) _))
          have C2 : Hid (∀ d os, Calls Tryd.prog 22 #[.string t] (grow (redrawn w7 d) os) fun e w'' => e = .returned (.bool (decide (Named t.data.toList))) ∧ ∃ p : Regrown, w'' = grow (redrawn w7 p.d) p.os) := fun d os => Calls.regrown_of (same_below (refname_any t (by have := HT60.out; unfold maxLen; omega) _))
          have C3 : Hid (∀ d os, Calls Tryd.prog 23 #[.agg #[.int .i64 ka, .int .i64 na, .string ta]] (grow (redrawn w7 d) os) fun e w'' => e = .returned (.bool (decide (RightV ka na ta.data.toList))) ∧ ∃ p : Regrown, w'' = grow (redrawn w7 p.d) p.os) := fun d os => Calls.regrown_of (right_any ka na ta OKA.out.2.2 _)
          have C4 : Hid (∀ d os, Calls Tryd.prog 17 #[.agg #[.int .i64 ka, .int .i64 na, .string ta]] (grow (redrawn w7 d) os) fun e w'' => e = .returned (.bool (decide (RightV ka na ta.data.toList))) ∧ ∃ p : Regrown, w'' = grow (redrawn w7 p.d) p.os) := fun d os => Calls.regrown_of (refright_any ka na ta OKA.out.2.2 _)
          have C5 : Hid (∀ d os, Calls Tryd.prog 13 #[.agg #[.int .i64 ka, .int .i64 na, .string ta]] (grow (redrawn w7 d) os) fun e w'' => e = .returned (.string ⟨(showB ⟨ka, na, ta⟩).toArray⟩) ∧ ∃ p : Regrown, w'' = grow (redrawn w7 p.d) p.os) := fun d os => Calls.regrown_of (vtext_any ka na ta OKA.out.2.1 (by have := HSA.out; omega) _ (HT.out _ (below_step D7.out (K.out d os))))
          have C6 : Hid (∀ d os, Calls Tryd.prog 24 #[.agg #[.int .i64 ka, .int .i64 na, .string ta]] (grow (redrawn w7 d) os) fun e w'' => e = .returned (.string ⟨(showB ⟨ka, na, ta⟩).toArray⟩) ∧ ∃ p : Regrown, w'' = grow (redrawn w7 p.d) p.os) := fun d os => Calls.regrown_of (vtextof_any ka na ta OKA.out.2.1 (by have := HSA.out; omega) _)
          have C7 : Hid (∀ d os, Calls Tryd.prog 25 #[.slice (some ⟨w2.heap.size + 1, 0, none⟩) n1 (n1 + 80)] (grow (redrawn w7 d) os) fun e w'' => e = .returned (.bool (bagB L)) ∧ ∃ p : Regrown, w'' = grow (redrawn w7 p.d) p.os) := fun d os => Calls.regrown_of (vbag_any (G7.out.below (K.out d os)) (K.out d os).size)
          have C8 : Hid (∀ d os, Calls Tryd.prog 26 #[.slice A1 n1 c1] (grow (redrawn w7 d) os) fun e w'' => e = .returned (.bool (bagB L)) ∧ ∃ p : Regrown, w'' = grow (redrawn w7 p.d) p.os) := fun d os => Calls.regrown_of (vrefbag_any (V7.out.below (K.out d os)) (K.out d os).size)
          have C9 : Hid (∀ d os, Calls Tryd.prog 27 #[.slice (some ⟨w2.heap.size + 1, 0, none⟩) n1 (n1 + 80), .agg #[.int .i64 kb, .int .i64 nb, .string tb]] (grow (redrawn w7 d) os) fun e w'' => e = .returned (.bool (hasB L ⟨kb, nb, tb⟩)) ∧ ∃ p : Regrown, w'' = grow (redrawn w7 p.d) p.os) := fun d os => Calls.regrown_of (vhas_any (G7.out.below (K.out d os)) (K.out d os).size kb nb tb)
          have C10 : Hid (∀ d os, Calls Tryd.prog 28 #[.slice A1 n1 c1, .agg #[.int .i64 kb, .int .i64 nb, .string tb]] (grow (redrawn w7 d) os) fun e w'' => e = .returned (.bool (hasB L ⟨kb, nb, tb⟩)) ∧ ∃ p : Regrown, w'' = grow (redrawn w7 p.d) p.os) := fun d os => Calls.regrown_of (vrefhas_any (V7.out.below (K.out d os)) (K.out d os).size kb nb tb)
          have C11 : Hid (∀ d os, Calls Tryd.prog 29 #[.slice (some ⟨w2.heap.size + 1, 0, none⟩) (n1 + 80) (n1 + 80), .slice A1 n1 c1, .agg #[.int .i64 ka, .int .i64 na, .string ta]] (grow (redrawn w7 d) os) fun e w'' => e = .returned (.bool true) ∧ ∃ p : Regrown, w'' = grow (redrawn w7 p.d) p.os) := fun d os => Calls.regrown_of (vintact_any ⟨ka, na, ta⟩ (F7.out.below (K.out d os)) (V7.out.below (K.out d os)) (K.out d os).size (K.out d os).size (by omega))
          have C12 : Hid (∀ d os, Calls Tryd.prog 3 #[] (grow (redrawn w7 d) os) fun e w'' => e = .returned (.bool true) ∧ ∃ p : Regrown, w'' = grow (redrawn w7 p.d) p.os) := fun d os => Calls.regrown_of (vruns_any _ (HT.out _ (below_step D7.out (K.out d os))))
          obtain ⟨z0, z1, z2⟩ := P7.out.grown
          obtain ⟨y0, y1, y2⟩ := Q7.out.grown
          generalize decide (RightV ka na ta.data.toList) = br at *
          generalize decide (Named t.data.toList) = bn at *
          generalize bagB L = bb at *
          generalize hasB L ⟨kb, nb, tb⟩ = bh at *
          generalize (⟨(showB ⟨ka, na, ta⟩).toArray⟩ : ByteArray) = st at *
          go_wp2_with fail
          refine wp_region_quiet_below (by kernel_rfl) (by kernel_rfl) ?_
          repeat (go_big_quiet_step ((first
            | (go_at_call 21; exact C1.out _ _)
            | (go_at_call 22; exact C2.out _ _)
            | (go_at_call 23; exact C3.out _ _)
            | (go_at_call 17; exact C4.out _ _)
            | (go_at_call 13; exact C5.out _ _)
            | (go_at_call 24; exact C6.out _ _)
            | (go_at_call 25; exact C7.out _ _)
            | (go_at_call 26; exact C8.out _ _)
            | (go_at_call 27; exact C9.out _ _)
            | (go_at_call 28; exact C10.out _ _)
            | (go_at_call 29; exact C11.out _ _)
            | (go_at_call 3; exact C12.out _ _))))
          refine wpQuiet_nil ?_
          intro _ hw'
          obtain ⟨⟨dq, osq⟩, hw''⟩ := hw'
          subst hw''
          clear z0 z1 z2 y0 y1 y2
          go_wp2_with fail
          go_ret
          exact ⟨rfl, below_step D7.out (below_regrown w7 dq osq)⟩
end Go.Proofs.YtjplgcjpnofgbaaDoor
