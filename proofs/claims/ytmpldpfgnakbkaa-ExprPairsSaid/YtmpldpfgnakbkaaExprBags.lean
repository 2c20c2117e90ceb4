/- ExprBags: the walk. -/
import Derived.Test.YtmpldpfgnakbkaaExpC
namespace Go.Proofs.Ytmpldpfgnakbkaa
set_option linter.unusedVariables false
open Go.RowKit Go.Sort

def bagG (L : List Vl) : Giv := ⟨4, ⟨#[98]⟩, L⟩
def attrB4 : Nod := ⟨2, ⟨0, 0, ⟨#[]⟩⟩, ⟨4, ⟨#[98]⟩, false⟩⟩
def opB (f : Int) : Nod := ⟨f, ⟨0, 0, ⟨#[]⟩⟩, ⟨0, ⟨#[]⟩, false⟩⟩
def litB (v : Vl) : Nod := ⟨1, v, ⟨0, ⟨#[]⟩, false⟩⟩
theorem bag_getR (L : List Vl) : getR [bagG L] ⟨4, ⟨#[98]⟩, false⟩ = L := by
  have hi : idxA [bagG L] 4 ⟨#[98]⟩ = 0 := idx_at (g := bagG L) rfl (isG_self (bagG L)) (fun j x _ hj => by omega)
  have hb : getB [bagG L] ⟨4, ⟨#[98]⟩, false⟩ = L := by
    show bagA [bagG L] 4 ⟨#[98]⟩ = L
    unfold bagA
    rw [hi]
    rfl
  have he : getE [bagG L] ⟨4, ⟨#[98]⟩, false⟩ = 0 := by unfold getE; simp
  unfold getR
  rw [if_pos he, hb]
theorem bag_getE (L : List Vl) : getE [bagG L] ⟨4, ⟨#[98]⟩, false⟩ = 0 := by unfold getE; simp
theorem bag_attr (L : List Vl) (st : List Prt) : stepP [bagG L] st attrB4 = st ++ [⟨L, noneV, 0⟩] := by
  unfold stepP
  rw [show takesN attrB4.op = 0 from rfl, Nat.sub_zero, List.take_length]
  have : madeP [bagG L] attrB4 (st.drop st.length) = ⟨L, noneV, 0⟩ := by
    have : madeP [bagG L] attrB4 (st.drop st.length) = ⟨getR [bagG L] ⟨4, ⟨#[98]⟩, false⟩, noneV, getE [bagG L] ⟨4, ⟨#[98]⟩, false⟩⟩ := rfl
    rw [this, bag_getR, bag_getE]
  rw [this]
theorem bag_val4 (L : List Vl) : valP [bagG L] [attrB4, opB 4] = (⟨2, L.length, ⟨#[]⟩⟩, 0) := by
  refine val_of (p := ⟨[], numV L.length, 0⟩) (by decide +kernel) (by simp) ?_
  rw [runP_cons, runP_cons, runP_nil, bag_attr]
  rfl
theorem bag_val3 (L : List Vl) : valP [bagG L] [attrB4, opB 3] = singleV L := by
  refine (val_of (p := ⟨[], (singleV L).1, (singleV L).2⟩) (by decide +kernel) (by simp) ?_).trans rfl
  rw [runP_cons, runP_cons, runP_nil, bag_attr]
  rfl
theorem litB_holds {v : Vl} (h : v.right) : holdsB (litB v) = true := by
  simp [holdsB, litB, h]
  rfl
theorem litB_step {v : Vl} (h : v.right) (s : List Bool) : stepX (litB v) s = some (false :: s) := by
  unfold stepX
  rw [if_pos (litB_holds h)]
  rfl
theorem bag_val5 (L : List Vl) {v : Vl} (h : v.right) : valP [bagG L] [attrB4, litB v, opB 5] = (⟨1, truthN (hasB L v), ⟨#[]⟩⟩, 0) := by
  refine val_of (p := ⟨[], truthV (hasB L v), 0⟩) ?_ (by simp) ?_
  · have e1 : ∀ s, stepX attrB4 s = some (true :: s) := fun s => by
      unfold stepX
      rw [if_pos (by decide +kernel : holdsB attrB4 = true)]
      rfl
    have e2 : ∀ s, stepX (opB 5) s = popX 5 s := fun s => by
      unfold stepX
      rw [if_pos (by decide +kernel : holdsB (opB 5) = true)]
      rfl
    unfold exprE
    simp only [runX, e1, e2, litB_step h]
    rfl
  · rw [runP_cons, runP_cons, runP_cons, runP_nil, bag_attr]
    rfl
theorem single_not {L : List Vl} (h : L.length ≠ 1) : singleV L = (⟨0, 0, ⟨#[]⟩⟩, 4) := by
  match L, h with
  | [], _ => rfl
  | [v], h => exact absurd rfl h
  | _ :: _ :: _, _ => rfl
theorem attrB4_ok : attrB4.ok := by decide
theorem opB_ok {f : Int} (h : InI f) : (opB f).ok := ⟨h, ⟨ini0, ini0, (by decide : (⟨#[]⟩ : ByteArray).size ≤ maxLen)⟩, ⟨ini0, (by decide : (⟨#[]⟩ : ByteArray).size ≤ maxLen)⟩⟩
theorem litB_ok {v : Vl} (h : v.ok) : (litB v).ok := ⟨ini1, h, ⟨ini0, (by decide : (⟨#[]⟩ : ByteArray).size ≤ maxLen)⟩⟩
theorem bagG_ok (L : List Vl) : (bagG L).ok := ⟨(by decide : InI 4), (by decide : (⟨#[98]⟩ : ByteArray).size ≤ maxLen)⟩
theorem bag_short {L : List Vl} (h : ∀ v ∈ L, v.s.size ≤ 80) (hn : L.length ≤ 16) : ShortG [bagG L] := fun g hg => by
  simp at hg
  subst hg
  exact ⟨fun v hv => by have := h v hv; omega, by show L.length ≤ 100000; omega⟩
theorem bagc_is {w : World} {R : Nat → Prop} {A : Option Addr} {n c : Nat} {l : List Vl} {b : Bool} (hb : bagB l = b) (h : Vls w R A n c l) :
    Calls Try.prog 35 #[.slice A n c] w fun e w' => e = .returned (.bool b) ∧ Below w.heap.size w w' := by
  have := vbag_any h.vs (Nat.le_refl _)
  rwa [hb] at this
theorem rightc_is {k n : Int} {s : ByteArray} {b : Bool} (hb : decide (Vl.right ⟨k, n, s⟩) = b) (hs : s.size ≤ maxLen) (w : World) :
    Calls Try.prog 36 #[.agg #[.int .i64 k, .int .i64 n, .string s]] w fun e w' => e = .returned (.bool b) ∧ Below w.heap.size w w' := by
  have := right_any k n s hs w
  rwa [show decide (RightV k n s.data.toList) = b from hb] at this
theorem hasc_is {w : World} {R : Nat → Prop} {A : Option Addr} {n c : Nat} {l : List Vl} {k m : Int} {s : ByteArray} {b : Bool} (hb : hasB l ⟨k, m, s⟩ = b) (h : Vls w R A n c l) :
    Calls Try.prog 37 #[.slice A n c, .agg #[.int .i64 k, .int .i64 m, .string s]] w fun e w' => e = .returned (.bool b) ∧ Below w.heap.size w w' := by
  have := vhas_any h.vs (Nat.le_refl _) k m s
  rwa [hb] at this
/-- Of these none is long. -/
def ShortTo (l : List Vl) (k : Nat) : Prop := ∀ j x, l[j]? = some x → j < k → x.s.size ≤ 80
theorem ShortTo.step {l : List Vl} {k : Nat} {x : Vl} (h : ShortTo l k) (hx : l[k]? = some x) (h2 : x.s.size ≤ 80) : ShortTo l (k + 1) := fun j y hy hj => by
  by_cases e : j = k
  · subst e
    obtain rfl := Option.some.inj (hx.symm.trans hy)
    exact h2
  · exact h j y hy (by omega)
theorem ShortTo.all {l : List Vl} {n : Nat} (h : ShortTo l n) (hn : l.length = n) : ∀ v ∈ l, v.s.size ≤ 80 := fun v hv => by
  obtain ⟨j, hj, rfl⟩ := List.getElem_of_mem hv
  exact h j _ (List.getElem?_eq_getElem hj) (by omega)
/-- What lies below a block is kept where only what lies from it on has changed. -/
theorem Vls.low {w w' : World} {B : Nat} {A : Option Addr} {n c : Nat} {l : List Vl} (h : Vls w (fun b => b < B) A n c l) (hb : Below B w w') : Vls w' (fun b => b < B) A n c l := h.keep (Kept.below hb (fun b hb _ => hb)) (fun _ h _ => h)

set_option maxRecDepth 100000 in
set_option maxHeartbeats 6400000 in
theorem exprBags_walk (W : World) (A0 : Option Addr) (n0 c0 : Nat) (h0 : ∃ l, Vls W (fun _ => True) A0 n0 c0 l) (a : Vl) (ha : a.ok) :
    Calls Try.prog 9 #[.slice A0 n0 c0, a.val] W fun e w' => e = .returned (.bool true) ∧ Below W.heap.size W w' := by
  obtain ⟨l0, h0⟩ := h0
  obtain ⟨vk, vm, vs⟩ := a
  unfold Vl.val
  have b0 := Rw.le h0
  have m0 := Rw.cap h0
  unfold maxLen at m0
  obtain ⟨p0, hp0⟩ : ∃ p : Nat, min (n0 : Int) 16 = (p : Int) := ⟨(min (n0 : Int) 16).toNat, by omega⟩
  have y0 : (p0 : Int) ≤ (c0 : Int) := by omega
  have T0 : Hid (Vls W (fun b => b < W.heap.size) A0 p0 c0 (l0.take p0)) := Rw.take (Vls.keep h0 (Kept.refl _ _) (fun b _ h => h)) (show p0 ≤ n0 by omega)
  have S0 : Hid (p0 ≤ 16) := by show _ ≤ _; omega
  have K := Lib.hid (below1 W (.cells #[.int .i64 vk, .int .i64 vm, .string vs] 42))
  have R3 := Lib.hid (Bx.made W vk vm vs)
  have hvs : vs.size ≤ 9223372036854775807 := by have := ha.2.2; unfold maxLen at this; omega
  obtain ⟨q, hq⟩ : ∃ q : Nat, min (vs.size : Int) 80 = (q : Int) := ⟨(min (vs.size : Int) 80).toNat, by omega⟩
  have hq0 : (q : Int) ≤ (vs.size : Int) := by omega
  have HA := Lib.hid ha
  clear h0 ha
  go_enter Try.func9, Try.ntmps9
  go_wp2_with fail
  clear y0 b0 hp0
  generalize l0.take p0 = L at *
  have LL : Hid (L.length = p0) := Rw.len T0.out
  generalize hW1 : W.alloc (.cells #[.int .i64 vk, .int .i64 vm, .string vs] 42) = w1 at *
  clear hW1
  go_loopw [20] (fun i wr => ∃ k : Nat, k ≤ p0 ∧ i = .int .i64 k ∧ ShortTo L k ∧ Below w1.heap.size w1 wr) (fun i _ => p0 - (intOf i).toNat)
  case atStart => exact ⟨0, Nat.zero_le _, rfl, fun j x _ hj => by omega, Below.refl _ _⟩
  case round =>
    obtain ⟨k, hk, rfl, hp, hb⟩ := hrel
    have HP := Lib.hid hp
    have HB := Lib.hid (below_step K.out hb)
    have HBB := Lib.hid hb
    have R4 := Lib.hid (R3.out.then_ hb)
    have hs0 := S0.out
    clear hp hb
    by_cases hlt : k < p0
    · obtain ⟨b, o, x, rfl, hRb, hbl, hx, hok, q0, q1, q2⟩ := (T0.out.low HB.out).at_ hlt
      have HX := Lib.hid hx
      obtain ⟨xk, xn, xs⟩ := x
      simp only at q0 q1 q2
      clear hx hok hRb
      by_cases h80 : 80 < xs.size
      · have hg : (80 : Int) < (xs.size : Int) := by omega
        go_wp2_with (go_at_call 5; refine (eruns_any _).mono ?_; rintro e w2 ⟨rfl, hb⟩; have K2 := Lib.hid (below_step HB.out hb); clear hb)
        go_ret
        exact ⟨rfl, K2.out⟩
      · have hg : ¬ (80 : Int) < (xs.size : Int) := by omega
        have HZ := Lib.hid (HP.out.step HX.out (by show xs.size ≤ 80; omega))
        go_wp2_with fail
        go_roundw
        case rel => exact ⟨k + 1, by omega, by go_num, HZ.out, HBB.out⟩
        case measure => simp [intOf]; omega
    · obtain rfl : k = p0 := by omega
      have SH := Lib.hid (HP.out.all LL.out)
      have f4 := R4.out.fz
      have c4 := R4.out.c3
      go_wp2_with fail
      have K8 := Lib.hid (HB.out.setCell (p := ⟨W.heap.size, 2, none⟩) (Nat.le_refl _) (.string (vs.extract 0 q)))
      have R8 := Lib.hid (R4.out.setS (vs.extract 0 q))
      have HT : Hid ((vs.extract 0 q).size ≤ maxLen) := by show _ ≤ _; rw [ByteArray.size_extract]; unfold maxLen; omega
      have HAT : Hid (Vl.ok ⟨vk, vm, vs.extract 0 q⟩) := ⟨HA.out.1, HA.out.2.1, HT.out⟩
      generalize vs.extract 0 q = ts at *
      generalize hW8 : wr.setCell ⟨W.heap.size, 2, none⟩ (.string ts) = w at *
      clear hW8 hlt hq hq0 hvs f4 c4 HA
      have c3 := R8.out.c3
      by_cases hbag : bagB L = true
      rotate_left
      · have HBG := Lib.hid (by simpa using hbag : bagB L = false)
        clear hbag
        refine (bagc_is HBG.out (T0.out.low K8.out)).mono ?_
        rintro e u1 ⟨rfl, hb⟩
        have K8 := Lib.hid (below_step K8.out hb)
        have KW := Lib.hid (hb)
        clear hb
        go_wp2_with fail
        refine (eruns_any _).mono ?_
        rintro e u2 ⟨rfl, hb⟩
        have K8 := Lib.hid (below_step K8.out hb)
        have KW := Lib.hid (below_step KW.out hb)
        clear hb
        go_wp2_with fail
        go_ret
        exact ⟨rfl, K8.out⟩
      have HBG := Lib.hid hbag
      clear hbag
      by_cases hrt : Vl.right ⟨vk, vm, ts⟩
      rotate_left
      · have HRT := Lib.hid (decide_eq_false hrt)
        clear hrt
        refine (bagc_is HBG.out (T0.out.low K8.out)).mono ?_
        rintro e u1 ⟨rfl, hb⟩
        have K8 := Lib.hid (below_step K8.out hb)
        have KW := Lib.hid (hb)
        clear hb
        have c3 := (R8.out.then_ KW.out).c3
        go_wp2_with fail
        refine (rightc_is HRT.out HT.out _).mono ?_
        rintro e u2 ⟨rfl, hb⟩
        have K8 := Lib.hid (below_step K8.out hb)
        have KW := Lib.hid (below_step KW.out hb)
        clear hb
        go_wp2_with fail
        refine (eruns_any _).mono ?_
        rintro e u3 ⟨rfl, hb⟩
        have K8 := Lib.hid (below_step K8.out hb)
        have KW := Lib.hid (below_step KW.out hb)
        clear hb
        go_wp2_with fail
        go_ret
        exact ⟨rfl, K8.out⟩
      have HRT := Lib.hid (decide_eq_true hrt)
      have HV4 : Hid (valP [bagG L] [attrB4, opB 4] = (⟨2, (k : Int), ⟨#[]⟩⟩, 0)) := by show _ = _; rw [bag_val4, LL.out]
      obtain ⟨hb, hhb⟩ : ∃ hb, hb = hasB L ⟨vk, vm, ts⟩ := ⟨_, rfl⟩
      have HHB := Lib.hid hhb.symm
      have HV5 : Hid (valP [bagG L] [attrB4, litB ⟨vk, vm, ts⟩, opB 5] = (⟨1, truthN hb, ⟨#[]⟩⟩, 0)) := by show _ = _; rw [bag_val5 L hrt, hhb]
      have HSH := Lib.hid (bag_short SH.out (by have := LL.out; have := S0.out; omega))
      clear hrt hhb
      refine (bagc_is HBG.out (T0.out.low K8.out)).mono ?_
      rintro e u1 ⟨rfl, hb⟩
      have K8 := Lib.hid (below_step K8.out hb)
      have KW := Lib.hid (hb)
      clear hb
      have c3 := (R8.out.then_ KW.out).c3
      go_wp2_with fail
      refine (rightc_is HRT.out HT.out _).mono ?_
      rintro e u2 ⟨rfl, hb⟩
      have K8 := Lib.hid (below_step K8.out hb)
      have KW := Lib.hid (below_step KW.out hb)
      clear hb
      have GV : Hid (Gvs (u2.alloc (.cells #[.int .i64 4, .string ⟨#[98]⟩, .slice A0 k c0] 27)) (fun _ => True) (some ⟨u2.heap.size, 0, none⟩) 1 1 [bagG L]) := one_giv (bagG L) (bagG_ok L) (T0.out.low K8.out)
      go_wp2_with fail
      refine (lattr_any 4 ⟨#[98]⟩ _).mono ?_
      rintro e u3 ⟨rfl, hb⟩
      have K8 := Lib.hid (below_step K8.out (Below.lit hb))
      have KW := Lib.hid (below_step KW.out (Below.lit hb))
      have KG := Lib.hid (hb)
      clear hb
      go_wp2_with fail
      refine (lop_any 4 _).mono ?_
      rintro e u4 ⟨rfl, hb⟩
      have K8 := Lib.hid (below_step K8.out hb)
      have KW := Lib.hid (below_step KW.out hb)
      have KG := Lib.hid (below_step KG.out hb)
      clear hb
      have ND : Hid (Nds (u4.alloc (.cells #[.int .i64 2, .int .i64 0, .int .i64 0, .string ⟨#[]⟩, .int .i64 4, .string ⟨#[98]⟩, .bool false, .int .i64 4, .int .i64 0, .int .i64 0, .string ⟨#[]⟩, .int .i64 0, .string ⟨#[]⟩, .bool false] 51)) (fun _ => True) (some ⟨u4.heap.size, 0, none⟩) 2 2 [attrB4, opB 4]) := nds_lit u4 [attrB4, opB 4] (by decide) (fun x hx => by simp at hx; rcases hx with rfl | rfl; exact attrB4_ok; exact opB_ok ini4)
      go_wp2_with fail
      refine (eval_is HV4.out ND.out (GV.out.up (below_al (o := (.cells #[.int .i64 2, .int .i64 0, .int .i64 0, .string ⟨#[]⟩, .int .i64 4, .string ⟨#[98]⟩, .bool false, .int .i64 4, .int .i64 0, .int .i64 0, .string ⟨#[]⟩, .int .i64 0, .string ⟨#[]⟩, .bool false] 51)) KG.out)) HSH.out).mono ?_
      rintro e u5 ⟨rfl, hb⟩
      have K8 := Lib.hid (below_step K8.out (Below.lit hb))
      have KW := Lib.hid (below_step KW.out (Below.lit hb))
      have KG := Lib.hid (below_step KG.out (Below.lit hb))
      clear hb
      have R7 := Lib.hid (Bx.made u5 2 k ⟨#[]⟩)
      have R8 := Lib.hid (R8.out.then_ (below_al (o := (.cells #[.int .i64 2, .int .i64 k, .string ⟨#[]⟩] 42)) KW.out))
      have K8 := Lib.hid ((below_al (o := (.cells #[.int .i64 2, .int .i64 k, .string ⟨#[]⟩] 42)) K8.out))
      have KG := Lib.hid ((below_al (o := (.cells #[.int .i64 2, .int .i64 k, .string ⟨#[]⟩] 42)) KG.out))
      go_upto_region 13 with fail
      generalize hW1 : (u5.alloc (.cells #[.int .i64 2, .int .i64 k, .string ⟨#[]⟩] 42)) = W1 at *
      clear hW1
      have S0 : Hid (Below W1.heap.size W1 W1) := Below.refl _ _
      go_cut [9, 10] from 60 to 69 (fun s9 s10 wx => ∃ g9, s9 = .pointer (some ⟨g9, 0, none⟩) ∧ s10 = .int .i64 0 ∧ Bx wx g9 1 (truthN hb) ⟨#[]⟩ ∧ Below W1.heap.size W1 wx)
      case first =>
        refine wp_region_held_tail (fun w' => Below W1.heap.size W1 w') 12 (by kernel_rfl) (by kernel_rfl) ?_
        intro G
        change HeadW _ _ _ _ _ _ _ _ _ _ (W1.drewN 1)
        have S := Lib.hid (below_drewN S0.out 1)
        have RK := Lib.hid (fun V (hV : Below W1.heap.size W1 V) => (R8.out.then_ hV).c3)
        generalize W1.drewN 1 = y0 at *
        refine HeadW_take (i := 1) (v := ?_) G rfl (by kernel_rfl) (by kernel_rfl) (by kernel_rfl) (fun _ _ _ h => h) (Or.inl ⟨by rfl, ?_⟩) S.out ?_
        rotate_left
        · intro wz hS
          have hk := RK.out _ hS
          go_simp
          try with_reducible rfl
        refine HeadW_take (i := 5) (v := ?_) G rfl (by kernel_rfl) (by kernel_rfl) (by kernel_rfl) (fun _ _ _ h => h) (Or.inl ⟨by rfl, ?_⟩) S.out ?_
        rotate_left
        · intro wz hS
          go_simp
          try with_reducible rfl
        refine HeadW_ready (rs := [0, 10]) (by kernel_rfl) rfl rfl ?_
        refine AllW.cons rfl (fun K hK => ?_) (AllW.cons rfl (fun K hK => ?_) AllW.nil)
        · go_simp
          refine (lattr_any 4 ⟨#[98]⟩ _).mono ?_
          rintro e y1 ⟨rfl, hb⟩
          have S := Lib.hid (S.out.trans (hb.mono S.out.size))
          refine hK _ _ S.out ?_
          clear hK K hb
          refine HeadW_ready (rs := [2, 10]) (by kernel_rfl) rfl rfl ?_
          refine AllW.cons rfl (fun K hK => ?_) (AllW.cons rfl (fun K hK => ?_) AllW.nil)
          · go_simp
            refine (llit_any vk vm ts _).mono ?_
            rintro e y2 ⟨rfl, hb⟩
            have S := Lib.hid (S.out.trans (hb.mono S.out.size))
            refine hK _ _ S.out ?_
            clear hK K hb
            refine HeadW_ready (rs := [3, 10]) (by kernel_rfl) rfl rfl ?_
            refine AllW.cons rfl (fun K hK => ?_) (AllW.cons rfl (fun K hK => ?_) AllW.nil)
            · go_simp
              refine (lop_any 5 _).mono ?_
              rintro e y3 ⟨rfl, hb⟩
              have S := Lib.hid (S.out.trans (hb.mono S.out.size))
              refine hK _ _ S.out ?_
              clear hK K hb
              refine HeadW_ready (rs := [4, 10]) (by kernel_rfl) rfl rfl ?_
              refine AllW.cons rfl (fun K hK => ?_) (AllW.cons rfl (fun K hK => ?_) AllW.nil)
              · go_simp
                have hb := below1 y3 (.cells #[.int .i64 2, .int .i64 0, .int .i64 0, .string ⟨#[]⟩, .int .i64 4, .string ⟨#[98]⟩, .bool false, .int .i64 1, .int .i64 vk, .int .i64 vm, .string ts, .int .i64 0, .string ⟨#[]⟩, .bool false, .int .i64 5, .int .i64 0, .int .i64 0, .string ⟨#[]⟩, .int .i64 0, .string ⟨#[]⟩, .bool false] 51)
                have ND : Hid (Nds (y3.alloc (.cells #[.int .i64 2, .int .i64 0, .int .i64 0, .string ⟨#[]⟩, .int .i64 4, .string ⟨#[98]⟩, .bool false, .int .i64 1, .int .i64 vk, .int .i64 vm, .string ts, .int .i64 0, .string ⟨#[]⟩, .bool false, .int .i64 5, .int .i64 0, .int .i64 0, .string ⟨#[]⟩, .int .i64 0, .string ⟨#[]⟩, .bool false] 51)) (fun _ => True) (some ⟨y3.heap.size, 0, none⟩) 3 3 [attrB4, litB ⟨vk, vm, ts⟩, opB 5]) := nds_lit y3 [attrB4, litB ⟨vk, vm, ts⟩, opB 5] (by simp) (fun x hx => by simp at hx; rcases hx with rfl | rfl | rfl; exact attrB4_ok; exact litB_ok HAT.out; exact opB_ok (by decide))
                have S := Lib.hid (S.out.trans (hb.mono S.out.size))
                refine hK _ _ S.out ?_
                clear hK K hb
                generalize y3.alloc (.cells #[.int .i64 2, .int .i64 0, .int .i64 0, .string ⟨#[]⟩, .int .i64 4, .string ⟨#[98]⟩, .bool false, .int .i64 1, .int .i64 vk, .int .i64 vm, .string ts, .int .i64 0, .string ⟨#[]⟩, .bool false, .int .i64 5, .int .i64 0, .int .i64 0, .string ⟨#[]⟩, .int .i64 0, .string ⟨#[]⟩, .bool false] 51) = y4 at *
                have KN : Hid (Below y4.heap.size y4 y4) := Below.refl _ _
                refine HeadW_ready (rs := [6, 10]) (by kernel_rfl) rfl rfl ?_
                refine AllW.cons rfl (fun K hK => ?_) (AllW.cons rfl (fun K hK => ?_) AllW.nil)
                · go_simp
                  refine (eval_is HV5.out (ND.out.up KN.out) (GV.out.up (below_step KG.out S.out)) HSH.out).mono ?_
                  rintro e y5 ⟨rfl, hb⟩
                  have S := Lib.hid (S.out.trans (hb.mono S.out.size))
                  have KN := Lib.hid (below_step KN.out hb)
                  refine hK _ _ S.out ?_
                  clear hK K hb
                  refine HeadW_take (i := 7) (v := ?_) G rfl (by kernel_rfl) (by kernel_rfl) (by kernel_rfl) (fun _ _ _ h => h) (Or.inl ⟨by rfl, ?_⟩) S.out ?_
                  rotate_left
                  · intro wz hS
                    go_simp
                    try with_reducible rfl
                  refine HeadW_take (i := 8) (v := ?_) G rfl (by kernel_rfl) (by kernel_rfl) (by kernel_rfl) (fun _ _ _ h => h) (Or.inl ⟨by rfl, ?_⟩) S.out ?_
                  rotate_left
                  · intro wz hS
                    go_simp
                    try with_reducible rfl
                  refine HeadW_take (i := 9) (v := ?_) G rfl (by kernel_rfl) (by kernel_rfl) (by kernel_rfl) (fun _ _ _ h => h) (Or.inl ⟨by rfl, ?_⟩) S.out ?_
                  rotate_left
                  · intro wz hS
                    go_simp
                    try with_reducible rfl
                  have GZ := Lib.hid S.out.size
                  refine HeadW_ready (rs := [10]) (by kernel_rfl) rfl rfl ?_
                  refine AllW.cons rfl (fun K hK => ?_) AllW.nil
                  go_simp
                  have hb := below1 y5 (.cells #[.int .i64 0, .int .i64 0, .string ⟨#[]⟩] 42)
                  have S := Lib.hid (S.out.trans (hb.mono S.out.size))
                  have KN := Lib.hid (below_step KN.out hb)
                  have R9 := Lib.hid (Bx.made y5 0 0 ⟨#[]⟩)
                  refine hK _ _ S.out ?_
                  clear hK K hb
                  generalize y5.alloc (.cells #[.int .i64 0, .int .i64 0, .string ⟨#[]⟩] 42) = y6 at *
                  have c9 := R9.out.c3
                  have f9 := R9.out.fz
                  refine HeadW_ready (rs := [11]) (by kernel_rfl) rfl rfl ?_
                  refine AllW.cons rfl (fun K hK => ?_) AllW.nil
                  go_simp
                  have S9 := Lib.hid (below_put S.out GZ.out (.int .i64 1) (.int .i64 (truthN hb)) (.string ⟨#[]⟩))
                  have RZ := Lib.hid (R9.out.put 1 (truthN hb) ⟨#[]⟩)
                  refine hK _ _ S9.out ?_
                  clear hK K c9 f9
                  intro _
                  refine ⟨by kernel_rfl, ?_⟩
                  simp only [List.drop_succ_cons, List.drop_zero]
                  go_wp2_with fail
                  go_meet
                  case rel => exact ⟨_, rfl, rfl, RZ.out, S9.out⟩
                · have GZ := Lib.hid S.out.size
                  go_simp
                  have hb := below1 y4 (.cells #[.int .i64 0, .int .i64 0, .string ⟨#[]⟩] 42)
                  have S := Lib.hid (S.out.trans (hb.mono S.out.size))
                  have KN := Lib.hid (below_step KN.out hb)
                  have R9 := Lib.hid (Bx.made y4 0 0 ⟨#[]⟩)
                  refine hK _ _ S.out ?_
                  clear hK K hb
                  generalize y4.alloc (.cells #[.int .i64 0, .int .i64 0, .string ⟨#[]⟩] 42) = y7 at *
                  refine HeadW_ready (rs := [6]) (by kernel_rfl) rfl rfl ?_
                  refine AllW.cons rfl (fun K hK => ?_) AllW.nil
                  go_simp
                  refine (eval_is HV5.out (ND.out.up KN.out) (GV.out.up (below_step KG.out S.out)) HSH.out).mono ?_
                  rintro e y8 ⟨rfl, hb⟩
                  have S := Lib.hid (S.out.trans (hb.mono S.out.size))
                  have R9 := Lib.hid (R9.out.then_ hb)
                  have KN := Lib.hid (below_step KN.out hb)
                  refine hK _ _ S.out ?_
                  clear hK K hb
                  refine HeadW_take (i := 7) (v := ?_) G rfl (by kernel_rfl) (by kernel_rfl) (by kernel_rfl) (fun _ _ _ h => h) (Or.inl ⟨by rfl, ?_⟩) S.out ?_
                  rotate_left
                  · intro wz hS
                    go_simp
                    try with_reducible rfl
                  refine HeadW_take (i := 8) (v := ?_) G rfl (by kernel_rfl) (by kernel_rfl) (by kernel_rfl) (fun _ _ _ h => h) (Or.inl ⟨by rfl, ?_⟩) S.out ?_
                  rotate_left
                  · intro wz hS
                    go_simp
                    try with_reducible rfl
                  refine HeadW_take (i := 9) (v := ?_) G rfl (by kernel_rfl) (by kernel_rfl) (by kernel_rfl) (fun _ _ _ h => h) (Or.inl ⟨by rfl, ?_⟩) S.out ?_
                  rotate_left
                  · intro wz hS
                    go_simp
                    try with_reducible rfl
                  have c9 := R9.out.c3
                  have f9 := R9.out.fz
                  refine HeadW_ready (rs := [11]) (by kernel_rfl) rfl rfl ?_
                  refine AllW.cons rfl (fun K hK => ?_) AllW.nil
                  go_simp
                  have S9 := Lib.hid (below_put S.out GZ.out (.int .i64 1) (.int .i64 (truthN hb)) (.string ⟨#[]⟩))
                  have RZ := Lib.hid (R9.out.put 1 (truthN hb) ⟨#[]⟩)
                  refine hK _ _ S9.out ?_
                  clear hK K c9 f9
                  intro _
                  refine ⟨by kernel_rfl, ?_⟩
                  simp only [List.drop_succ_cons, List.drop_zero]
                  go_wp2_with fail
                  go_meet
                  case rel => exact ⟨_, rfl, rfl, RZ.out, S9.out⟩
              · have GZ := Lib.hid S.out.size
                go_simp
                have hb := below1 y3 (.cells #[.int .i64 0, .int .i64 0, .string ⟨#[]⟩] 42)
                have S := Lib.hid (S.out.trans (hb.mono S.out.size))
                have R9 := Lib.hid (Bx.made y3 0 0 ⟨#[]⟩)
                refine hK _ _ S.out ?_
                clear hK K hb
                generalize y3.alloc (.cells #[.int .i64 0, .int .i64 0, .string ⟨#[]⟩] 42) = y9 at *
                refine HeadW_ready (rs := [4]) (by kernel_rfl) rfl rfl ?_
                refine AllW.cons rfl (fun K hK => ?_) AllW.nil
                go_simp
                have hb := below1 y9 (.cells #[.int .i64 2, .int .i64 0, .int .i64 0, .string ⟨#[]⟩, .int .i64 4, .string ⟨#[98]⟩, .bool false, .int .i64 1, .int .i64 vk, .int .i64 vm, .string ts, .int .i64 0, .string ⟨#[]⟩, .bool false, .int .i64 5, .int .i64 0, .int .i64 0, .string ⟨#[]⟩, .int .i64 0, .string ⟨#[]⟩, .bool false] 51)
                have ND : Hid (Nds (y9.alloc (.cells #[.int .i64 2, .int .i64 0, .int .i64 0, .string ⟨#[]⟩, .int .i64 4, .string ⟨#[98]⟩, .bool false, .int .i64 1, .int .i64 vk, .int .i64 vm, .string ts, .int .i64 0, .string ⟨#[]⟩, .bool false, .int .i64 5, .int .i64 0, .int .i64 0, .string ⟨#[]⟩, .int .i64 0, .string ⟨#[]⟩, .bool false] 51)) (fun _ => True) (some ⟨y9.heap.size, 0, none⟩) 3 3 [attrB4, litB ⟨vk, vm, ts⟩, opB 5]) := nds_lit y9 [attrB4, litB ⟨vk, vm, ts⟩, opB 5] (by simp) (fun x hx => by simp at hx; rcases hx with rfl | rfl | rfl; exact attrB4_ok; exact litB_ok HAT.out; exact opB_ok (by decide))
                have S := Lib.hid (S.out.trans (hb.mono S.out.size))
                have R9 := Lib.hid (R9.out.then_ hb)
                refine hK _ _ S.out ?_
                clear hK K hb
                generalize y9.alloc (.cells #[.int .i64 2, .int .i64 0, .int .i64 0, .string ⟨#[]⟩, .int .i64 4, .string ⟨#[98]⟩, .bool false, .int .i64 1, .int .i64 vk, .int .i64 vm, .string ts, .int .i64 0, .string ⟨#[]⟩, .bool false, .int .i64 5, .int .i64 0, .int .i64 0, .string ⟨#[]⟩, .int .i64 0, .string ⟨#[]⟩, .bool false] 51) = y10 at *
                have KN : Hid (Below y10.heap.size y10 y10) := Below.refl _ _
                refine HeadW_ready (rs := [6]) (by kernel_rfl) rfl rfl ?_
                refine AllW.cons rfl (fun K hK => ?_) AllW.nil
                go_simp
                refine (eval_is HV5.out (ND.out.up KN.out) (GV.out.up (below_step KG.out S.out)) HSH.out).mono ?_
                rintro e y11 ⟨rfl, hb⟩
                have S := Lib.hid (S.out.trans (hb.mono S.out.size))
                have R9 := Lib.hid (R9.out.then_ hb)
                have KN := Lib.hid (below_step KN.out hb)
                refine hK _ _ S.out ?_
                clear hK K hb
                refine HeadW_take (i := 7) (v := ?_) G rfl (by kernel_rfl) (by kernel_rfl) (by kernel_rfl) (fun _ _ _ h => h) (Or.inl ⟨by rfl, ?_⟩) S.out ?_
                rotate_left
                · intro wz hS
                  go_simp
                  try with_reducible rfl
                refine HeadW_take (i := 8) (v := ?_) G rfl (by kernel_rfl) (by kernel_rfl) (by kernel_rfl) (fun _ _ _ h => h) (Or.inl ⟨by rfl, ?_⟩) S.out ?_
                rotate_left
                · intro wz hS
                  go_simp
                  try with_reducible rfl
                refine HeadW_take (i := 9) (v := ?_) G rfl (by kernel_rfl) (by kernel_rfl) (by kernel_rfl) (fun _ _ _ h => h) (Or.inl ⟨by rfl, ?_⟩) S.out ?_
                rotate_left
                · intro wz hS
                  go_simp
                  try with_reducible rfl
                have c9 := R9.out.c3
                have f9 := R9.out.fz
                refine HeadW_ready (rs := [11]) (by kernel_rfl) rfl rfl ?_
                refine AllW.cons rfl (fun K hK => ?_) AllW.nil
                go_simp
                have S9 := Lib.hid (below_put S.out GZ.out (.int .i64 1) (.int .i64 (truthN hb)) (.string ⟨#[]⟩))
                have RZ := Lib.hid (R9.out.put 1 (truthN hb) ⟨#[]⟩)
                refine hK _ _ S9.out ?_
                clear hK K c9 f9
                intro _
                refine ⟨by kernel_rfl, ?_⟩
                simp only [List.drop_succ_cons, List.drop_zero]
                go_wp2_with fail
                go_meet
                case rel => exact ⟨_, rfl, rfl, RZ.out, S9.out⟩
            · have GZ := Lib.hid S.out.size
              go_simp
              have hb := below1 y2 (.cells #[.int .i64 0, .int .i64 0, .string ⟨#[]⟩] 42)
              have S := Lib.hid (S.out.trans (hb.mono S.out.size))
              have R9 := Lib.hid (Bx.made y2 0 0 ⟨#[]⟩)
              refine hK _ _ S.out ?_
              clear hK K hb
              generalize y2.alloc (.cells #[.int .i64 0, .int .i64 0, .string ⟨#[]⟩] 42) = y12 at *
              refine HeadW_ready (rs := [3]) (by kernel_rfl) rfl rfl ?_
              refine AllW.cons rfl (fun K hK => ?_) AllW.nil
              go_simp
              refine (lop_any 5 _).mono ?_
              rintro e y13 ⟨rfl, hb⟩
              have S := Lib.hid (S.out.trans (hb.mono S.out.size))
              have R9 := Lib.hid (R9.out.then_ hb)
              refine hK _ _ S.out ?_
              clear hK K hb
              refine HeadW_ready (rs := [4]) (by kernel_rfl) rfl rfl ?_
              refine AllW.cons rfl (fun K hK => ?_) AllW.nil
              go_simp
              have hb := below1 y13 (.cells #[.int .i64 2, .int .i64 0, .int .i64 0, .string ⟨#[]⟩, .int .i64 4, .string ⟨#[98]⟩, .bool false, .int .i64 1, .int .i64 vk, .int .i64 vm, .string ts, .int .i64 0, .string ⟨#[]⟩, .bool false, .int .i64 5, .int .i64 0, .int .i64 0, .string ⟨#[]⟩, .int .i64 0, .string ⟨#[]⟩, .bool false] 51)
              have ND : Hid (Nds (y13.alloc (.cells #[.int .i64 2, .int .i64 0, .int .i64 0, .string ⟨#[]⟩, .int .i64 4, .string ⟨#[98]⟩, .bool false, .int .i64 1, .int .i64 vk, .int .i64 vm, .string ts, .int .i64 0, .string ⟨#[]⟩, .bool false, .int .i64 5, .int .i64 0, .int .i64 0, .string ⟨#[]⟩, .int .i64 0, .string ⟨#[]⟩, .bool false] 51)) (fun _ => True) (some ⟨y13.heap.size, 0, none⟩) 3 3 [attrB4, litB ⟨vk, vm, ts⟩, opB 5]) := nds_lit y13 [attrB4, litB ⟨vk, vm, ts⟩, opB 5] (by simp) (fun x hx => by simp at hx; rcases hx with rfl | rfl | rfl; exact attrB4_ok; exact litB_ok HAT.out; exact opB_ok (by decide))
              have S := Lib.hid (S.out.trans (hb.mono S.out.size))
              have R9 := Lib.hid (R9.out.then_ hb)
              refine hK _ _ S.out ?_
              clear hK K hb
              generalize y13.alloc (.cells #[.int .i64 2, .int .i64 0, .int .i64 0, .string ⟨#[]⟩, .int .i64 4, .string ⟨#[98]⟩, .bool false, .int .i64 1, .int .i64 vk, .int .i64 vm, .string ts, .int .i64 0, .string ⟨#[]⟩, .bool false, .int .i64 5, .int .i64 0, .int .i64 0, .string ⟨#[]⟩, .int .i64 0, .string ⟨#[]⟩, .bool false] 51) = y14 at *
              have KN : Hid (Below y14.heap.size y14 y14) := Below.refl _ _
              refine HeadW_ready (rs := [6]) (by kernel_rfl) rfl rfl ?_
              refine AllW.cons rfl (fun K hK => ?_) AllW.nil
              go_simp
              refine (eval_is HV5.out (ND.out.up KN.out) (GV.out.up (below_step KG.out S.out)) HSH.out).mono ?_
              rintro e y15 ⟨rfl, hb⟩
              have S := Lib.hid (S.out.trans (hb.mono S.out.size))
              have R9 := Lib.hid (R9.out.then_ hb)
              have KN := Lib.hid (below_step KN.out hb)
              refine hK _ _ S.out ?_
              clear hK K hb
              refine HeadW_take (i := 7) (v := ?_) G rfl (by kernel_rfl) (by kernel_rfl) (by kernel_rfl) (fun _ _ _ h => h) (Or.inl ⟨by rfl, ?_⟩) S.out ?_
              rotate_left
              · intro wz hS
                go_simp
                try with_reducible rfl
              refine HeadW_take (i := 8) (v := ?_) G rfl (by kernel_rfl) (by kernel_rfl) (by kernel_rfl) (fun _ _ _ h => h) (Or.inl ⟨by rfl, ?_⟩) S.out ?_
              rotate_left
              · intro wz hS
                go_simp
                try with_reducible rfl
              refine HeadW_take (i := 9) (v := ?_) G rfl (by kernel_rfl) (by kernel_rfl) (by kernel_rfl) (fun _ _ _ h => h) (Or.inl ⟨by rfl, ?_⟩) S.out ?_
              rotate_left
              · intro wz hS
                go_simp
                try with_reducible rfl
              have c9 := R9.out.c3
              have f9 := R9.out.fz
              refine HeadW_ready (rs := [11]) (by kernel_rfl) rfl rfl ?_
              refine AllW.cons rfl (fun K hK => ?_) AllW.nil
              go_simp
              have S9 := Lib.hid (below_put S.out GZ.out (.int .i64 1) (.int .i64 (truthN hb)) (.string ⟨#[]⟩))
              have RZ := Lib.hid (R9.out.put 1 (truthN hb) ⟨#[]⟩)
              refine hK _ _ S9.out ?_
              clear hK K c9 f9
              intro _
              refine ⟨by kernel_rfl, ?_⟩
              simp only [List.drop_succ_cons, List.drop_zero]
              go_wp2_with fail
              go_meet
              case rel => exact ⟨_, rfl, rfl, RZ.out, S9.out⟩
          · have GZ := Lib.hid S.out.size
            go_simp
            have hb := below1 y1 (.cells #[.int .i64 0, .int .i64 0, .string ⟨#[]⟩] 42)
            have S := Lib.hid (S.out.trans (hb.mono S.out.size))
            have R9 := Lib.hid (Bx.made y1 0 0 ⟨#[]⟩)
            refine hK _ _ S.out ?_
            clear hK K hb
            generalize y1.alloc (.cells #[.int .i64 0, .int .i64 0, .string ⟨#[]⟩] 42) = y16 at *
            refine HeadW_ready (rs := [2]) (by kernel_rfl) rfl rfl ?_
            refine AllW.cons rfl (fun K hK => ?_) AllW.nil
            go_simp
            refine (llit_any vk vm ts _).mono ?_
            rintro e y17 ⟨rfl, hb⟩
            have S := Lib.hid (S.out.trans (hb.mono S.out.size))
            have R9 := Lib.hid (R9.out.then_ hb)
            refine hK _ _ S.out ?_
            clear hK K hb
            refine HeadW_ready (rs := [3]) (by kernel_rfl) rfl rfl ?_
            refine AllW.cons rfl (fun K hK => ?_) AllW.nil
            go_simp
            refine (lop_any 5 _).mono ?_
            rintro e y18 ⟨rfl, hb⟩
            have S := Lib.hid (S.out.trans (hb.mono S.out.size))
            have R9 := Lib.hid (R9.out.then_ hb)
            refine hK _ _ S.out ?_
            clear hK K hb
            refine HeadW_ready (rs := [4]) (by kernel_rfl) rfl rfl ?_
            refine AllW.cons rfl (fun K hK => ?_) AllW.nil
            go_simp
            have hb := below1 y18 (.cells #[.int .i64 2, .int .i64 0, .int .i64 0, .string ⟨#[]⟩, .int .i64 4, .string ⟨#[98]⟩, .bool false, .int .i64 1, .int .i64 vk, .int .i64 vm, .string ts, .int .i64 0, .string ⟨#[]⟩, .bool false, .int .i64 5, .int .i64 0, .int .i64 0, .string ⟨#[]⟩, .int .i64 0, .string ⟨#[]⟩, .bool false] 51)
            have ND : Hid (Nds (y18.alloc (.cells #[.int .i64 2, .int .i64 0, .int .i64 0, .string ⟨#[]⟩, .int .i64 4, .string ⟨#[98]⟩, .bool false, .int .i64 1, .int .i64 vk, .int .i64 vm, .string ts, .int .i64 0, .string ⟨#[]⟩, .bool false, .int .i64 5, .int .i64 0, .int .i64 0, .string ⟨#[]⟩, .int .i64 0, .string ⟨#[]⟩, .bool false] 51)) (fun _ => True) (some ⟨y18.heap.size, 0, none⟩) 3 3 [attrB4, litB ⟨vk, vm, ts⟩, opB 5]) := nds_lit y18 [attrB4, litB ⟨vk, vm, ts⟩, opB 5] (by simp) (fun x hx => by simp at hx; rcases hx with rfl | rfl | rfl; exact attrB4_ok; exact litB_ok HAT.out; exact opB_ok (by decide))
            have S := Lib.hid (S.out.trans (hb.mono S.out.size))
            have R9 := Lib.hid (R9.out.then_ hb)
            refine hK _ _ S.out ?_
            clear hK K hb
            generalize y18.alloc (.cells #[.int .i64 2, .int .i64 0, .int .i64 0, .string ⟨#[]⟩, .int .i64 4, .string ⟨#[98]⟩, .bool false, .int .i64 1, .int .i64 vk, .int .i64 vm, .string ts, .int .i64 0, .string ⟨#[]⟩, .bool false, .int .i64 5, .int .i64 0, .int .i64 0, .string ⟨#[]⟩, .int .i64 0, .string ⟨#[]⟩, .bool false] 51) = y19 at *
            have KN : Hid (Below y19.heap.size y19 y19) := Below.refl _ _
            refine HeadW_ready (rs := [6]) (by kernel_rfl) rfl rfl ?_
            refine AllW.cons rfl (fun K hK => ?_) AllW.nil
            go_simp
            refine (eval_is HV5.out (ND.out.up KN.out) (GV.out.up (below_step KG.out S.out)) HSH.out).mono ?_
            rintro e y20 ⟨rfl, hb⟩
            have S := Lib.hid (S.out.trans (hb.mono S.out.size))
            have R9 := Lib.hid (R9.out.then_ hb)
            have KN := Lib.hid (below_step KN.out hb)
            refine hK _ _ S.out ?_
            clear hK K hb
            refine HeadW_take (i := 7) (v := ?_) G rfl (by kernel_rfl) (by kernel_rfl) (by kernel_rfl) (fun _ _ _ h => h) (Or.inl ⟨by rfl, ?_⟩) S.out ?_
            rotate_left
            · intro wz hS
              go_simp
              try with_reducible rfl
            refine HeadW_take (i := 8) (v := ?_) G rfl (by kernel_rfl) (by kernel_rfl) (by kernel_rfl) (fun _ _ _ h => h) (Or.inl ⟨by rfl, ?_⟩) S.out ?_
            rotate_left
            · intro wz hS
              go_simp
              try with_reducible rfl
            refine HeadW_take (i := 9) (v := ?_) G rfl (by kernel_rfl) (by kernel_rfl) (by kernel_rfl) (fun _ _ _ h => h) (Or.inl ⟨by rfl, ?_⟩) S.out ?_
            rotate_left
            · intro wz hS
              go_simp
              try with_reducible rfl
            have c9 := R9.out.c3
            have f9 := R9.out.fz
            refine HeadW_ready (rs := [11]) (by kernel_rfl) rfl rfl ?_
            refine AllW.cons rfl (fun K hK => ?_) AllW.nil
            go_simp
            have S9 := Lib.hid (below_put S.out GZ.out (.int .i64 1) (.int .i64 (truthN hb)) (.string ⟨#[]⟩))
            have RZ := Lib.hid (R9.out.put 1 (truthN hb) ⟨#[]⟩)
            refine hK _ _ S9.out ?_
            clear hK K c9 f9
            intro _
            refine ⟨by kernel_rfl, ?_⟩
            simp only [List.drop_succ_cons, List.drop_zero]
            go_wp2_with fail
            go_meet
            case rel => exact ⟨_, rfl, rfl, RZ.out, S9.out⟩
        · have GZ := Lib.hid S.out.size
          go_simp
          have hb := below1 y0 (.cells #[.int .i64 0, .int .i64 0, .string ⟨#[]⟩] 42)
          have S := Lib.hid (S.out.trans (hb.mono S.out.size))
          have R9 := Lib.hid (Bx.made y0 0 0 ⟨#[]⟩)
          refine hK _ _ S.out ?_
          clear hK K hb
          generalize y0.alloc (.cells #[.int .i64 0, .int .i64 0, .string ⟨#[]⟩] 42) = y21 at *
          refine HeadW_ready (rs := [0]) (by kernel_rfl) rfl rfl ?_
          refine AllW.cons rfl (fun K hK => ?_) AllW.nil
          go_simp
          refine (lattr_any 4 ⟨#[98]⟩ _).mono ?_
          rintro e y22 ⟨rfl, hb⟩
          have S := Lib.hid (S.out.trans (hb.mono S.out.size))
          have R9 := Lib.hid (R9.out.then_ hb)
          refine hK _ _ S.out ?_
          clear hK K hb
          refine HeadW_ready (rs := [2]) (by kernel_rfl) rfl rfl ?_
          refine AllW.cons rfl (fun K hK => ?_) AllW.nil
          go_simp
          refine (llit_any vk vm ts _).mono ?_
          rintro e y23 ⟨rfl, hb⟩
          have S := Lib.hid (S.out.trans (hb.mono S.out.size))
          have R9 := Lib.hid (R9.out.then_ hb)
          refine hK _ _ S.out ?_
          clear hK K hb
          refine HeadW_ready (rs := [3]) (by kernel_rfl) rfl rfl ?_
          refine AllW.cons rfl (fun K hK => ?_) AllW.nil
          go_simp
          refine (lop_any 5 _).mono ?_
          rintro e y24 ⟨rfl, hb⟩
          have S := Lib.hid (S.out.trans (hb.mono S.out.size))
          have R9 := Lib.hid (R9.out.then_ hb)
          refine hK _ _ S.out ?_
          clear hK K hb
          refine HeadW_ready (rs := [4]) (by kernel_rfl) rfl rfl ?_
          refine AllW.cons rfl (fun K hK => ?_) AllW.nil
          go_simp
          have hb := below1 y24 (.cells #[.int .i64 2, .int .i64 0, .int .i64 0, .string ⟨#[]⟩, .int .i64 4, .string ⟨#[98]⟩, .bool false, .int .i64 1, .int .i64 vk, .int .i64 vm, .string ts, .int .i64 0, .string ⟨#[]⟩, .bool false, .int .i64 5, .int .i64 0, .int .i64 0, .string ⟨#[]⟩, .int .i64 0, .string ⟨#[]⟩, .bool false] 51)
          have ND : Hid (Nds (y24.alloc (.cells #[.int .i64 2, .int .i64 0, .int .i64 0, .string ⟨#[]⟩, .int .i64 4, .string ⟨#[98]⟩, .bool false, .int .i64 1, .int .i64 vk, .int .i64 vm, .string ts, .int .i64 0, .string ⟨#[]⟩, .bool false, .int .i64 5, .int .i64 0, .int .i64 0, .string ⟨#[]⟩, .int .i64 0, .string ⟨#[]⟩, .bool false] 51)) (fun _ => True) (some ⟨y24.heap.size, 0, none⟩) 3 3 [attrB4, litB ⟨vk, vm, ts⟩, opB 5]) := nds_lit y24 [attrB4, litB ⟨vk, vm, ts⟩, opB 5] (by simp) (fun x hx => by simp at hx; rcases hx with rfl | rfl | rfl; exact attrB4_ok; exact litB_ok HAT.out; exact opB_ok (by decide))
          have S := Lib.hid (S.out.trans (hb.mono S.out.size))
          have R9 := Lib.hid (R9.out.then_ hb)
          refine hK _ _ S.out ?_
          clear hK K hb
          generalize y24.alloc (.cells #[.int .i64 2, .int .i64 0, .int .i64 0, .string ⟨#[]⟩, .int .i64 4, .string ⟨#[98]⟩, .bool false, .int .i64 1, .int .i64 vk, .int .i64 vm, .string ts, .int .i64 0, .string ⟨#[]⟩, .bool false, .int .i64 5, .int .i64 0, .int .i64 0, .string ⟨#[]⟩, .int .i64 0, .string ⟨#[]⟩, .bool false] 51) = y25 at *
          have KN : Hid (Below y25.heap.size y25 y25) := Below.refl _ _
          refine HeadW_ready (rs := [6]) (by kernel_rfl) rfl rfl ?_
          refine AllW.cons rfl (fun K hK => ?_) AllW.nil
          go_simp
          refine (eval_is HV5.out (ND.out.up KN.out) (GV.out.up (below_step KG.out S.out)) HSH.out).mono ?_
          rintro e y26 ⟨rfl, hb⟩
          have S := Lib.hid (S.out.trans (hb.mono S.out.size))
          have R9 := Lib.hid (R9.out.then_ hb)
          have KN := Lib.hid (below_step KN.out hb)
          refine hK _ _ S.out ?_
          clear hK K hb
          refine HeadW_take (i := 7) (v := ?_) G rfl (by kernel_rfl) (by kernel_rfl) (by kernel_rfl) (fun _ _ _ h => h) (Or.inl ⟨by rfl, ?_⟩) S.out ?_
          rotate_left
          · intro wz hS
            go_simp
            try with_reducible rfl
          refine HeadW_take (i := 8) (v := ?_) G rfl (by kernel_rfl) (by kernel_rfl) (by kernel_rfl) (fun _ _ _ h => h) (Or.inl ⟨by rfl, ?_⟩) S.out ?_
          rotate_left
          · intro wz hS
            go_simp
            try with_reducible rfl
          refine HeadW_take (i := 9) (v := ?_) G rfl (by kernel_rfl) (by kernel_rfl) (by kernel_rfl) (fun _ _ _ h => h) (Or.inl ⟨by rfl, ?_⟩) S.out ?_
          rotate_left
          · intro wz hS
            go_simp
            try with_reducible rfl
          have c9 := R9.out.c3
          have f9 := R9.out.fz
          refine HeadW_ready (rs := [11]) (by kernel_rfl) rfl rfl ?_
          refine AllW.cons rfl (fun K hK => ?_) AllW.nil
          go_simp
          have S9 := Lib.hid (below_put S.out GZ.out (.int .i64 1) (.int .i64 (truthN hb)) (.string ⟨#[]⟩))
          have RZ := Lib.hid (R9.out.put 1 (truthN hb) ⟨#[]⟩)
          refine hK _ _ S9.out ?_
          clear hK K c9 f9
          intro _
          refine ⟨by kernel_rfl, ?_⟩
          simp only [List.drop_succ_cons, List.drop_zero]
          go_wp2_with fail
          go_meet
          case rel => exact ⟨_, rfl, rfl, RZ.out, S9.out⟩
      case rest =>
        obtain ⟨g9, rfl, rfl, hr9, hsc⟩ := hcut
        have R9 := Lib.hid hr9
        have SC := Lib.hid hsc
        clear hr9 hsc
        by_cases hk1 : k = 1
        · subst hk1
          have K8 := Lib.hid (below_step K8.out SC.out)
          have KG := Lib.hid (below_step KG.out SC.out)
          have R8 := Lib.hid (R8.out.then_ SC.out)
          have R7 := Lib.hid (R7.out.then_ SC.out)
          obtain ⟨x, rfl⟩ := List.length_eq_one_iff.1 LL.out
          obtain ⟨xk, xn, xs⟩ := x
          obtain ⟨b, o, x', rfl, hbb, hbl, hx, _, _⟩ := (T0.out.low K8.out).at_ (j := 0) (by omega)
          have HBB := Lib.hid hbb
          clear hx hbl hbb
          have HV3 : Hid (valP [bagG [⟨xk, xn, xs⟩]] [attrB4, opB 3] = (⟨xk, xn, xs⟩, 0)) := bag_val3 _
          go_wp2_with fail
          refine (lattr_any 4 ⟨#[98]⟩ _).mono ?_
          rintro e z1 ⟨rfl, hb⟩
          have K8 := Lib.hid (below_step K8.out hb)
          have KG := Lib.hid (below_step KG.out hb)
          have KC := Lib.hid (hb)
          clear hb
          go_wp2_with fail
          refine (lop_any 3 _).mono ?_
          rintro e z2 ⟨rfl, hb⟩
          have K8 := Lib.hid (below_step K8.out hb)
          have KG := Lib.hid (below_step KG.out hb)
          have KC := Lib.hid (below_step KC.out hb)
          clear hb
          have NE : Hid (Nds (z2.alloc (.cells #[.int .i64 2, .int .i64 0, .int .i64 0, .string ⟨#[]⟩, .int .i64 4, .string ⟨#[98]⟩, .bool false, .int .i64 3, .int .i64 0, .int .i64 0, .string ⟨#[]⟩, .int .i64 0, .string ⟨#[]⟩, .bool false] 51)) (fun _ => True) (some ⟨z2.heap.size, 0, none⟩) 2 2 [attrB4, opB 3]) := nds_lit z2 [attrB4, opB 3] (by decide) (fun x hx => by simp at hx; rcases hx with rfl | rfl; exact attrB4_ok; exact opB_ok ini3)
          go_wp2_with fail
          refine (eval_is HV3.out NE.out (GV.out.up (below_al (o := (.cells #[.int .i64 2, .int .i64 0, .int .i64 0, .string ⟨#[]⟩, .int .i64 4, .string ⟨#[98]⟩, .bool false, .int .i64 3, .int .i64 0, .int .i64 0, .string ⟨#[]⟩, .int .i64 0, .string ⟨#[]⟩, .bool false] 51)) KG.out)) HSH.out).mono ?_
          rintro e z3 ⟨rfl, hb⟩
          have K8 := Lib.hid (below_step K8.out (Below.lit hb))
          have KG := Lib.hid (below_step KG.out (Below.lit hb))
          have KC := Lib.hid (below_step KC.out (Below.lit hb))
          clear hb
          have R11 := Lib.hid (Bx.made z3 xk xn xs)
          have K8 := Lib.hid ((below_al (o := (.cells #[.int .i64 xk, .int .i64 xn, .string xs] 42)) K8.out))
          have R7 := Lib.hid (R7.out.then_ (below_al (o := (.cells #[.int .i64 xk, .int .i64 xn, .string xs] 42)) KC.out))
          have R8 := Lib.hid (R8.out.then_ (below_al (o := (.cells #[.int .i64 xk, .int .i64 xn, .string xs] 42)) KC.out))
          have R9 := Lib.hid (R9.out.then_ (below_al (o := (.cells #[.int .i64 xk, .int .i64 xn, .string xs] 42)) KC.out))
          go_upto_region 15 with fail
          generalize hWZ : (z3.alloc (.cells #[.int .i64 xk, .int .i64 xn, .string xs] 42)) = WZ at *
          clear hWZ
          obtain ⟨x00, x01, x02⟩ := R7.out.grown
          obtain ⟨x10, x11, x12⟩ := R9.out.grown
          obtain ⟨x20, x21, x22⟩ := R8.out.grown
          have Q0 := Lib.hid (fun d os => Calls.regrown_of (w := WZ) (d := d) (os := os) (lnum_any 1 _))
          have Q1 := Lib.hid (fun d os => Calls.regrown_of (w := WZ) (d := d) (os := os) (hasc_is HHB.out (T0.out.low (K8.out.trans ((below_regrown WZ d os).mono K8.out.size)))))
          have Q2 := Lib.hid (fun d os => Calls.regrown_of (w := WZ) (d := d) (os := os) (ltruth_any hb _))
          have e0 := fun W => (val_eq 2 1 2 1 ⟨#[]⟩ ⟨#[]⟩ W).trans (by rw [veq_true rfl])
          have e1 := fun W => (val_eq 1 (truthN hb) 1 (truthN hb) ⟨#[]⟩ ⟨#[]⟩ W).trans (by rw [veq_true rfl])
          refine wp_region_quiet_below (by kernel_rfl) (by kernel_rfl) ?_
          repeat (go_big_quiet_step (first | (go_at_call 30; with_reducible exact Q0.out _ _) | (go_at_call 37; with_reducible exact Q1.out _ _) | (go_at_call 32; with_reducible exact Q2.out _ _)))
          refine wpQuiet_nil ?_
          intro _ hw'
          obtain ⟨⟨dq, osq⟩, hw''⟩ := hw'
          subst hw''
          have hq := below_regrown WZ dq osq
          clear x00 x01 x02 x10 x11 x12 x20 x21 x22 Q0 Q1 Q2 e0 e1
          have R11 := Lib.hid (R11.out.then_ hq)
          have K8 := Lib.hid (below_step K8.out hq)
          clear hq
          generalize hWY : grow (redrawn WZ dq) osq = WY at *
          clear hWY
          obtain ⟨b2, o2, x2, hA2, _, _, hx2, _, ⟨p0, p1, p2⟩⟩ := (T0.out.low K8.out).at_ (j := 0) (by omega)
          injection hA2 with hA2
          injection hA2 with hA3 hA4
          subst hA3 hA4
          simp at hx2
          subst hx2
          simp only [Nat.zero_mul, Nat.add_zero] at p0 p1 p2
          go_upto_region 17 with fail
          obtain ⟨x00, x01, x02⟩ := R11.out.grown
          have Q0 := Lib.hid (fun d os => Calls.regrown_of (w := WY) (d := d) (os := os) (eruns_any _))
          have e0 := fun W => (val_eq xk xn xk xn  xs xs W).trans (by rw [veq_true rfl])
          have p0 := fun d os => cell_regrown p0 d os
          have p1 := fun d os => cell_regrown p1 d os
          have p2 := fun d os => cell_regrown p2 d os
          refine wp_region_quiet_below (by kernel_rfl) (by kernel_rfl) ?_
          repeat (go_big_quiet_step (first | (go_at_call 5; with_reducible exact Q0.out _ _)))
          refine wpQuiet_nil ?_
          intro _ hw'
          obtain ⟨⟨dq, osq⟩, hw''⟩ := hw'
          subst hw''
          have hq := below_regrown WY dq osq
          clear x00 x01 x02 Q0 e0
          go_wp2_with fail
          go_ret
          exact ⟨rfl, below_step K8.out hq⟩
        have K8 := Lib.hid (below_step K8.out SC.out)
        have KG := Lib.hid (below_step KG.out SC.out)
        have R8 := Lib.hid (R8.out.then_ SC.out)
        have R7 := Lib.hid (R7.out.then_ SC.out)
        have HV3 : Hid (valP [bagG L] [attrB4, opB 3] = (⟨0, 0, ⟨#[]⟩⟩, 4)) := (bag_val3 L).trans (single_not (by have := LL.out; omega))
        go_wp2_with fail
        refine (lattr_any 4 ⟨#[98]⟩ _).mono ?_
        rintro e z1 ⟨rfl, hb⟩
        have K8 := Lib.hid (below_step K8.out hb)
        have KG := Lib.hid (below_step KG.out hb)
        have KC := Lib.hid (hb)
        clear hb
        go_wp2_with fail
        refine (lop_any 3 _).mono ?_
        rintro e z2 ⟨rfl, hb⟩
        have K8 := Lib.hid (below_step K8.out hb)
        have KG := Lib.hid (below_step KG.out hb)
        have KC := Lib.hid (below_step KC.out hb)
        clear hb
        have NE : Hid (Nds (z2.alloc (.cells #[.int .i64 2, .int .i64 0, .int .i64 0, .string ⟨#[]⟩, .int .i64 4, .string ⟨#[98]⟩, .bool false, .int .i64 3, .int .i64 0, .int .i64 0, .string ⟨#[]⟩, .int .i64 0, .string ⟨#[]⟩, .bool false] 51)) (fun _ => True) (some ⟨z2.heap.size, 0, none⟩) 2 2 [attrB4, opB 3]) := nds_lit z2 [attrB4, opB 3] (by decide) (fun x hx => by simp at hx; rcases hx with rfl | rfl; exact attrB4_ok; exact opB_ok ini3)
        go_wp2_with fail
        refine (eval_is HV3.out NE.out (GV.out.up (below_al (o := (.cells #[.int .i64 2, .int .i64 0, .int .i64 0, .string ⟨#[]⟩, .int .i64 4, .string ⟨#[98]⟩, .bool false, .int .i64 3, .int .i64 0, .int .i64 0, .string ⟨#[]⟩, .int .i64 0, .string ⟨#[]⟩, .bool false] 51)) KG.out)) HSH.out).mono ?_
        rintro e z3 ⟨rfl, hb⟩
        have K8 := Lib.hid (below_step K8.out (Below.lit hb))
        have KG := Lib.hid (below_step KG.out (Below.lit hb))
        have KC := Lib.hid (below_step KC.out (Below.lit hb))
        clear hb
        have R11 := Lib.hid (Bx.made z3 0 0 ⟨#[]⟩)
        have K8 := Lib.hid ((below_al (o := (.cells #[.int .i64 0, .int .i64 0, .string ⟨#[]⟩] 42)) K8.out))
        have R7 := Lib.hid (R7.out.then_ (below_al (o := (.cells #[.int .i64 0, .int .i64 0, .string ⟨#[]⟩] 42)) KC.out))
        have R8 := Lib.hid (R8.out.then_ (below_al (o := (.cells #[.int .i64 0, .int .i64 0, .string ⟨#[]⟩] 42)) KC.out))
        have R9 := Lib.hid (R9.out.then_ (below_al (o := (.cells #[.int .i64 0, .int .i64 0, .string ⟨#[]⟩] 42)) KC.out))
        go_upto_region 15 with fail
        generalize hWZ : (z3.alloc (.cells #[.int .i64 0, .int .i64 0, .string ⟨#[]⟩] 42)) = WZ at *
        clear hWZ
        obtain ⟨x00, x01, x02⟩ := R7.out.grown
        obtain ⟨x10, x11, x12⟩ := R9.out.grown
        obtain ⟨x20, x21, x22⟩ := R8.out.grown
        have Q0 := Lib.hid (fun d os => Calls.regrown_of (w := WZ) (d := d) (os := os) (lnum_any k _))
        have Q1 := Lib.hid (fun d os => Calls.regrown_of (w := WZ) (d := d) (os := os) (hasc_is HHB.out (T0.out.low (K8.out.trans ((below_regrown WZ d os).mono K8.out.size)))))
        have Q2 := Lib.hid (fun d os => Calls.regrown_of (w := WZ) (d := d) (os := os) (ltruth_any hb _))
        have e0 := fun W => (val_eq 2 k 2 k ⟨#[]⟩ ⟨#[]⟩ W).trans (by rw [veq_true rfl])
        have e1 := fun W => (val_eq 1 (truthN hb) 1 (truthN hb) ⟨#[]⟩ ⟨#[]⟩ W).trans (by rw [veq_true rfl])
        refine wp_region_quiet_below (by kernel_rfl) (by kernel_rfl) ?_
        repeat (go_big_quiet_step (first | (go_at_call 30; with_reducible exact Q0.out _ _) | (go_at_call 37; with_reducible exact Q1.out _ _) | (go_at_call 32; with_reducible exact Q2.out _ _)))
        refine wpQuiet_nil ?_
        intro _ hw'
        obtain ⟨⟨dq, osq⟩, hw''⟩ := hw'
        subst hw''
        have hq := below_regrown WZ dq osq
        clear x00 x01 x02 x10 x11 x12 x20 x21 x22 Q0 Q1 Q2 e0 e1
        have R11 := Lib.hid (R11.out.then_ hq)
        have K8 := Lib.hid (below_step K8.out hq)
        clear hq
        generalize hWY : grow (redrawn WZ dq) osq = WY at *
        clear hWY
        have hk0 : ((k : Int) == 1) = false := by rw [beq_eq_false_iff_ne]; omega
        have hk1 : ((k : Int) != 1) = true := by rw [bne_iff_ne]; omega
        go_upto_region 17 with fail
        obtain ⟨x00, x01, x02⟩ := R11.out.grown
        have Q0 := Lib.hid (fun d os => Calls.regrown_of (w := WY) (d := d) (os := os) (eruns_any _))
        refine wp_region_quiet_below (by kernel_rfl) (by kernel_rfl) ?_
        repeat (go_big_quiet_step (first | (go_at_call 5; with_reducible exact Q0.out _ _)))
        refine wpQuiet_nil ?_
        intro _ hw'
        obtain ⟨⟨dq, osq⟩, hw''⟩ := hw'
        subst hw''
        have hq := below_regrown WY dq osq
        clear x00 x01 x02 Q0 
        go_wp2_with fail
        go_ret
        exact ⟨rfl, below_step K8.out hq⟩
end Go.Proofs.Ytmpldpfgnakbkaa
