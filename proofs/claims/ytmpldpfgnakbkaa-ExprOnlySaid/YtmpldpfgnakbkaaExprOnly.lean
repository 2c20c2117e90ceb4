/- ExprOnly: the walk. -/
import Derived.Test.YtmpldpfgnakbkaaExpC
namespace Go.Proofs.Ytmpldpfgnakbkaa
set_option linter.unusedVariables false
open Go.RowKit Go.Sort

theorem aright_is {w : World} {R : Nat → Prop} {A : Option Addr} {n c : Nat} {l : List Giv} {r : Int} (hr : rightA l = r) (h : Gvs w R A n c l) :
    Calls Try.prog 22 #[.slice A n c] w fun e w' => e = .returned (.int .i64 r) ∧ Below w.heap.size w w' := by
  have := aright_any h
  rwa [hr] at this
/-- Does a node ask for it? -/
def AsksG (g : Giv) (x : Nod) : Prop := x.op = 2 ∧ x.a.cat = g.cat ∧ x.a.name = g.name
def FreeTo (g : Giv) (l : List Nod) (k : Nat) : Prop := ∀ j x, l[j]? = some x → j < k → ¬ AsksG g x
theorem FreeTo.step {g : Giv} {l : List Nod} {k : Nat} {x : Nod} (h : FreeTo g l k) (hx : l[k]? = some x) (h2 : ¬ AsksG g x) : FreeTo g l (k + 1) := fun j y hy hj => by
  by_cases e : j = k
  · subst e
    obtain rfl := Option.some.inj (hx.symm.trans hy)
    exact h2
  · exact h j y hy (by omega)
theorem FreeTo.val {g : Giv} {l : List Nod} {n : Nat} (h : FreeTo g l n) (hn : l.length = n) (ask : List Giv) : valP (withA ask g) l = valP ask l := val_same fun x hx h2 => by
  obtain ⟨j, hj, rfl⟩ := List.getElem_of_mem hx
  have hno := h j _ (List.getElem?_eq_getElem hj) (by omega)
  have hne : ¬ (l[j].a.cat = g.cat ∧ l[j].a.name = g.name) := fun e => hno ⟨h2, e.1, e.2⟩
  exact ⟨with_getR hne, with_getE hne⟩
theorem text_beq (s t : ByteArray) : (s.toList == t.toList) = decide (s = t) := by
  rw [Bool.eq_iff_iff, beq_iff_eq, decide_eq_true_iff]
  constructor
  · intro c
    refine text_eq ?_
    unfold bl
    rw [← ByteArray.toList_eq, ← ByteArray.toList_eq]
    exact c
  · intro h; rw [h]

set_option maxRecDepth 100000 in
set_option maxHeartbeats 6400000 in
theorem exprOnly_walk (W : World) (A0 : Option Addr) (n0 c0 : Nat) (h0 : ∃ l, Nds W (fun _ => True) A0 n0 c0 l) (A2 : Option Addr) (n2 c2 : Nat) (h2 : ∃ l, Gvs W (fun _ => True) A2 n2 c2 l) (g : Giv) {A3 : Option Addr} {n3 c3 : Nat} (hg : g.ok ∧ Vls W (fun _ => True) A3 n3 c3 g.bag) :
    Calls Try.prog 7 #[.slice A0 n0 c0, .slice A2 n2 c2, .agg #[.int .i64 g.cat, .string g.name, .slice A3 n3 c3]] W fun e w' => e = .returned (.bool true) ∧ Below W.heap.size W w' := by
  obtain ⟨l0, h0⟩ := h0
  obtain ⟨ask, h2⟩ := h2
  obtain ⟨hgo, hgv⟩ := hg
  obtain ⟨gc, gn, gb⟩ := g
  simp only at hgv ⊢
  have b0 := Rw.le h0
  have m0 := Rw.cap h0
  have hbig2 := Rw.big h2
  have hl2 := Rw.len h2
  have hl3 := Rw.len hgv
  unfold maxLen at m0
  obtain ⟨p0, hp0⟩ : ∃ p : Nat, min (n0 : Int) 32 = (p : Int) := ⟨(min (n0 : Int) 32).toNat, by omega⟩
  have y0 : (p0 : Int) ≤ (c0 : Int) := by omega
  have BW := Lib.hid (below1 W (.cells #[.int .i64 gc, .string gn, .slice A3 n3 c3] 27))
  have OG := Lib.hid (Ob.made W 27 #[.int .i64 gc, .string gn, .slice A3 n3 c3])
  have T0 : Hid (Nds (W.alloc (.cells #[.int .i64 gc, .string gn, .slice A3 n3 c3] 27)) (fun _ => True) A0 p0 c0 (l0.take p0)) := Nds.up (h0.take (show p0 ≤ n0 by omega)) BW.out
  have T2 := Lib.hid (h2.up BW.out)
  have T3 := Lib.hid (Vls.up hgv BW.out)
  have S0 : Hid (p0 ≤ 32) := by show _ ≤ _; omega
  have HGO := Lib.hid hgo
  clear h0 h2 hgo hgv
  go_enter Try.func7, Try.ntmps7
  go_wp2_with fail
  generalize hW0 : W.alloc (.cells #[.int .i64 gc, .string gn, .slice A3 n3 c3] 27) = w at *
  have HW0 := Lib.hid hW0
  clear hW0
  by_cases f1 : fewC ask ≤ 1200
  rotate_left
  · have HF1 := Lib.hid (decide_eq_false f1)
    clear f1
    refine (few_is HF1.out (T2.out.up (Below.refl (w).heap.size w))).mono ?_
    rintro e u1 ⟨rfl, hb⟩
    have K := Lib.hid (hb)
    clear hb
    go_wp2_with fail
    refine (eruns_any _).mono ?_
    rintro e u2 ⟨rfl, hb⟩
    have K := Lib.hid (below_step K.out hb)
    clear hb
    go_wp2_with fail
    go_ret
    exact ⟨rfl, below_step BW.out K.out⟩
  have HF1 := Lib.hid (decide_eq_true f1)
  by_cases f2 : fewC [⟨gc, gn, gb⟩] ≤ 1200
  rotate_left
  · have HF2 := Lib.hid (decide_eq_false f2)
    clear f1 f2
    refine (few_is HF1.out (T2.out.up (Below.refl (w).heap.size w))).mono ?_
    rintro e u1 ⟨rfl, hb⟩
    have K := Lib.hid (hb)
    clear hb
    have ogF2 := (OG.out.below K.out OG.out.lt)
    have g0 := ogF2.cell 0
    have g1 := ogF2.cell 1
    have g2 := ogF2.cell 2
    have QG := Lib.hid (one_giv (w := u1) ⟨gc, gn, gb⟩ HGO.out (Vls.up T3.out K.out))
    go_wp2_with fail
    refine (few_is HF2.out QG.out).mono ?_
    rintro e u2 ⟨rfl, hb⟩
    have K := Lib.hid (below_step K.out (Below.lit hb))
    clear hb
    clear g0 g1 g2 QG ogF2
    go_wp2_with fail
    refine (eruns_any _).mono ?_
    rintro e u3 ⟨rfl, hb⟩
    have K := Lib.hid (below_step K.out hb)
    clear hb
    go_wp2_with fail
    go_ret
    exact ⟨rfl, below_step BW.out K.out⟩
  have HF2 := Lib.hid (decide_eq_true f2)
  by_cases r1 : rightA ask = 0
  rotate_left
  · obtain ⟨r, hr⟩ : ∃ r, r = rightA ask := ⟨_, rfl⟩
    rw [← hr] at r1
    have q1 : (r != 0) = true := by rw [bne_iff_ne]; exact r1
    have HR1 := Lib.hid hr.symm
    clear f1 f2 r1 hr
    refine (few_is HF1.out (T2.out.up (Below.refl (w).heap.size w))).mono ?_
    rintro e u1 ⟨rfl, hb⟩
    have K := Lib.hid (hb)
    clear hb
    have ogF2 := (OG.out.below K.out OG.out.lt)
    have g0 := ogF2.cell 0
    have g1 := ogF2.cell 1
    have g2 := ogF2.cell 2
    have QG := Lib.hid (one_giv (w := u1) ⟨gc, gn, gb⟩ HGO.out (Vls.up T3.out K.out))
    go_wp2_with fail
    refine (few_is HF2.out QG.out).mono ?_
    rintro e u2 ⟨rfl, hb⟩
    have K := Lib.hid (below_step K.out (Below.lit hb))
    clear hb
    clear g0 g1 g2 QG ogF2
    go_wp2_with fail
    refine (aright_is HR1.out (T2.out.up K.out)).mono ?_
    rintro e u3 ⟨rfl, hb⟩
    have K := Lib.hid (below_step K.out hb)
    clear hb
    go_wp2_with fail
    refine (eruns_any _).mono ?_
    rintro e u4 ⟨rfl, hb⟩
    have K := Lib.hid (below_step K.out hb)
    clear hb
    go_wp2_with fail
    go_ret
    exact ⟨rfl, below_step BW.out K.out⟩
  have HR1 := Lib.hid r1
  by_cases r2 : rightA [⟨gc, gn, gb⟩] = 0
  rotate_left
  · obtain ⟨r, hr⟩ : ∃ r, r = rightA [⟨gc, gn, gb⟩] := ⟨_, rfl⟩
    rw [← hr] at r2
    have q2 : (r != 0) = true := by rw [bne_iff_ne]; exact r2
    have HR2 := Lib.hid hr.symm
    clear f1 f2 r1 r2 hr
    refine (few_is HF1.out (T2.out.up (Below.refl (w).heap.size w))).mono ?_
    rintro e u1 ⟨rfl, hb⟩
    have K := Lib.hid (hb)
    clear hb
    have ogF2 := (OG.out.below K.out OG.out.lt)
    have g0 := ogF2.cell 0
    have g1 := ogF2.cell 1
    have g2 := ogF2.cell 2
    have QG := Lib.hid (one_giv (w := u1) ⟨gc, gn, gb⟩ HGO.out (Vls.up T3.out K.out))
    go_wp2_with fail
    refine (few_is HF2.out QG.out).mono ?_
    rintro e u2 ⟨rfl, hb⟩
    have K := Lib.hid (below_step K.out (Below.lit hb))
    clear hb
    clear g0 g1 g2 QG ogF2
    go_wp2_with fail
    refine (aright_is HR1.out (T2.out.up K.out)).mono ?_
    rintro e u3 ⟨rfl, hb⟩
    have K := Lib.hid (below_step K.out hb)
    clear hb
    have ogR2 := (OG.out.below K.out OG.out.lt)
    have g0 := ogR2.cell 0
    have g1 := ogR2.cell 1
    have g2 := ogR2.cell 2
    have QG := Lib.hid (one_giv (w := u3) ⟨gc, gn, gb⟩ HGO.out (Vls.up T3.out K.out))
    go_wp2_with fail
    refine (aright_is HR2.out QG.out).mono ?_
    rintro e u4 ⟨rfl, hb⟩
    have K := Lib.hid (below_step K.out (Below.lit hb))
    clear hb
    clear g0 g1 g2 QG ogR2
    go_wp2_with fail
    refine (eruns_any _).mono ?_
    rintro e u5 ⟨rfl, hb⟩
    have K := Lib.hid (below_step K.out hb)
    clear hb
    go_wp2_with fail
    go_ret
    exact ⟨rfl, below_step BW.out K.out⟩
  have HR2 := Lib.hid r2
  have HG := Lib.hid (few_short f1)
  have HN := Lib.hid (few_names f1)
  have HGS := Lib.hid ((few_short f2) ⟨gc, gn, gb⟩ (by simp))
  have HGN := Lib.hid ((few_names f2) ⟨gc, gn, gb⟩ (by simp))
  have HN2 : Hid (n2 ≤ 600 ∧ n3 ≤ 100000) := ⟨by have := few_len f1; omega, by have := HGS.out.2; simp only at this; omega⟩
  clear f1 f2 r1 r2
  refine (few_is HF1.out (T2.out.up (Below.refl (w).heap.size w))).mono ?_
  rintro e u1 ⟨rfl, hb⟩
  have K := Lib.hid (hb)
  clear hb
  have ogF2 := (OG.out.below K.out OG.out.lt)
  have g0 := ogF2.cell 0
  have g1 := ogF2.cell 1
  have g2 := ogF2.cell 2
  have QG := Lib.hid (one_giv (w := u1) ⟨gc, gn, gb⟩ HGO.out (Vls.up T3.out K.out))
  go_wp2_with fail
  refine (few_is HF2.out QG.out).mono ?_
  rintro e u2 ⟨rfl, hb⟩
  have K := Lib.hid (below_step K.out (Below.lit hb))
  clear hb
  clear g0 g1 g2 QG ogF2
  go_wp2_with fail
  refine (aright_is HR1.out (T2.out.up K.out)).mono ?_
  rintro e u3 ⟨rfl, hb⟩
  have K := Lib.hid (below_step K.out hb)
  clear hb
  have ogR2 := (OG.out.below K.out OG.out.lt)
  have g0 := ogR2.cell 0
  have g1 := ogR2.cell 1
  have g2 := ogR2.cell 2
  have QG := Lib.hid (one_giv (w := u3) ⟨gc, gn, gb⟩ HGO.out (Vls.up T3.out K.out))
  go_wp2_with fail
  refine (aright_is HR2.out QG.out).mono ?_
  rintro e u4 ⟨rfl, hb⟩
  have K := Lib.hid (below_step K.out (Below.lit hb))
  clear hb
  clear g0 g1 g2 QG ogR2
  go_wp2_with fail
  clear y0 b0 hp0
  generalize l0.take p0 = L at *
  have LL : Hid (L.length = p0) := Rw.len T0.out
  go_loopw [41] (fun i wr => ∃ k : Nat, k ≤ p0 ∧ i = .int .i64 k ∧ FreeTo ⟨gc, gn, gb⟩ L k ∧ Below w.heap.size w wr) (fun i _ => p0 - (intOf i).toNat)
  case atStart => exact ⟨0, Nat.zero_le _, rfl, fun j x _ hj => by omega, K.out⟩
  case round =>
    obtain ⟨k, hk, rfl, hp, hb⟩ := hrel
    have HP := Lib.hid hp
    have HB := Lib.hid hb
    have hs0 := S0.out
    have OGr := OG.out.below hb OG.out.lt
    have g0 := OGr.cell 0
    have g1 := OGr.cell 1
    have g2 := OGr.cell 2
    clear hp hb
    by_cases hlt : k < p0
    · obtain ⟨b, o, x, rfl, hRb, hbl, hx, hok, q0, q1, q2, q3, q4, q5, q6⟩ := (T0.out.up HB.out).at_ hlt
      have HX := Lib.hid hx
      obtain ⟨xo, ⟨xk, xn, xs⟩, ⟨xc, xm, xu⟩⟩ := x
      simp only at q0 q1 q2 q3 q4 q5 q6
      have HTB := text_beq xm gn
      have OGa := OGr.keep (w' := wr.alloc (.cells #[.int .i64 xo, .int .i64 xk, .int .i64 xn, .string xs, .int .i64 xc, .string xm, .bool xu] 51)) (Below.heap_alloc _ _ _ OGr.lt)
      have g3 := OGa.cell 0
      have g4 := OGa.cell 1
      clear hx hok hRb
      by_cases h2 : xo = 2
      rotate_left
      · have hb2 : (xo == 2) = false := by rw [beq_eq_false_iff_ne]; exact h2
        have HZ := Lib.hid (HP.out.step HX.out (fun e => h2 e.1))
        clear h2
        go_wp2_with fail
        go_roundw
        case rel => exact ⟨k + 1, by omega, by go_num, HZ.out, HB.out.alloc HB.out.size _⟩
        case measure => simp [intOf]; omega
      by_cases h3 : xc = gc
      rotate_left
      · have hb3 : (xc == gc) = false := by rw [beq_eq_false_iff_ne]; exact h3
        have HZ := Lib.hid (HP.out.step HX.out (fun e => h3 e.2.1))
        clear h3
        subst xo
        go_wp2_with fail
        go_roundw
        case rel => exact ⟨k + 1, by omega, by go_num, HZ.out, HB.out.alloc HB.out.size _⟩
        case measure => simp [intOf]; omega
      subst xo
      subst xc
      by_cases h4 : xm = gn
      · rw [decide_eq_true h4] at HTB
        clear h4
        go_wp2_with (go_at_call 5; refine (eruns_any _).mono ?_; rintro e w2 ⟨rfl, hb⟩; have K2 := Lib.hid (below_step HB.out (Below.lit hb)); clear hb)
        go_ret
        exact ⟨rfl, below_step BW.out K2.out⟩
      · rw [decide_eq_false h4] at HTB
        have HZ := Lib.hid (HP.out.step HX.out (fun e => h4 e.2.2))
        clear h4
        go_wp2_with fail
        go_roundw
        case rel => exact ⟨k + 1, by omega, by go_num, HZ.out, HB.out.alloc HB.out.size _⟩
        case measure => simp [intOf]; omega
    · obtain rfl : k = p0 := by omega
      obtain ⟨⟨⟨vk, vm, vs⟩, e⟩, hv⟩ : ∃ q, q = valP ask L := ⟨_, rfl⟩
      have HV := Lib.hid hv.symm
      have HV2 : Hid (valP (withA ask ⟨gc, gn, gb⟩) L = (⟨vk, vm, vs⟩, e)) := (HP.out.val LL.out ask).trans hv.symm
      clear hv
      have HA0 := Lib.hid (fun V (hV : Below w.heap.size w V) => eval_is HV.out (T0.out.up hV) (T2.out.up hV) HG.out)
      have HWI := Lib.hid (fun V (hV : Below w.heap.size w V) => awith_any (w := V) ⟨gc, gn, gb⟩ (T2.out.up hV) HG.out HN.out (by have := HN2.out; omega) HGO.out (Vls.up T3.out hV) HGS.out.1 HN2.out.2 HGN.out)
      have HSH := Lib.hid (with_short (g := ⟨gc, gn, gb⟩) HG.out HGS.out)
      have ee := fun W => (val_eq vk vm vk vm vs vs W).trans (by rw [veq_true rfl])
      clear hlt HV g0 g1 g2
      go_wp2_with fail
      refine (HA0.out _ HB.out).mono ?_
      rintro e v1 ⟨rfl, hb⟩
      have HB := Lib.hid (below_step HB.out hb)
      clear hb
      have R7 := Lib.hid (Bx.made v1 vk vm vs)
      have OG2 := OG.out.below (below_al (o := (.cells #[.int .i64 vk, .int .i64 vm, .string vs] 42)) HB.out) OG.out.lt
      have g0 := OG2.cell 0
      have g1 := OG2.cell 1
      have g2 := OG2.cell 2
      go_wp2_with fail
      refine (HWI.out _ (below_al (o := (.cells #[.int .i64 vk, .int .i64 vm, .string vs] 42)) HB.out)).mono ?_
      rintro e v2 ⟨A8, n8, c8, rfl, hb, hn8, hgr⟩
      have HB := Lib.hid (below_step HB.out (Below.lit hb))
      have K7 := Lib.hid (hb)
      have GW := Lib.hid (Gr.gvs hgr (by have := HN2.out; omega))
      clear hgr
      clear hb
      have R7 := Lib.hid (R7.out.then_ K7.out)
      go_wp2_with fail
      refine (eval_is HV2.out (T0.out.up HB.out) (GW.out.up (Below.refl (v2).heap.size v2)) HSH.out).mono ?_
      rintro e v3 ⟨rfl, hb⟩
      have HB := Lib.hid (below_step HB.out hb)
      have K8 := Lib.hid (hb)
      clear hb
      have R7 := Lib.hid ((R7.out.then_ K8.out).alloc (.cells #[.int .i64 vk, .int .i64 vm, .string vs] 42))
      have R9 := Lib.hid (Bx.made v3 vk vm vs)
      have BB := Lib.hid ((below_al (o := (.cells #[.int .i64 vk, .int .i64 vm, .string vs] 42)) HB.out))
      have c7 := R7.out.c3
      have c9 := R9.out.c3
      go_wp2_with (go_at_call 5; refine (eruns_any _).mono ?_; rintro e y3 ⟨rfl, hb⟩; have BB3 := Lib.hid (below_step BB.out hb); clear hb)
      go_ret
      exact ⟨rfl, below_step BW.out BB3.out⟩
end Go.Proofs.Ytmpldpfgnakbkaa
