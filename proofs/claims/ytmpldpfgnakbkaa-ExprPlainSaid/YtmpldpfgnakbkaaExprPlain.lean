/- ExprPlain: the walk. -/
import Derived.Test.YtmpldpfgnakbkaaExpC
namespace Go.Proofs.Ytmpldpfgnakbkaa
set_option linter.unusedVariables false
open Go.RowKit Go.Sort

theorem valP_err {ask : List Giv} {l : List Nod} {v : Vl} {e : Int} (h : valP ask l = (v, e)) (he : e ≠ 0) : v = noneV := by
  have := valP_fine ask l
  rw [h] at this
  exact this he
theorem valP_one {ask : List Giv} {l : List Nod} {v : Vl} {e : Int} (h : valP ask l = (v, e)) (he : e ≠ 1) : exprE l = 0 ∧ l ≠ [] := by
  by_cases hc : l = [] ∨ exprE l ≠ 0
  · rw [valP_bad hc] at h
    injection h with _ h
    exact absurd h.symm he
  · refine ⟨?_, fun e => hc (.inl e)⟩
    by_cases h0 : exprE l = 0
    · exact h0
    · exact absurd (.inr h0) hc
/-- Of these none is an attribute. -/
def PlainTo (l : List Nod) (k : Nat) : Prop := ∀ j x, l[j]? = some x → j < k → x.op ≠ 2
theorem PlainTo.step {l : List Nod} {k : Nat} {x : Nod} (h : PlainTo l k) (hx : l[k]? = some x) (h2 : x.op ≠ 2) : PlainTo l (k + 1) := fun j y hy hj => by
  by_cases e : j = k
  · subst e
    obtain rfl := Option.some.inj (hx.symm.trans hy)
    exact h2
  · exact h j y hy (by omega)
theorem PlainTo.val {l : List Nod} {n : Nat} (h : PlainTo l n) (hn : l.length = n) (ask : List Giv) : valP ask l = valP [] l := val_same fun x hx h2 => by
  obtain ⟨j, hj, rfl⟩ := List.getElem_of_mem hx
  exact absurd h2 (h j _ (List.getElem?_eq_getElem hj) (by omega))

set_option maxRecDepth 100000 in
set_option maxHeartbeats 6400000 in
theorem exprPlain_walk (W : World) (A0 : Option Addr) (n0 c0 : Nat) (h0 : ∃ l, Nds W (fun _ => True) A0 n0 c0 l) (A2 : Option Addr) (n2 c2 : Nat) (h2 : ∃ l, Gvs W (fun _ => True) A2 n2 c2 l) :
    Calls Try.prog 10 #[.slice A0 n0 c0, .slice A2 n2 c2] W fun e w' => e = .returned (.bool true) ∧ Below W.heap.size W w' := by
  obtain ⟨l0, h0⟩ := h0
  obtain ⟨ask, h2⟩ := h2
  have b0 := Rw.le h0
  have m0 := Rw.cap h0
  unfold maxLen at m0
  obtain ⟨p0, hp0⟩ : ∃ p : Nat, min (n0 : Int) 32 = (p : Int) := ⟨(min (n0 : Int) 32).toNat, by omega⟩
  have y0 : (p0 : Int) ≤ (c0 : Int) := by omega
  have T0 : Hid (Nds W (fun _ => True) A0 p0 c0 (l0.take p0)) := h0.take (by omega)
  have T2 := Lib.hid h2
  have S0 : Hid (p0 ≤ 32) := by show _ ≤ _; omega
  clear h0 h2
  go_enter Try.func10, Try.ntmps10
  by_cases hf : fewC ask ≤ 1200
  rotate_left
  · have HF := Lib.hid (few_is (decide_eq_false hf) T2.out)
    clear hf
    go_wp2_with (first
      | (go_at_call 12; refine HF.out.mono ?_; rintro e w1 ⟨rfl, hb⟩; have K := Lib.hid hb; clear hb)
      | (go_at_call 5; refine (eruns_any _).mono ?_; rintro e w2 ⟨rfl, hb⟩; have K2 := Lib.hid (below_step K.out hb); clear hb))
    go_ret
    exact ⟨rfl, K2.out⟩
  have HF := Lib.hid (few_is (decide_eq_true hf) T2.out)
  have HG := Lib.hid (few_short hf)
  clear hf
  go_wp2_with (go_at_call 12; refine HF.out.mono ?_; rintro e w1 ⟨rfl, hb⟩; have K := Lib.hid hb; clear hb)
  clear y0 b0 hp0
  generalize l0.take p0 = L at *
  have LL : Hid (L.length = p0) := Rw.len T0.out
  go_loopw [22] (fun i wr => ∃ k : Nat, k ≤ p0 ∧ i = .int .i64 k ∧ PlainTo L k ∧ Below W.heap.size W wr) (fun i _ => p0 - (intOf i).toNat)
  case atStart => exact ⟨0, Nat.zero_le _, rfl, fun j x _ hj => by omega, K.out⟩
  case round =>
    obtain ⟨k, hk, rfl, hp, hb⟩ := hrel
    have HP := Lib.hid hp
    have HB := Lib.hid hb
    have hs0 := S0.out
    clear hp hb
    by_cases hlt : k < p0
    · obtain ⟨b, o, x, rfl, hRb, hbl, hx, hok, q0, q1, q2, q3, q4, q5, q6⟩ := (T0.out.up HB.out).at_ hlt
      have HX := Lib.hid hx
      obtain ⟨xo, ⟨xk, xn, xs⟩, ⟨xc, xm, xu⟩⟩ := x
      simp only at q0 q1 q2 q3 q4 q5 q6
      clear hx hok hRb
      by_cases h2 : xo = 2
      · subst h2
        go_wp2_with (go_at_call 5; refine (eruns_any _).mono ?_; rintro e w2 ⟨rfl, hb⟩; have K2 := Lib.hid (below_step HB.out (Below.lit hb)); clear hb)
        go_ret
        exact ⟨rfl, K2.out⟩
      · have hb2 : (xo == 2) = false := by rw [beq_eq_false_iff_ne]; exact h2
        have H2 := Lib.hid (HP.out.step HX.out h2)
        clear h2
        by_cases h100 : 100 < xs.size
        · have hg : (100 : Int) < (xs.size : Int) := by omega
          go_wp2_with (go_at_call 5; refine (eruns_any _).mono ?_; rintro e w2 ⟨rfl, hb⟩; have K2 := Lib.hid (below_step HB.out (Below.lit hb)); clear hb)
          go_ret
          exact ⟨rfl, K2.out⟩
        · have hg : ¬ (100 : Int) < (xs.size : Int) := by omega
          go_wp2_with fail
          go_roundw
          case rel => exact ⟨k + 1, by omega, by go_num, H2.out, HB.out.alloc HB.out.size _⟩
          case measure => simp [intOf]; omega
    · obtain rfl : k = p0 := by omega
      obtain ⟨⟨⟨vk, vm, vs⟩, e⟩, hv⟩ : ∃ q, q = valP ask L := ⟨_, rfl⟩
      have HV := Lib.hid hv.symm
      have HV2 : Hid (valP [] L = (⟨vk, vm, vs⟩, e)) := (HP.out.val LL.out ask).symm.trans hv.symm
      have HC : Hid (condP ask [] = 2) := rfl
      clear hv
      have HA0 := Lib.hid (fun w (hw : Below W.heap.size W w) => eval_is HV.out (T0.out.up hw) (T2.out.up hw) HG.out)
      have HA1 := Lib.hid (fun w (hw : Below W.heap.size W w) => eval_is HV2.out (T0.out.up hw) (gvs_nil w) short_nil)
      have HCO := Lib.hid (fun w (hw : Below W.heap.size W w) => cond_is HC.out (Rw.nil_ _ _ w (fun _ => True) : Nds w (fun _ => True) none 0 0 []) (T2.out.up hw) HG.out)
      have HONE := Lib.hid (fun he => valP_one HV.out he)
      have HERR := Lib.hid (fun he => valP_err HV.out he)
      have hs0 := S0.out
      have hll := LL.out
      clear hlt HV HV2 HC
      by_cases e0 : e = 0
      · obtain ⟨hx0, hne⟩ := HONE.out (by omega)
        have HX0 := Lib.hid hx0
        have hlen : (0 : Int) < (k : Int) := by have : L.length ≠ 0 := fun e => hne (List.eq_nil_of_length_eq_zero e); omega
        subst e0
        clear hx0 hne
        go_wp2_with fail
        refine (HA0.out _ HB.out).mono ?_
        rintro e v1 ⟨rfl, hb⟩
        have HB := Lib.hid (below_step HB.out hb)
        clear hb
        have R7 := Lib.hid (Bx.made v1 vk vm vs)
        go_wp2_with fail
        refine (HA1.out _ (below_al (o := (.cells #[.int .i64 vk, .int .i64 vm, .string vs] 42)) HB.out)).mono ?_
        rintro e v2 ⟨rfl, hb⟩
        have HB := Lib.hid (below_step HB.out (Below.lit hb))
        have K7 := Lib.hid (hb)
        clear hb
        have R7 := Lib.hid ((R7.out.then_ K7.out).alloc (.cells #[.int .i64 vk, .int .i64 vm, .string vs] 42))
        have R9 := Lib.hid (Bx.made v2 vk vm vs)
        have BB := Lib.hid ((below_al (o := (.cells #[.int .i64 vk, .int .i64 vm, .string vs] 42)) HB.out))
        have c7 := R7.out.c3
        have c9 := R9.out.c3
        have e7 := fun W => (val_eq vk vm vk vm vs vs W).trans (by rw [veq_true rfl])
        go_wp2_with (first | (go_at_call 33; refine (pexpr_is HX0.out (T0.out.up BB.out)).mono ?_; rintro e y1 ⟨rfl, hb⟩; have BB1 := Lib.hid (below_step BB.out hb); clear hb) | (go_at_call 34; refine (HCO.out _ BB1.out).mono ?_; rintro e y2 ⟨rfl, hb⟩; have BB2 := Lib.hid (below_step BB1.out hb); clear hb) | (go_at_call 5; refine (eruns_any _).mono ?_; rintro e y3 ⟨rfl, hb⟩; have BB3 := Lib.hid (below_step BB2.out hb); clear hb))
        go_ret
        exact ⟨rfl, BB3.out⟩
      have hne0 : (e == 0) = false := by rw [beq_eq_false_iff_ne]; exact e0
      have hnv := HERR.out e0
      injection hnv with hn1 hn2 hn3
      subst hn1 hn2 hn3
      by_cases e1 : e = 1
      · subst e1
        clear e0
        go_wp2_with fail
        refine (HA0.out _ HB.out).mono ?_
        rintro e v1 ⟨rfl, hb⟩
        have HB := Lib.hid (below_step HB.out hb)
        clear hb
        have R7 := Lib.hid (Bx.made v1 0 0 ⟨#[]⟩)
        go_wp2_with fail
        refine (HA1.out _ (below_al (o := (.cells #[.int .i64 0, .int .i64 0, .string ⟨#[]⟩] 42)) HB.out)).mono ?_
        rintro e v2 ⟨rfl, hb⟩
        have HB := Lib.hid (below_step HB.out (Below.lit hb))
        have K7 := Lib.hid (hb)
        clear hb
        have R7 := Lib.hid ((R7.out.then_ K7.out).alloc (.cells #[.int .i64 0, .int .i64 0, .string ⟨#[]⟩] 42))
        have R9 := Lib.hid (Bx.made v2 0 0 ⟨#[]⟩)
        have BB := Lib.hid ((below_al (o := (.cells #[.int .i64 0, .int .i64 0, .string ⟨#[]⟩] 42)) HB.out))
        have c7 := R7.out.c3
        have c9 := R9.out.c3
        have e7 := fun W => (val_eq 0 0 0 0 ⟨#[]⟩ ⟨#[]⟩ W).trans (by rw [veq_true rfl])
        go_wp2_with (first | (go_at_call 34; refine (HCO.out _ BB.out).mono ?_; rintro e y2 ⟨rfl, hb⟩; have BB2 := Lib.hid (below_step BB.out hb); clear hb) | (go_at_call 5; refine (eruns_any _).mono ?_; rintro e y3 ⟨rfl, hb⟩; have BB3 := Lib.hid (below_step BB2.out hb); clear hb))
        go_ret
        exact ⟨rfl, BB3.out⟩
      · have hne1 : (e == 1) = false := by rw [beq_eq_false_iff_ne]; exact e1
        obtain ⟨hx0, hne⟩ := HONE.out e1
        have HX0 := Lib.hid hx0
        have hlen : (0 : Int) < (k : Int) := by have : L.length ≠ 0 := fun e => hne (List.eq_nil_of_length_eq_zero e); omega
        clear hx0 hne e0 e1
        go_wp2_with fail
        refine (HA0.out _ HB.out).mono ?_
        rintro e v1 ⟨rfl, hb⟩
        have HB := Lib.hid (below_step HB.out hb)
        clear hb
        have R7 := Lib.hid (Bx.made v1 0 0 ⟨#[]⟩)
        go_wp2_with fail
        refine (HA1.out _ (below_al (o := (.cells #[.int .i64 0, .int .i64 0, .string ⟨#[]⟩] 42)) HB.out)).mono ?_
        rintro e v2 ⟨rfl, hb⟩
        have HB := Lib.hid (below_step HB.out (Below.lit hb))
        have K7 := Lib.hid (hb)
        clear hb
        have R7 := Lib.hid ((R7.out.then_ K7.out).alloc (.cells #[.int .i64 0, .int .i64 0, .string ⟨#[]⟩] 42))
        have R9 := Lib.hid (Bx.made v2 0 0 ⟨#[]⟩)
        have BB := Lib.hid ((below_al (o := (.cells #[.int .i64 0, .int .i64 0, .string ⟨#[]⟩] 42)) HB.out))
        have c7 := R7.out.c3
        have c9 := R9.out.c3
        have e7 := fun W => (val_eq 0 0 0 0 ⟨#[]⟩ ⟨#[]⟩ W).trans (by rw [veq_true rfl])
        go_wp2_with (first | (go_at_call 33; refine (pexpr_is HX0.out (T0.out.up BB.out)).mono ?_; rintro e y1 ⟨rfl, hb⟩; have BB1 := Lib.hid (below_step BB.out hb); clear hb) | (go_at_call 34; refine (HCO.out _ BB1.out).mono ?_; rintro e y2 ⟨rfl, hb⟩; have BB2 := Lib.hid (below_step BB1.out hb); clear hb) | (go_at_call 5; refine (eruns_any _).mono ?_; rintro e y3 ⟨rfl, hb⟩; have BB3 := Lib.hid (below_step BB2.out hb); clear hb))
        go_ret
        exact ⟨rfl, BB3.out⟩
end Go.Proofs.Ytmpldpfgnakbkaa
