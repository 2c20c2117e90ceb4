/- AskBytes: the walk. -/
import Derived.Test.YtjpkemamfccfdaaAskC
import Derived.Test.YtjpkemamfccfdaaAskB
import Derived.Lib.MinMax
namespace Go.Proofs.Ytjpkemamfccfdaa
set_option linter.unusedVariables false
open Go.RowKit

set_option maxRecDepth 100000 in
set_option maxHeartbeats 32000000 in
theorem askBytes_walk (W : World) (A : Option Addr) (n c : Nat) (h : ∃ l, Gvs W (fun _ => True) A n c l) (A2 : Option Addr) (n2 c2 : Nat) (h2 : ∃ l, Sl W W.heap.size A2 n2 c2 (nv l)) (m : Int) (hm : (Lit.int .i64 m).wf = true) (v : Vl) (hv : v.ok) :
    Calls Try.prog 10 #[.slice A n c, .slice A2 n2 c2, .int .i64 m, v.val] W fun e w' => e = .returned (.bool true) ∧ Below W.heap.size W w' := by
  obtain ⟨l, h⟩ := h
  obtain ⟨lo, h2⟩ := h2
  obtain ⟨vk, vm, vs⟩ := v
  unfold Vl.val
  have HRUN := Lib.hid (fun w => aruns_any w)
  have hle := Rw.le h
  have hcap := Rw.cap h
  have hbig := Rw.big h
  have hle2 := h2.le
  have hcap2 := h2.cap
  unfold maxLen at hcap hcap2
  have HL := Lib.hid (Rw.len h)
  have HK : Hid (∀ w, Below W.heap.size W w → Gvs w (fun b => b < W.heap.size) A n c l) := fun w hW => h.keep (Kept.all hW (fun _ => True)) (fun b _ hb => hb)
  have HO : Hid (∀ w, Below W.heap.size W w → Sl w W.heap.size A2 n2 c2 (nv lo)) := fun w hW => h2.keep hW.block
  have HA := Lib.hid hv
  have K := Lib.hid ((Below.refl W.heap.size W).alloc (Nat.le_refl _) (.cells #[.int .i64 vk, .int .i64 vm, .string vs] 25))
  have R3 := Lib.hid (Bx.made W vk vm vs)
  have hvs : vs.size ≤ 9223372036854775807 := by have := hv.2.2; unfold maxLen at this; omega
  obtain ⟨q, hq⟩ : ∃ q : Nat, min (vs.size : Int) 80 = (q : Int) := ⟨(min (vs.size : Int) 80).toNat, by omega⟩
  have hq0 : (q : Int) ≤ (vs.size : Int) := by omega
  have HQ : Hid ((vs.extract 0 q).size ≤ 80) := by show _ ≤ _; rw [ByteArray.size_extract]; omega
  clear h h2 hv
  go_enter Try.func10, Try.ntmps10
  have f4 := R3.out.fz
  have c4 := R3.out.c3
  go_upto_region 2 with fail
  have K8 := Lib.hid ((Below.refl W.heap.size W).alloc (Nat.le_refl _) (.cells #[.int .i64 vk, .int .i64 vm, .string (vs.extract 0 q)] 25))
  have R8 := Lib.hid (Bx.made W vk vm (vs.extract 0 q))
  have HAT : Hid (Vl.ok ⟨vk, vm, vs.extract 0 q⟩) := ⟨HA.out.1, HA.out.2.1, Nat.le_trans HQ.out (by unfold maxLen; omega)⟩
  generalize vs.extract 0 q = ts at *
  generalize hW8 : W.alloc (.cells #[.int .i64 vk, .int .i64 vm, .string ts] 25) = w1 at *
  clear hW8 hq hq0 hvs f4 c4 HA K R3
  have FEW1 := few_any (HK.out _ K8.out)
  by_cases hf : fewC l ≤ 1200
  rotate_left
  · rw [decide_eq_false hf] at FEW1
    have FEW1 := Lib.hid FEW1
    clear hf
    go_wp2_with (first
      | (go_at_call 15; (with_reducible refine FEW1.out.mono ?_); rintro e w2 ⟨rfl, hb1⟩
         have F1 := Lib.hid (below_step K8.out hb1)
         clear hb1)
      | (go_at_call 23; refine (HRUN.out _).mono ?_; rintro e w9 ⟨rfl, hb9⟩; have F9 := Lib.hid (below_step F1.out hb9); clear hb9))
    go_ret
    exact ⟨rfl, F9.out⟩
  rw [decide_eq_true hf] at FEW1
  have FEW1 := Lib.hid FEW1
  have HF := Lib.hid hf
  have hn6 : n ≤ 600 := by have := few_len hf; have := HL.out; omega
  clear hf
  by_cases hr : rightA l = 0
  rotate_left
  · obtain ⟨rr, hrr⟩ : ∃ rr, rightA l = rr := ⟨_, rfl⟩
    rw [hrr] at hr
    have hne : (rr != 0) = true := by simpa using hr
    have hrr := Lib.hid hrr
    clear hr
    go_wp2_with (first
      | (go_at_call 15; (with_reducible refine FEW1.out.mono ?_); rintro e w2 ⟨rfl, hb1⟩
         have F1 := Lib.hid (below_step K8.out hb1)
         have RI := aright_any (HK.out w2 F1.out)
         rw [hrr.out] at RI
         have RI := Lib.hid RI
         clear hb1)
      | (go_at_call 21; (with_reducible refine RI.out.mono ?_); rintro e w3 ⟨rfl, hb3⟩
         have F3 := Lib.hid (below_step F1.out hb3)
         clear hb3)
      | (go_at_call 23; refine (HRUN.out _).mono ?_; rintro e w9 ⟨rfl, hb9⟩; have F9 := Lib.hid (below_step F3.out hb9); clear hb9))
    go_ret
    exact ⟨rfl, F9.out⟩
  have HR := Lib.hid hr
  clear hr
  by_cases h60 : (60 : Int) ≤ (n : Int)
  · go_wp2_with (first
      | (go_at_call 15; (with_reducible refine FEW1.out.mono ?_); rintro e w2 ⟨rfl, hb1⟩
         have F1 := Lib.hid (below_step K8.out hb1)
         have RI := aright_any (HK.out w2 F1.out)
         rw [HR.out] at RI
         have RI := Lib.hid RI
         clear hb1)
      | (go_at_call 21; (with_reducible refine RI.out.mono ?_); rintro e w3 ⟨rfl, hb3⟩
         have F3 := Lib.hid (below_step F1.out hb3)
         clear hb3)
      | (go_at_call 23; refine (HRUN.out _).mono ?_; rintro e w9 ⟨rfl, hb9⟩; have F9 := Lib.hid (below_step F3.out hb9); clear hb9))
    go_ret
    exact ⟨rfl, F9.out⟩
  go_upto_region 4 with (first
      | (go_at_call 15; (with_reducible refine FEW1.out.mono ?_); rintro e w2 ⟨rfl, hb1⟩
         have F1 := Lib.hid (below_step K8.out hb1)
         have R1 := Lib.hid (R8.out.then_ hb1)
         have RI := aright_any (HK.out w2 F1.out)
         rw [HR.out] at RI
         have RI := Lib.hid RI
         clear hb1)
      | (go_at_call 21; (with_reducible refine RI.out.mono ?_); rintro e w3 ⟨rfl, hb3⟩
         have F3 := Lib.hid (below_step F1.out hb3)
         have R5 := Lib.hid (R1.out.then_ hb3)
         clear hb3))
  clear FEW1 RI R8 R1 F1 K8
  obtain ⟨A5, k5, w5, r5, T5⟩ : ∃ A5 k5 w5, (Builtin.append_ #[30, 30] 30 #[.slice (some ⟨w3.heap.size, 0, none⟩) 0 0, .slice A n c]).run Try.prog (w3.alloc (.cells #[] 48)) = .ok (.slice A5 n k5) w5 ∧ Hid (Trn w3.heap.size w3 w5 A5 n k5 none 0 0 l []) := by
    have e1 : Below w3.heap.size w3 (w3.alloc (.cells #[] 48)) := (Below.refl _ _).alloc (Nat.le_refl _) _
    have hB := F3.out.size
    obtain ⟨A5, k5, w5, r5, o5, b5, g5, ob5⟩ := append_givs (ty := 30) (Ow.made 3 (GivAt (w3.alloc (.cells #[] 48)) (fun b => b < w3.heap.size)) w3 48) (Gvs.keep (R' := fun b => b < w3.heap.size) (HK.out _ (below_step F3.out e1)) (Kept.refl _ _) fun b hb _ => Nat.lt_of_lt_of_le hb hB) (by omega) e1.size
    rw [Nat.zero_add] at r5 o5 ob5
    refine ⟨A5, k5, w5, r5, ⟨?_, Ow.nil _ _ _ _ _, (fun b _ e => nomatch e), e1.trans b5, Nat.le_refl _⟩⟩
    exact o5.mapP fun vs x _ hp => hp.keep (Kept.below b5 fun b h _ => h) fun b h _ => h
  have RA := Lib.hid r5
  clear r5
  go_upto_region 7 with (at_builtin; refine wpList_append_run rfl _ _ _ _ rfl rfl rfl RA.out ?_)
  clear RA
  have M5 : Hid (Mix 0 n (lsF l) (lsF ([] ++ l))) := Mix.refl _ _ _
  go_loopw [9, 10, 11] (fun s9 s10 s11 wr => ∃ (nl cl nt ct : Nat) (Al At : Option Addr) (ll lt : List Giv), s9 = .slice Al nl cl ∧ s10 = .slice At nt ct ∧ s11 = .int .i64 nt ∧ nl + nt = n ∧ Hid (Trn w3.heap.size w3 wr Al nl cl At nt ct ll lt) ∧ Hid (Mix 0 n (lsF l) (lsF (lt ++ ll)))) (fun _ _ s11 _ => n - (intOf s11).toNat)
  case atStart => exact ⟨n, k5, 0, 0, A5, none, l, [], rfl, rfl, rfl, by omega, T5, M5⟩
  case round =>
    clear T5 M5
    obtain ⟨nl, cl, nt, ct, Al, At, ll, lt, rfl, rfl, rfl, hnn, T, M⟩ := hrel
    have hll := T.out.l.len
    have hlt := T.out.t.len
    by_cases hnl : 0 < nl
    · have hnl2 : (0 : Int) < (nl : Int) := by omega
      have HO1 := Lib.hid (HO.out wr (F3.out.trans (T.out.bel.mono F3.out.size)))
      go_upto_region 10 with fail
      by_cases ho : (nt : Int) < (n2 : Int)
      · obtain ⟨bb, oo, xx, rfl, _, _, hcx⟩ := HO1.out.num (k := nt) (by omega)
        have hlo : (0 : Int) ≤ ((nl : Int) - 1) := by omega
        have wb := within_le (n := xx) hlo
        obtain ⟨kk, hkk⟩ : ∃ kk : Nat, withinOf xx 0 ((nl : Int) - 1) = (kk : Int) := ⟨(withinOf xx 0 ((nl : Int) - 1)).toNat, by omega⟩
        have HC := Lib.hid (within_any (n := xx) (lo := 0) (hi := (nl : Int) - 1) (w := wr) (by omega) hlo (by omega))
        rw [hkk] at HC wb
        clear hkk
        go_upto_region 12 with (go_at_call 34; refine HC.out.mono ?_; rintro e wz ⟨rfl, rfl⟩)
        clear hcx hlo
        obtain ⟨b, o, x, us, rfl, _, _, hx, hul, hcel, A', n', c', rfl, hok, hV⟩ := Rw.at_ (T.out.l.rw (R := fun _ => True) (by omega) fun _ _ _ => trivial) (j := kk) (by omega)
        have x0 : wr.cell? ⟨b, o + kk * 3, none⟩ = some (.int .i64 x.cat) := hcel 0 _ rfl
        have x1 : wr.cell? ⟨b, o + kk * 3 + 1, none⟩ = some (.string x.name) := hcel 1 _ rfl
        have x2 : wr.cell? ⟨b, o + kk * 3 + 2, none⟩ = some (.slice A' n' c') := hcel 2 _ rfl
        obtain ⟨A7, c7, w7, r7, T7⟩ := T.out.one (x := x) hul ⟨A', n', c', rfl, hok, hV⟩ (by omega)
        have HX := Lib.hid hx
        have RB : Hid ((Builtin.append_ #[30, 30] 30 #[.slice At nt ct, .slice (some ⟨wr.heap.size, 0, none⟩) 1 1]).run Try.prog (wr.alloc (.cells #[.int .i64 x.cat, .string x.name, .slice A' n' c'] 48)) = .ok (.slice A7 (nt + 1) c7) w7) := r7
        have T7 := Lib.hid T7
        clear r7 hx hcel
        have kk0 : (0 : Int) ≤ (kk : Int) := by omega
        have kk1 : (kk : Int) < (nl : Int) := by omega
        go_upto_region 13 with (at_builtin; refine wpList_append_run rfl _ _ _ _ rfl rfl rfl RB.out ?_)
        clear x0 x1 x2
        obtain ⟨V0, hV0⟩ : ∃ V0, V0 = w7.drewN 1 := ⟨_, rfl⟩
        have T8 : Hid (Trn w3.heap.size w3 V0 (some ⟨b, o, none⟩) nl cl A7 (nt + 1) c7 ll (lt ++ [x])) := by rw [hV0]; exact T7.out.then_ (below_drewN (Below.refl _ _) 1)
        obtain ⟨A5, c5, w5, A6, c6, w6, r5, r6, T9, hb5⟩ := T8.out.two (k := kk) (by omega) (by omega)
        have RX5 := Lib.hid r5
        clear r5
        have T9 := Lib.hid T9
        have HB5 := Lib.hid hb5
        have hle3 : (kk : Int) ≤ (cl : Int) := by have := Rw.le (T8.out.l.rw (R := fun _ => True) (by omega) fun _ _ _ => trivial); omega
        obtain ⟨k1, hk1⟩ : ∃ k1 : Nat, k1 = kk + 1 := ⟨_, rfl⟩
        have hw1 : IntKind.i64.wrap ((kk : Int) + 1) = (k1 : Int) := by rw [IntKind.wrap_i64]; omega
        have hle4 : (k1 : Int) ≤ (nl : Int) := by omega
        have hle5 : (0 : Int) ≤ (k1 : Int) := by omega
        have R6 : Hid ((Builtin.append_ #[30, 30] 30 #[.slice A5 kk c5, .slice (if cl = k1 then some ⟨b, o, none⟩ else some ⟨b, o + k1 * 3, none⟩) (nl - k1) (cl - k1)]).run Try.prog w5 = .ok (.slice A6 (nl - 1) c6) w6) := by
          subst hk1
          exact r6
        clear r6 hb5 hk1
        refine wp_region_held_tail (fun w' => Below V0.heap.size V0 w') 9 (by kernel_rfl) (by kernel_rfl) ?_
        intro G
        change HeadW _ _ _ _ _ _ _ _ _ _ (w7.drewN 1)
        rw [← hV0]
        clear hV0
        have S0 : Hid (Below V0.heap.size V0 V0) := Below.refl _ _
        refine HeadW_take (i := 1) (v := ?_) G rfl (by kernel_rfl) (by kernel_rfl) (by kernel_rfl) (fun _ _ _ h => h) (Or.inl ⟨by rfl, ?_⟩) S0.out ?_
        rotate_left
        · intro wz hS
          go_simp
          try with_reducible rfl
        refine HeadW_take (i := 2) (v := ?_) G rfl (by kernel_rfl) (by kernel_rfl) (by kernel_rfl) (fun _ _ _ h => h) (Or.inl ⟨by rfl, ?_⟩) S0.out ?_
        rotate_left
        · intro wz hS
          go_simp
          try with_reducible rfl
        refine HeadW_take (i := 3) (v := ?_) G rfl (by kernel_rfl) (by kernel_rfl) (by kernel_rfl) (fun _ _ _ h => h) (Or.inl ⟨by rfl, ?_⟩) S0.out ?_
        rotate_left
        · intro wz hS
          go_simp
          try with_reducible rfl
        refine HeadW_take (i := 5) (v := ?_) G rfl (by kernel_rfl) (by kernel_rfl) (by kernel_rfl) (fun _ _ _ h => h) (Or.inl ⟨by rfl, ?_⟩) S0.out ?_
        rotate_left
        · intro wz hS
          go_simp
          try with_reducible rfl
        refine HeadW_take (i := 6) (v := ?_) G rfl (by kernel_rfl) (by kernel_rfl) (by kernel_rfl) (fun _ _ _ h => h) (Or.inl ⟨by rfl, ?_⟩) S0.out ?_
        rotate_left
        · intro wz hS
          go_simp
          try with_reducible rfl
        refine HeadW_take (i := 7) (v := ?_) G rfl (by kernel_rfl) (by kernel_rfl) (by kernel_rfl) (fun _ _ _ h => h) (Or.inl ⟨by rfl, ?_⟩) S0.out ?_
        rotate_left
        · intro wz hS
          go_simp
          try with_reducible rfl
        refine HeadW_take (i := 8) (v := ?_) G rfl (by kernel_rfl) (by kernel_rfl) (by kernel_rfl) (fun _ _ _ h => h) (Or.inl ⟨by rfl, ?_⟩) S0.out ?_
        rotate_left
        · intro wz hS
          go_simp
          try with_reducible rfl
        refine HeadW_ready (rs := [0]) (by kernel_rfl) rfl rfl ?_
        refine AllW.cons rfl (fun K hK => ?_) AllW.nil
        go_simp
        refine hK _ _ ((Below.refl _ _).alloc (Nat.le_refl _) _) ?_
        clear hK K
        refine HeadW_ready (rs := [4]) (by kernel_rfl) rfl rfl ?_
        refine AllW.cons rfl (fun K hK => ?_) AllW.nil
        refine oper_append (.tmp 65) (.tmp 68) 30 30 rfl rfl rfl RX5.out ?_
        refine hK _ _ HB5.out ?_
        clear hK K
        intro _
        refine ⟨by kernel_rfl, ?_⟩
        simp only [List.drop_succ_cons, List.drop_zero]
        go_wp2_with (at_builtin; refine wpList_append_run rfl _ _ _ _ rfl rfl rfl R6.out ?_)
        go_roundw
        case rel => exact ⟨nl - 1, c6, nt + 1, c7, A6, A7, ll.take kk ++ ll.drop (kk + 1), lt ++ [x], rfl, rfl, by go_num, by omega, T9.out, turn_mix (by omega) HX.out M.out⟩
        case measure => simp [intOf]; omega
      · go_upto_region 12 with fail
        obtain ⟨b, o, x, us, rfl, _, _, hx, hul, hcel, A', n', c', rfl, hok, hV⟩ := Rw.at_ (T.out.l.rw (R := fun _ => True) (by omega) fun _ _ _ => trivial) (j := 0) (by omega)
        have x0 : wr.cell? ⟨b, o, none⟩ = some (.int .i64 x.cat) := hcel 0 _ rfl
        have x1 : wr.cell? ⟨b, o + 1, none⟩ = some (.string x.name) := hcel 1 _ rfl
        have x2 : wr.cell? ⟨b, o + 2, none⟩ = some (.slice A' n' c') := hcel 2 _ rfl
        obtain ⟨A7, c7, w7, r7, T7⟩ := T.out.one (x := x) hul ⟨A', n', c', rfl, hok, hV⟩ (by omega)
        have HX := Lib.hid hx
        have RB : Hid ((Builtin.append_ #[30, 30] 30 #[.slice At nt ct, .slice (some ⟨wr.heap.size, 0, none⟩) 1 1]).run Try.prog (wr.alloc (.cells #[.int .i64 x.cat, .string x.name, .slice A' n' c'] 48)) = .ok (.slice A7 (nt + 1) c7) w7) := r7
        have T7 := Lib.hid T7
        clear r7 hx hcel
        have kk1 : (0 : Int) < (nl : Int) := by omega
        go_upto_region 13 with (at_builtin; refine wpList_append_run rfl _ _ _ _ rfl rfl rfl RB.out ?_)
        clear x0 x1 x2
        obtain ⟨V0, hV0⟩ : ∃ V0, V0 = w7.drewN 1 := ⟨_, rfl⟩
        have T8 : Hid (Trn w3.heap.size w3 V0 (some ⟨b, o, none⟩) nl cl A7 (nt + 1) c7 ll (lt ++ [x])) := by rw [hV0]; exact T7.out.then_ (below_drewN (Below.refl _ _) 1)
        obtain ⟨A5, c5, w5, A6, c6, w6, r5, r6, T9, hb5⟩ := T8.out.two (k := 0) (by omega) (by omega)
        have RX5 := Lib.hid r5
        clear r5
        have T9 := Lib.hid T9
        have HB5 := Lib.hid hb5
        have hle3 : (0 : Int) ≤ (cl : Int) := by have := Rw.le (T8.out.l.rw (R := fun _ => True) (by omega) fun _ _ _ => trivial); omega
        have hle4 : (1 : Int) ≤ (nl : Int) := by omega
        have hw1 : IntKind.i64.wrap 1 = 1 := by rfl
        have hw0 : (1 : Int).toNat = 1 := rfl
        have R6 : Hid ((Builtin.append_ #[30, 30] 30 #[.slice A5 0 c5, .slice (if cl = 1 then some ⟨b, o, none⟩ else some ⟨b, o + 3, none⟩) (nl - 1) (cl - 1)]).run Try.prog w5 = .ok (.slice A6 (nl - 1) c6) w6) := r6
        clear r6 hb5
        refine wp_region_held_tail (fun w' => Below V0.heap.size V0 w') 9 (by kernel_rfl) (by kernel_rfl) ?_
        intro G
        change HeadW _ _ _ _ _ _ _ _ _ _ (w7.drewN 1)
        rw [← hV0]
        clear hV0
        have S0 : Hid (Below V0.heap.size V0 V0) := Below.refl _ _
        refine HeadW_take (i := 1) (v := ?_) G rfl (by kernel_rfl) (by kernel_rfl) (by kernel_rfl) (fun _ _ _ h => h) (Or.inl ⟨by rfl, ?_⟩) S0.out ?_
        rotate_left
        · intro wz hS
          go_simp
          try with_reducible rfl
        refine HeadW_take (i := 2) (v := ?_) G rfl (by kernel_rfl) (by kernel_rfl) (by kernel_rfl) (fun _ _ _ h => h) (Or.inl ⟨by rfl, ?_⟩) S0.out ?_
        rotate_left
        · intro wz hS
          go_simp
          try with_reducible rfl
        refine HeadW_take (i := 3) (v := ?_) G rfl (by kernel_rfl) (by kernel_rfl) (by kernel_rfl) (fun _ _ _ h => h) (Or.inl ⟨by rfl, ?_⟩) S0.out ?_
        rotate_left
        · intro wz hS
          go_simp
          try with_reducible rfl
        refine HeadW_take (i := 5) (v := ?_) G rfl (by kernel_rfl) (by kernel_rfl) (by kernel_rfl) (fun _ _ _ h => h) (Or.inl ⟨by rfl, ?_⟩) S0.out ?_
        rotate_left
        · intro wz hS
          go_simp
          try with_reducible rfl
        refine HeadW_take (i := 6) (v := ?_) G rfl (by kernel_rfl) (by kernel_rfl) (by kernel_rfl) (fun _ _ _ h => h) (Or.inl ⟨by rfl, ?_⟩) S0.out ?_
        rotate_left
        · intro wz hS
          go_simp
          try with_reducible rfl
        refine HeadW_take (i := 7) (v := ?_) G rfl (by kernel_rfl) (by kernel_rfl) (by kernel_rfl) (fun _ _ _ h => h) (Or.inl ⟨by rfl, ?_⟩) S0.out ?_
        rotate_left
        · intro wz hS
          go_simp
          try with_reducible rfl
        refine HeadW_take (i := 8) (v := ?_) G rfl (by kernel_rfl) (by kernel_rfl) (by kernel_rfl) (fun _ _ _ h => h) (Or.inl ⟨by rfl, ?_⟩) S0.out ?_
        rotate_left
        · intro wz hS
          go_simp
          try with_reducible rfl
        refine HeadW_ready (rs := [0]) (by kernel_rfl) rfl rfl ?_
        refine AllW.cons rfl (fun K hK => ?_) AllW.nil
        go_simp
        refine hK _ _ ((Below.refl _ _).alloc (Nat.le_refl _) _) ?_
        clear hK K
        refine HeadW_ready (rs := [4]) (by kernel_rfl) rfl rfl ?_
        refine AllW.cons rfl (fun K hK => ?_) AllW.nil
        refine oper_append (.tmp 65) (.tmp 68) 30 30 rfl rfl rfl RX5.out ?_
        refine hK _ _ HB5.out ?_
        clear hK K
        intro _
        refine ⟨by kernel_rfl, ?_⟩
        simp only [List.drop_succ_cons, List.drop_zero]
        go_wp2_with (at_builtin; refine wpList_append_run rfl _ _ _ _ rfl rfl rfl R6.out ?_)
        go_roundw
        case rel => exact ⟨nl - 1, c6, nt + 1, c7, A6, A7, ll.take 0 ++ ll.drop (0 + 1), lt ++ [x], rfl, rfl, by go_num, by omega, T9.out, turn_mix (by omega) HX.out M.out⟩
        case measure => simp [intOf]; omega
    · obtain rfl : nl = 0 := by omega
      obtain rfl : n = nt := by omega
      have hll0 : ll = [] := List.length_eq_zero_iff.1 hll
      subst hll0
      have MT : Hid (Mix 0 l.length (lsF l) (lsF lt)) := by show Mix _ _ _ _; have := M.out; rw [List.append_nil] at this; rw [HL.out]; exact this
      have LT0 : Hid (lt.length = l.length) := by show _ = _; rw [hlt, HL.out]
      have F := Lib.hid (F3.out.trans (T.out.bel.mono F3.out.size))
      have GT : Hid (Gvs wr (fun _ => True) At n ct lt) := (T.out.t.mapP (P' := GivAt wr (fun _ => True)) (fun vs x _ hp => hp.keep (Kept.refl _ _) (fun _ _ _ => trivial))).rw (by omega) (fun _ _ _ => trivial)
      have FL := Lib.hid (few_fits HF.out)
      have FT := Lib.hid (fits_mix LT0.out MT.out FL.out)
      have FM := Lib.hid (fits_more HF.out)
      have FB := Lib.hid (few_bags HF.out)
      have AP := Lib.hid (apart_right HR.out)
      have R5' := Lib.hid (R5.out.then_ (below_step (Below.refl _ _) (Below.refl _ _)))
      have RX := Lib.hid (R5.out.below T.out.bel R5.out.lt)
      clear hll hnn T M R5' hnl
      have CT : Hid (Below wr.heap.size wr wr) := Below.refl _ _
      go_wp2_with fail
      refine (put_any (HK.out _ F.out) FL.out).mono ?_
      rintro e v1 ⟨P1, m1, d1, bs1, rfl, hb, hp, hs⟩
      have Kv1 := Lib.hid (below_step F.out hb)
      have CT := Lib.hid (below_step CT.out hb)
      have PB1 := Lib.hid hp
      have SB1 := Lib.hid hs
      clear hp hs
      clear hb
      have C1 : Hid (Below v1.heap.size v1 v1) := Below.refl _ _
      go_wp2_with fail
      refine (put_any (Gvs.keep GT.out (Kept.all CT.out _) (R' := fun _ => True) (fun _ _ _ => trivial)) FT.out).mono ?_
      rintro e v2 ⟨P2, m2, d2, bs2, rfl, hb, hp, hs⟩
      have Kv2 := Lib.hid (below_step Kv1.out hb)
      have CT := Lib.hid (below_step CT.out hb)
      have C1 := Lib.hid (below_step C1.out hb)
      have PB2 := Lib.hid hp
      have SB2 := Lib.hid hs
      clear hp hs
      clear hb
      have C2 : Hid (Below v2.heap.size v2 v2) := Below.refl _ _
      have HEQ := Lib.hid (decide_eq_true (put_turned LT0.out MT.out AP.out PB1.out PB2.out))
      go_wp2_with fail
      refine (same_is HEQ.out (SB1.out.keep C1.out.block) (SB2.out.keep C2.out.block)).mono ?_
      rintro e v3 ⟨rfl, hb⟩
      have Kv3 := Lib.hid (below_step Kv2.out hb)
      have CT := Lib.hid (below_step CT.out hb)
      have C1 := Lib.hid (below_step C1.out hb)
      have C2 := Lib.hid (below_step C2.out hb)
      clear hb
      go_wp2_with fail
      refine (put_any (HK.out _ Kv3.out) FL.out).mono ?_
      rintro e v4 ⟨P3, m3, d3, bs3, rfl, hb, hp, hs⟩
      have Kv4 := Lib.hid (below_step Kv3.out hb)
      have CT := Lib.hid (below_step CT.out hb)
      have C1 := Lib.hid (below_step C1.out hb)
      have C2 := Lib.hid (below_step C2.out hb)
      have PB3 := Lib.hid hp
      have SB3 := Lib.hid hs
      clear hp hs
      clear hb
      have C3 : Hid (Below v4.heap.size v4 v4) := Below.refl _ _
      have hm3 : ((m3 : Int) == 0) = false := by rw [beq_eq_false_iff_ne]; have := put_pos PB3.out; have := SB3.out.len; rw [bv_len] at this; omega
      go_wp2_with fail
      refine (asks_any (HK.out _ Kv4.out) FB.out (by omega)).mono ?_
      rintro e v5 ⟨A7, c7, rfl, hb, hg⟩
      have Kv5 := Lib.hid (below_step Kv4.out hb)
      have CT := Lib.hid (below_step CT.out hb)
      have C1 := Lib.hid (below_step C1.out hb)
      have C2 := Lib.hid (below_step C2.out hb)
      have C3 := Lib.hid (below_step C3.out hb)
      have GO := Lib.hid hg
      clear hg
      clear hb
      have KB : Hid (W.heap.size ≤ v4.heap.size) := Kv4.out.size
      have CO : Hid (Below v5.heap.size v5 v5) := Below.refl _ _
      clear hm3 SB1 SB2 SB3 PB1 PB2 PB3 C1 C2 C3 HEQ GT MT LT0 FT AP
      by_cases hn0 : n = 0
      · subst hn0
        go_wp2_with fail
        refine (asks_any (HK.out _ Kv5.out) FB.out (by omega)).mono ?_
        rintro e v6 ⟨A8, c8, rfl, hb, hg8⟩
        have Kv6 := Lib.hid (below_step Kv5.out hb)
        have G8 := Lib.hid hg8
        clear hg8
        clear hb
        obtain ⟨A9, c9, w9, r9, g9, b9⟩ := push_giv (w := v6) (g := moreG) G8.out moreG_ok (Rw.nil_ 3 _ _ _) (by omega)
        have R9 : Hid ((Builtin.append_ #[30, 30] 30 #[.slice A8 0 c8, .slice (some ⟨v6.heap.size, 0, none⟩) 1 1]).run Try.prog (v6.alloc (.cells #[.int .i64 4, .string ⟨#[122, 122, 95, 122, 122, 95, 109, 111, 114, 101]⟩, .slice none 0 0] 48)) = .ok (.slice A9 (0 + 1) c9) w9) := r9
        have G9 : Hid (Gvs w9 (fun _ => True) A9 (0 + 1) c9 (l ++ [moreG])) := Gvs.keep (Gr.gvs g9 (by omega)) (Kept.refl _ _) (fun _ _ _ => trivial)
        have K9 := Lib.hid (Kv6.out.trans (b9.mono Kv5.out.size))
        clear r9 g9 b9
        obtain ⟨rr, hrr⟩ : ∃ r, rightA (l ++ [moreG]) = r := ⟨_, rfl⟩
        have HRR := Lib.hid hrr
        by_cases h9 : rr = 0
        rotate_left
        · have hne9 : (rr != 0) = true := by rw [bne_iff_ne]; exact h9
          clear hrr h9
          go_wp2_with (at_builtin; refine wpList_append_run (o := ⟨some 125, _, _, _, _, _⟩) rfl _ _ _ _ rfl rfl rfl R9.out ?_)
          refine (tright_at HRR.out (G9.out)).mono ?_
          rintro e v8 ⟨rfl, hb⟩
          have Kv8 := Lib.hid (below_step K9.out hb)
          clear hb
          go_wp2_with fail
          refine (aruns_any _).mono ?_
          rintro e v9 ⟨rfl, hb⟩
          have Kv9 := Lib.hid (below_step Kv8.out hb)
          clear hb
          go_wp2_with fail
          go_ret
          exact ⟨rfl, Kv9.out⟩
        subst h9
        clear hrr
        go_wp2_with (at_builtin; refine wpList_append_run (o := ⟨some 125, _, _, _, _, _⟩) rfl _ _ _ _ rfl rfl rfl R9.out ?_)
        refine (tright_at HRR.out (G9.out)).mono ?_
        rintro e v7 ⟨rfl, hb⟩
        have Kv7 := Lib.hid (below_step K9.out hb)
        have G9' := Lib.hid (Gvs.keep G9.out (Kept.all hb _) (R' := fun _ => True) (fun _ _ _ => trivial))
        clear hb
        go_wp2_with fail
        refine (put_any (G9'.out) FM.out).mono ?_
        rintro e v8 ⟨Pm, mm, dm, bsm, rfl, hb, hp, hs⟩
        have Kv8 := Lib.hid (below_step Kv7.out hb)
        have PBm := Lib.hid hp
        have SBm := Lib.hid hs
        clear hp hs
        clear hb
        have Cm : Hid (Below v8.heap.size v8 v8) := Below.refl _ _
        go_wp2_with fail
        refine (put_any (HK.out _ Kv8.out) FL.out).mono ?_
        rintro e v9 ⟨Pl, ml, dl, bsl, rfl, hb, hp, hs⟩
        have Kv9 := Lib.hid (below_step Kv8.out hb)
        have Cm := Lib.hid (below_step Cm.out hb)
        have PBl := Lib.hid hp
        have SBl := Lib.hid hs
        clear hp hs
        clear hb
        have Cl : Hid (Below v9.heap.size v9 v9) := Below.refl _ _
        have HD := Lib.hid (ne_len (put_more PBl.out PBm.out))
        go_wp2_with fail
        refine (same_is HD.out (SBm.out.keep Cm.out.block) (SBl.out.keep Cl.out.block)).mono ?_
        rintro e v10 ⟨rfl, hb⟩
        have Kv10 := Lib.hid (below_step Kv9.out hb)
        have Cm := Lib.hid (below_step Cm.out hb)
        have Cl := Lib.hid (below_step Cl.out hb)
        clear hb
        go_wp2_with fail
        refine (aruns_any _).mono ?_
        rintro e v11 ⟨rfl, hb⟩
        have Kv11 := Lib.hid (below_step Kv10.out hb)
        have Cm := Lib.hid (below_step Cm.out hb)
        have Cl := Lib.hid (below_step Cl.out hb)
        clear hb
        go_wp2_with fail
        go_ret
        exact ⟨rfl, Kv11.out⟩
      have gn : (0 : Int) < (n : Int) := by omega
      have hlo : (0 : Int) ≤ ((n : Int) - 1) := by omega
      have hwn : IntKind.i64.wrap ((n : Int) - 1) = (n : Int) - 1 := by rw [IntKind.wrap_i64]; omega
      have wb := within_le (n := m) hlo
      obtain ⟨kk, hkk⟩ : ∃ kk : Nat, withinOf m 0 ((n : Int) - 1) = (kk : Int) := ⟨(withinOf m 0 ((n : Int) - 1)).toNat, by omega⟩
      have HC := Lib.hid (within_any (n := m) (lo := 0) (hi := (n : Int) - 1) (w := v5) (by omega) hlo (by omega))
      rw [hkk] at HC wb
      clear hkk
      go_upto_region 19 with (go_at_call 34; refine HC.out.mono ?_; rintro e wz ⟨rfl, rfl⟩)
      obtain ⟨b, o, x, Ab, mb, cb, hA7, hRb, hbl, hx, hok, ⟨x0, x1, x2⟩, hbag⟩ := (Gr.gvs GO.out (by omega)).at_ (j := kk) (by omega)
      obtain ⟨b', _, rfl, _, _, _, _, _, _⟩ := Gr.put_bag (bag := []) GO.out hx (Rw.nil_ 3 _ _ _)
      injection hA7 with hA7
      injection hA7 with hA71 hA72
      subst hA71 hA72
      simp only [Nat.zero_add] at x0 x1 x2
      have HX := Lib.hid hx
      have HBAG := Lib.hid hbag
      have hmb : mb ≤ 1200 := by have := (few_each HF.out (List.mem_of_getElem? hx)).2.1; have := Rw.len hbag; omega
      have kk0 : (0 : Int) ≤ (kk : Int) := by omega
      have kk1 : (kk : Int) < (n : Int) := by omega
      have KO := Lib.hid (fun V (hV : Below v5.heap.size v5 V) => (⟨(World.cell?_of_block (hV.block _ hbl)).trans x0, (World.cell?_of_block (hV.block _ hbl)).trans x1, (World.cell?_of_block (hV.block _ hbl)).trans x2⟩ : _ ∧ _ ∧ _))
      have KV := Lib.hid (fun V (hV : Below v5.heap.size v5 V) => (RX.out.below (below_step CT.out hV) RX.out.lt).c3)
      clear hx hok hbag x0 x1 x2 HC hlo hwn wb
      refine wp_region_held_tail (fun w' => Below v5.heap.size v5 w') 12 (by kernel_rfl) (by kernel_rfl) ?_
      intro G
      change HeadW _ _ _ _ _ _ _ _ _ _ (v5.drewN 1)
      have S : Hid (Below v5.heap.size v5 (v5.drewN 1)) := below_drewN (Below.refl _ _) 1
      generalize v5.drewN 1 = y0 at *
      refine HeadW_take (i := 0) (v := ?_) G rfl (by kernel_rfl) (by kernel_rfl) (by kernel_rfl) (fun _ _ _ h => h) (Or.inl ⟨by rfl, ?_⟩) S.out ?_
      rotate_left
      · intro wz hS
        go_simp
        try with_reducible rfl
      refine HeadW_take (i := 1) (v := ?_) G rfl (by kernel_rfl) (by kernel_rfl) (by kernel_rfl) (fun _ _ _ h => h) (Or.inl ⟨by rfl, ?_⟩) S.out ?_
      rotate_left
      · intro wz hS
        go_simp
        try with_reducible rfl
      refine HeadW_take (i := 3) (v := ?_) G rfl (by kernel_rfl) (by kernel_rfl) (by kernel_rfl) (fun _ _ _ h => h) (Or.inl ⟨by rfl, ?_⟩) S.out ?_
      rotate_left
      · intro wz hS
        go_simp
        try with_reducible rfl
      refine HeadW_take (i := 4) (v := ?_) G rfl (by kernel_rfl) (by kernel_rfl) (by kernel_rfl) (fun _ _ _ h => h) (Or.inl ⟨by rfl, ?_⟩) S.out ?_
      rotate_left
      · intro wz hS
        go_simp
        try with_reducible rfl
      refine HeadW_take (i := 5) (v := ?_) G rfl (by kernel_rfl) (by kernel_rfl) (by kernel_rfl) (fun _ _ _ h => h) (Or.inl ⟨by rfl, ?_⟩) S.out ?_
      rotate_left
      · intro wz hS
        go_simp
        try with_reducible rfl
      refine HeadW_take (i := 6) (v := ?_) G rfl (by kernel_rfl) (by kernel_rfl) (by kernel_rfl) (fun _ _ _ h => h) (Or.inl ⟨by rfl, ?_⟩) S.out ?_
      rotate_left
      · intro wz hS
        go_simp
        try with_reducible rfl
      refine HeadW_take (i := 7) (v := ?_) G rfl (by kernel_rfl) (by kernel_rfl) (by kernel_rfl) (fun _ _ _ h => h) (Or.inl ⟨by rfl, ?_⟩) S.out ?_
      rotate_left
      · intro wz hS
        obtain ⟨k0, k1, k2⟩ := KO.out _ hS
        go_simp
        try with_reducible rfl
      refine HeadW_take (i := 9) (v := ?_) G rfl (by kernel_rfl) (by kernel_rfl) (by kernel_rfl) (fun _ _ _ h => h) (Or.inl ⟨by rfl, ?_⟩) S.out ?_
      rotate_left
      · intro wz hS
        obtain ⟨k0, k1, k2⟩ := KV.out _ hS
        go_simp
        try with_reducible rfl
      refine HeadW_ready (rs := [2, 10]) (by kernel_rfl) rfl rfl ?_
      refine AllW.cons rfl (fun K hK => ?_) (AllW.cons rfl (fun K hK => ?_) AllW.nil)
      · go_simp
        have hb : Below y0.heap.size y0 (y0.alloc (.cells #[] 25)) := (Below.refl _ _).alloc (Nat.le_refl _) _
        have OE : Hid (Ob (y0.alloc (.cells #[] 25)) y0.heap.size 25 #[]) := Ob.made _ _ _
        have SE : Hid (v5.heap.size ≤ y0.heap.size) := S.out.size
        have S := Lib.hid (S.out.trans (hb.mono S.out.size))
        refine hK _ _ S.out ?_
        clear hK K hb
        generalize hg : y0.alloc (.cells #[] 25) = y1 at *
        clear hg
        obtain ⟨ge, hge⟩ : ∃ g, y0.heap.size = g := ⟨_, rfl⟩
        rw [hge] at OE SE
        rw [hge]
        refine HeadW_ready (rs := [8, 10]) (by kernel_rfl) rfl rfl ?_
        refine AllW.cons rfl (fun K hK => ?_) (AllW.cons rfl (fun K hK => ?_) AllW.nil)
        · obtain ⟨A5, c5, y2, r5, b5, o5, g5, t5⟩ := bag_one (base := v5.heap.size) (g := ge) OE.out (Vls.keep HBAG.out (Kept.all S.out _) (R' := fun _ => True) (fun _ _ _ => trivial)) (by omega) SE.out S.out.size
          have R5 := Lib.hid r5
          have OO := Lib.hid o5
          have S := Lib.hid (S.out.trans b5)
          clear r5 b5 o5 g5 t5
          refine oper_append (.tmp 99) (.tmp 104) 45 45 rfl rfl rfl R5.out ?_
          refine hK _ _ S.out ?_
          clear hK K R5
          refine HeadW_ready (rs := [10]) (by kernel_rfl) rfl rfl ?_
          refine AllW.cons rfl (fun K hK => ?_) AllW.nil
          go_simp
          have hb : Below y2.heap.size y2 (y2.alloc (.cells #[.int .i64 vk, .int .i64 vm, .string ts] 25)) := (Below.refl _ _).alloc (Nat.le_refl _) _
          have OV : Hid (Vls (y2.alloc (.cells #[.int .i64 vk, .int .i64 vm, .string ts] 25)) (fun _ => True) (some ⟨y2.heap.size, 0, none⟩) 1 1 [⟨vk, vm, ts⟩]) := vls_one y2 ⟨vk, vm, ts⟩ HAT.out
          have OO := Lib.hid (own_then OO.out hb)
          have S := Lib.hid (S.out.trans (hb.mono S.out.size))
          refine hK _ _ S.out ?_
          clear hK K hb
          generalize hg : y2.alloc (.cells #[.int .i64 vk, .int .i64 vm, .string ts] 25) = y3 at *
          clear hg
          obtain ⟨A6, c6, w6, r6, o6, b6⟩ := bag_two (base := v5.heap.size) OO.out HAT.out OV.out (by omega) S.out.size
          have R6 := Lib.hid r6
          have O6 := Lib.hid o6
          have S6 := Lib.hid (S.out.trans b6)
          clear r6 o6 b6 S OO OV
          refine HeadW_ready (rs := [11]) (by kernel_rfl) rfl rfl ?_
          refine AllW.cons rfl (fun K hK => ?_) AllW.nil
          refine oper_append (.tmp 105) (.tmp 107) 45 45 rfl rfl rfl R6.out ?_
          refine hK _ _ S6.out ?_
          clear hK K
          intro _
          refine ⟨by kernel_rfl, ?_⟩
          simp only [List.drop_succ_cons, List.drop_zero]
          have HBO : Hid (∀ v ∈ x.bag ++ [⟨vk, vm, ts⟩], v.ok) := fun v hv => by rcases List.mem_append.1 hv with hv | hv; exact Vls.oks HBAG.out v hv; simp at hv; subst hv; exact HAT.out
          obtain ⟨bo, u2, hA, hbo, hbo2, q2, z2, hon, hgr⟩ := Gr.put_bag (bag := x.bag ++ [⟨vk, vm, ts⟩]) (Gr.below keeps_giv GO.out S6.out) HX.out (bag_nb GO.out O6.out (by rw [List.length_append, Rw.len HBAG.out]; rfl) (by omega) HBO.out)
          injection hA with hA
          injection hA with hA1 hA2
          subst hA1
          have K7 := Lib.hid ((below_step Kv5.out S6.out).setCell (p := ⟨b', kk * 3 + 2, none⟩) (Nat.le_trans KB.out hbo) (.slice A6 (mb + 1) c6))
          have G7 := Lib.hid (Gr.gvs hgr (by omega))
          have Q2 := Lib.hid q2
          have Z2 := Lib.hid z2
          clear hgr hon hbo hbo2
          go_wp2_with fail
          obtain ⟨w7, hw7⟩ : ∃ w7, w6.setCell ⟨b', kk * 3 + 2, none⟩ (.slice A6 (mb + 1) c6) = w7 := ⟨_, rfl⟩
          rw [hw7] at K7 G7
          rw [hw7]
          clear hw7 q2 z2 Q2 Z2 R6 O6 S6
          obtain ⟨r7, hr7⟩ : ∃ r, rightA (l.set kk { x with bag := x.bag ++ [⟨vk, vm, ts⟩] }) = r := ⟨_, rfl⟩
          have HR7 := Lib.hid hr7
          by_cases h7 : r7 = 0
          rotate_left
          · have hne7 : (r7 == 0) = false := by rw [beq_eq_false_iff_ne]; exact h7
            clear hr7 h7
            refine (tright_at HR7.out G7.out).mono ?_
            rintro e x51 ⟨rfl, hb⟩
            have Kx51 := Lib.hid (below_step K7.out hb)
            clear hb
            go_wp2_with fail
            refine (asks_any (HK.out _ Kx51.out) FB.out (by omega)).mono ?_
            rintro e v52 ⟨A8, c8, rfl, hb, hg8⟩
            have Kv52 := Lib.hid (below_step Kx51.out hb)
            have G8 := Lib.hid hg8
            clear hg8
            clear hb
            obtain ⟨A9, c9, w9, r9, g9, b9⟩ := push_giv (w := v52) (g := moreG) G8.out moreG_ok (Rw.nil_ 3 _ _ _) (by omega)
            have R9 : Hid ((Builtin.append_ #[30, 30] 30 #[.slice A8 n c8, .slice (some ⟨v52.heap.size, 0, none⟩) 1 1]).run Try.prog (v52.alloc (.cells #[.int .i64 4, .string ⟨#[122, 122, 95, 122, 122, 95, 109, 111, 114, 101]⟩, .slice none 0 0] 48)) = .ok (.slice A9 (n + 1) c9) w9) := r9
            have G9 : Hid (Gvs w9 (fun _ => True) A9 (n + 1) c9 (l ++ [moreG])) := Gvs.keep (Gr.gvs g9 (by omega)) (Kept.refl _ _) (fun _ _ _ => trivial)
            have K9 := Lib.hid (Kv52.out.trans (b9.mono Kx51.out.size))
            clear r9 g9 b9
            obtain ⟨rr, hrr⟩ : ∃ r, rightA (l ++ [moreG]) = r := ⟨_, rfl⟩
            have HRR := Lib.hid hrr
            by_cases h9 : rr = 0
            rotate_left
            · have hne9 : (rr != 0) = true := by rw [bne_iff_ne]; exact h9
              clear hrr h9
              go_wp2_with (at_builtin; refine wpList_append_run (o := ⟨some 125, _, _, _, _, _⟩) rfl _ _ _ _ rfl rfl rfl R9.out ?_)
              refine (tright_at HRR.out (G9.out)).mono ?_
              rintro e v54 ⟨rfl, hb⟩
              have Kv54 := Lib.hid (below_step K9.out hb)
              clear hb
              go_wp2_with fail
              refine (aruns_any _).mono ?_
              rintro e v55 ⟨rfl, hb⟩
              have Kv55 := Lib.hid (below_step Kv54.out hb)
              clear hb
              go_wp2_with fail
              go_ret
              exact ⟨rfl, Kv55.out⟩
            subst h9
            clear hrr
            go_wp2_with (at_builtin; refine wpList_append_run (o := ⟨some 125, _, _, _, _, _⟩) rfl _ _ _ _ rfl rfl rfl R9.out ?_)
            refine (tright_at HRR.out (G9.out)).mono ?_
            rintro e v53 ⟨rfl, hb⟩
            have Kv53 := Lib.hid (below_step K9.out hb)
            have G9' := Lib.hid (Gvs.keep G9.out (Kept.all hb _) (R' := fun _ => True) (fun _ _ _ => trivial))
            clear hb
            go_wp2_with fail
            refine (put_any (G9'.out) FM.out).mono ?_
            rintro e v54 ⟨Pm, mm, dm, bsm, rfl, hb, hp, hs⟩
            have Kv54 := Lib.hid (below_step Kv53.out hb)
            have PBm := Lib.hid hp
            have SBm := Lib.hid hs
            clear hp hs
            clear hb
            have Cm : Hid (Below v54.heap.size v54 v54) := Below.refl _ _
            go_wp2_with fail
            refine (put_any (HK.out _ Kv54.out) FL.out).mono ?_
            rintro e v55 ⟨Pl, ml, dl, bsl, rfl, hb, hp, hs⟩
            have Kv55 := Lib.hid (below_step Kv54.out hb)
            have Cm := Lib.hid (below_step Cm.out hb)
            have PBl := Lib.hid hp
            have SBl := Lib.hid hs
            clear hp hs
            clear hb
            have Cl : Hid (Below v55.heap.size v55 v55) := Below.refl _ _
            have HD := Lib.hid (ne_len (put_more PBl.out PBm.out))
            go_wp2_with fail
            refine (same_is HD.out (SBm.out.keep Cm.out.block) (SBl.out.keep Cl.out.block)).mono ?_
            rintro e v56 ⟨rfl, hb⟩
            have Kv56 := Lib.hid (below_step Kv55.out hb)
            have Cm := Lib.hid (below_step Cm.out hb)
            have Cl := Lib.hid (below_step Cl.out hb)
            clear hb
            go_wp2_with fail
            refine (aruns_any _).mono ?_
            rintro e v57 ⟨rfl, hb⟩
            have Kv57 := Lib.hid (below_step Kv56.out hb)
            have Cm := Lib.hid (below_step Cm.out hb)
            have Cl := Lib.hid (below_step Cl.out hb)
            clear hb
            go_wp2_with fail
            go_ret
            exact ⟨rfl, Kv57.out⟩
          subst h7
          clear hr7
          refine (tright_at HR7.out G7.out).mono ?_
          rintro e x51 ⟨rfl, hb⟩
          have Kx51 := Lib.hid (below_step K7.out hb)
          have G7' := Lib.hid (Gvs.keep G7.out (Kept.all hb _) (R' := fun _ => True) (fun _ _ _ => trivial))
          clear hb
          have F7 := Lib.hid (fits_set (v := ⟨vk, vm, ts⟩) HF.out HX.out HQ.out)
          go_wp2_with fail
          refine (put_any (G7'.out) F7.out).mono ?_
          rintro e x52 ⟨Pz, mz, dz, bsz, rfl, hb, hp, hs⟩
          have Kx52 := Lib.hid (below_step Kx51.out hb)
          have PBz := Lib.hid hp
          have SBz := Lib.hid hs
          clear hp hs
          clear hb
          have Cz : Hid (Below x52.heap.size x52 x52) := Below.refl _ _
          go_wp2_with fail
          refine (put_any (HK.out _ Kx52.out) FL.out).mono ?_
          rintro e x53 ⟨Pp, mp, dp, bsp, rfl, hb, hp, hs⟩
          have Kx53 := Lib.hid (below_step Kx52.out hb)
          have Cz := Lib.hid (below_step Cz.out hb)
          have PBp := Lib.hid hp
          have SBp := Lib.hid hs
          clear hp hs
          clear hb
          have Cp : Hid (Below x53.heap.size x53 x53) := Below.refl _ _
          have HD7 := Lib.hid (ne_len (put_longer HX.out PBp.out PBz.out))
          go_wp2_with fail
          refine (same_is HD7.out (SBz.out.keep Cz.out.block) (SBp.out.keep Cp.out.block)).mono ?_
          rintro e x54 ⟨rfl, hb⟩
          have Kx54 := Lib.hid (below_step Kx53.out hb)
          have Cz := Lib.hid (below_step Cz.out hb)
          have Cp := Lib.hid (below_step Cp.out hb)
          clear hb
          clear HD7 SBz SBp PBz PBp Cz Cp G7'
          go_wp2_with fail
          refine (asks_any (HK.out _ Kx54.out) FB.out (by omega)).mono ?_
          rintro e v55 ⟨A8, c8, rfl, hb, hg8⟩
          have Kv55 := Lib.hid (below_step Kx54.out hb)
          have G8 := Lib.hid hg8
          clear hg8
          clear hb
          obtain ⟨A9, c9, w9, r9, g9, b9⟩ := push_giv (w := v55) (g := moreG) G8.out moreG_ok (Rw.nil_ 3 _ _ _) (by omega)
          have R9 : Hid ((Builtin.append_ #[30, 30] 30 #[.slice A8 n c8, .slice (some ⟨v55.heap.size, 0, none⟩) 1 1]).run Try.prog (v55.alloc (.cells #[.int .i64 4, .string ⟨#[122, 122, 95, 122, 122, 95, 109, 111, 114, 101]⟩, .slice none 0 0] 48)) = .ok (.slice A9 (n + 1) c9) w9) := r9
          have G9 : Hid (Gvs w9 (fun _ => True) A9 (n + 1) c9 (l ++ [moreG])) := Gvs.keep (Gr.gvs g9 (by omega)) (Kept.refl _ _) (fun _ _ _ => trivial)
          have K9 := Lib.hid (Kv55.out.trans (b9.mono Kx54.out.size))
          clear r9 g9 b9
          obtain ⟨rr, hrr⟩ : ∃ r, rightA (l ++ [moreG]) = r := ⟨_, rfl⟩
          have HRR := Lib.hid hrr
          by_cases h9 : rr = 0
          rotate_left
          · have hne9 : (rr != 0) = true := by rw [bne_iff_ne]; exact h9
            clear hrr h9
            go_wp2_with (at_builtin; refine wpList_append_run (o := ⟨some 125, _, _, _, _, _⟩) rfl _ _ _ _ rfl rfl rfl R9.out ?_)
            refine (tright_at HRR.out (G9.out)).mono ?_
            rintro e v57 ⟨rfl, hb⟩
            have Kv57 := Lib.hid (below_step K9.out hb)
            clear hb
            go_wp2_with fail
            refine (aruns_any _).mono ?_
            rintro e v58 ⟨rfl, hb⟩
            have Kv58 := Lib.hid (below_step Kv57.out hb)
            clear hb
            go_wp2_with fail
            go_ret
            exact ⟨rfl, Kv58.out⟩
          subst h9
          clear hrr
          go_wp2_with (at_builtin; refine wpList_append_run (o := ⟨some 125, _, _, _, _, _⟩) rfl _ _ _ _ rfl rfl rfl R9.out ?_)
          refine (tright_at HRR.out (G9.out)).mono ?_
          rintro e v56 ⟨rfl, hb⟩
          have Kv56 := Lib.hid (below_step K9.out hb)
          have G9' := Lib.hid (Gvs.keep G9.out (Kept.all hb _) (R' := fun _ => True) (fun _ _ _ => trivial))
          clear hb
          go_wp2_with fail
          refine (put_any (G9'.out) FM.out).mono ?_
          rintro e v57 ⟨Pm, mm, dm, bsm, rfl, hb, hp, hs⟩
          have Kv57 := Lib.hid (below_step Kv56.out hb)
          have PBm := Lib.hid hp
          have SBm := Lib.hid hs
          clear hp hs
          clear hb
          have Cm : Hid (Below v57.heap.size v57 v57) := Below.refl _ _
          go_wp2_with fail
          refine (put_any (HK.out _ Kv57.out) FL.out).mono ?_
          rintro e v58 ⟨Pl, ml, dl, bsl, rfl, hb, hp, hs⟩
          have Kv58 := Lib.hid (below_step Kv57.out hb)
          have Cm := Lib.hid (below_step Cm.out hb)
          have PBl := Lib.hid hp
          have SBl := Lib.hid hs
          clear hp hs
          clear hb
          have Cl : Hid (Below v58.heap.size v58 v58) := Below.refl _ _
          have HD := Lib.hid (ne_len (put_more PBl.out PBm.out))
          go_wp2_with fail
          refine (same_is HD.out (SBm.out.keep Cm.out.block) (SBl.out.keep Cl.out.block)).mono ?_
          rintro e v59 ⟨rfl, hb⟩
          have Kv59 := Lib.hid (below_step Kv58.out hb)
          have Cm := Lib.hid (below_step Cm.out hb)
          have Cl := Lib.hid (below_step Cl.out hb)
          clear hb
          go_wp2_with fail
          refine (aruns_any _).mono ?_
          rintro e v60 ⟨rfl, hb⟩
          have Kv60 := Lib.hid (below_step Kv59.out hb)
          have Cm := Lib.hid (below_step Cm.out hb)
          have Cl := Lib.hid (below_step Cl.out hb)
          clear hb
          go_wp2_with fail
          go_ret
          exact ⟨rfl, Kv60.out⟩
        · have LT : Hid (ge < y1.heap.size) := Ob.lt OE.out
          have NE : Hid (∀ b o, (some ⟨y1.heap.size, 0, none⟩ : Option Addr) = some ⟨b, o, none⟩ → b ≠ ge) := fun b o e => by injection e with e; injection e with e1 e2; have := LT.out; omega
          go_simp
          have hb : Below y1.heap.size y1 (y1.alloc (.cells #[.int .i64 vk, .int .i64 vm, .string ts] 25)) := (Below.refl _ _).alloc (Nat.le_refl _) _
          have OV : Hid (Vls (y1.alloc (.cells #[.int .i64 vk, .int .i64 vm, .string ts] 25)) (fun _ => True) (some ⟨y1.heap.size, 0, none⟩) 1 1 [⟨vk, vm, ts⟩]) := vls_one y1 ⟨vk, vm, ts⟩ HAT.out
          have OE := Lib.hid (Ob.below OE.out hb (Ob.lt OE.out))
          have S := Lib.hid (S.out.trans (hb.mono S.out.size))
          refine hK _ _ S.out ?_
          clear hK K hb
          generalize hg : y1.alloc (.cells #[.int .i64 vk, .int .i64 vm, .string ts] 25) = y2 at *
          clear hg
          refine HeadW_ready (rs := [8]) (by kernel_rfl) rfl rfl ?_
          refine AllW.cons rfl (fun K hK => ?_) AllW.nil
          obtain ⟨A5, c5, y3, r5, b5, o5, g5, t5⟩ := bag_one (base := v5.heap.size) (g := ge) OE.out (Vls.keep HBAG.out (Kept.all S.out _) (R' := fun _ => True) (fun _ _ _ => trivial)) (by omega) SE.out S.out.size
          have R5 := Lib.hid r5
          have OO := Lib.hid o5
          have OV := Lib.hid (vls_grown OV.out g5 NE.out)
          have S := Lib.hid (S.out.trans b5)
          clear r5 b5 o5 g5 t5
          refine oper_append (.tmp 99) (.tmp 104) 45 45 rfl rfl rfl R5.out ?_
          refine hK _ _ S.out ?_
          clear hK K R5
          obtain ⟨A6, c6, w6, r6, o6, b6⟩ := bag_two (base := v5.heap.size) OO.out HAT.out OV.out (by omega) S.out.size
          have R6 := Lib.hid r6
          have O6 := Lib.hid o6
          have S6 := Lib.hid (S.out.trans b6)
          clear r6 o6 b6 S OO OV
          refine HeadW_ready (rs := [11]) (by kernel_rfl) rfl rfl ?_
          refine AllW.cons rfl (fun K hK => ?_) AllW.nil
          refine oper_append (.tmp 105) (.tmp 107) 45 45 rfl rfl rfl R6.out ?_
          refine hK _ _ S6.out ?_
          clear hK K
          intro _
          refine ⟨by kernel_rfl, ?_⟩
          simp only [List.drop_succ_cons, List.drop_zero]
          have HBO : Hid (∀ v ∈ x.bag ++ [⟨vk, vm, ts⟩], v.ok) := fun v hv => by rcases List.mem_append.1 hv with hv | hv; exact Vls.oks HBAG.out v hv; simp at hv; subst hv; exact HAT.out
          obtain ⟨bo, u2, hA, hbo, hbo2, q2, z2, hon, hgr⟩ := Gr.put_bag (bag := x.bag ++ [⟨vk, vm, ts⟩]) (Gr.below keeps_giv GO.out S6.out) HX.out (bag_nb GO.out O6.out (by rw [List.length_append, Rw.len HBAG.out]; rfl) (by omega) HBO.out)
          injection hA with hA
          injection hA with hA1 hA2
          subst hA1
          have K7 := Lib.hid ((below_step Kv5.out S6.out).setCell (p := ⟨b', kk * 3 + 2, none⟩) (Nat.le_trans KB.out hbo) (.slice A6 (mb + 1) c6))
          have G7 := Lib.hid (Gr.gvs hgr (by omega))
          have Q2 := Lib.hid q2
          have Z2 := Lib.hid z2
          clear hgr hon hbo hbo2
          go_wp2_with fail
          obtain ⟨w7, hw7⟩ : ∃ w7, w6.setCell ⟨b', kk * 3 + 2, none⟩ (.slice A6 (mb + 1) c6) = w7 := ⟨_, rfl⟩
          rw [hw7] at K7 G7
          rw [hw7]
          clear hw7 q2 z2 Q2 Z2 R6 O6 S6
          obtain ⟨r7, hr7⟩ : ∃ r, rightA (l.set kk { x with bag := x.bag ++ [⟨vk, vm, ts⟩] }) = r := ⟨_, rfl⟩
          have HR7 := Lib.hid hr7
          by_cases h7 : r7 = 0
          rotate_left
          · have hne7 : (r7 == 0) = false := by rw [beq_eq_false_iff_ne]; exact h7
            clear hr7 h7
            refine (tright_at HR7.out G7.out).mono ?_
            rintro e x51 ⟨rfl, hb⟩
            have Kx51 := Lib.hid (below_step K7.out hb)
            clear hb
            go_wp2_with fail
            refine (asks_any (HK.out _ Kx51.out) FB.out (by omega)).mono ?_
            rintro e v52 ⟨A8, c8, rfl, hb, hg8⟩
            have Kv52 := Lib.hid (below_step Kx51.out hb)
            have G8 := Lib.hid hg8
            clear hg8
            clear hb
            obtain ⟨A9, c9, w9, r9, g9, b9⟩ := push_giv (w := v52) (g := moreG) G8.out moreG_ok (Rw.nil_ 3 _ _ _) (by omega)
            have R9 : Hid ((Builtin.append_ #[30, 30] 30 #[.slice A8 n c8, .slice (some ⟨v52.heap.size, 0, none⟩) 1 1]).run Try.prog (v52.alloc (.cells #[.int .i64 4, .string ⟨#[122, 122, 95, 122, 122, 95, 109, 111, 114, 101]⟩, .slice none 0 0] 48)) = .ok (.slice A9 (n + 1) c9) w9) := r9
            have G9 : Hid (Gvs w9 (fun _ => True) A9 (n + 1) c9 (l ++ [moreG])) := Gvs.keep (Gr.gvs g9 (by omega)) (Kept.refl _ _) (fun _ _ _ => trivial)
            have K9 := Lib.hid (Kv52.out.trans (b9.mono Kx51.out.size))
            clear r9 g9 b9
            obtain ⟨rr, hrr⟩ : ∃ r, rightA (l ++ [moreG]) = r := ⟨_, rfl⟩
            have HRR := Lib.hid hrr
            by_cases h9 : rr = 0
            rotate_left
            · have hne9 : (rr != 0) = true := by rw [bne_iff_ne]; exact h9
              clear hrr h9
              go_wp2_with (at_builtin; refine wpList_append_run (o := ⟨some 125, _, _, _, _, _⟩) rfl _ _ _ _ rfl rfl rfl R9.out ?_)
              refine (tright_at HRR.out (G9.out)).mono ?_
              rintro e v54 ⟨rfl, hb⟩
              have Kv54 := Lib.hid (below_step K9.out hb)
              clear hb
              go_wp2_with fail
              refine (aruns_any _).mono ?_
              rintro e v55 ⟨rfl, hb⟩
              have Kv55 := Lib.hid (below_step Kv54.out hb)
              clear hb
              go_wp2_with fail
              go_ret
              exact ⟨rfl, Kv55.out⟩
            subst h9
            clear hrr
            go_wp2_with (at_builtin; refine wpList_append_run (o := ⟨some 125, _, _, _, _, _⟩) rfl _ _ _ _ rfl rfl rfl R9.out ?_)
            refine (tright_at HRR.out (G9.out)).mono ?_
            rintro e v53 ⟨rfl, hb⟩
            have Kv53 := Lib.hid (below_step K9.out hb)
            have G9' := Lib.hid (Gvs.keep G9.out (Kept.all hb _) (R' := fun _ => True) (fun _ _ _ => trivial))
            clear hb
            go_wp2_with fail
            refine (put_any (G9'.out) FM.out).mono ?_
            rintro e v54 ⟨Pm, mm, dm, bsm, rfl, hb, hp, hs⟩
            have Kv54 := Lib.hid (below_step Kv53.out hb)
            have PBm := Lib.hid hp
            have SBm := Lib.hid hs
            clear hp hs
            clear hb
            have Cm : Hid (Below v54.heap.size v54 v54) := Below.refl _ _
            go_wp2_with fail
            refine (put_any (HK.out _ Kv54.out) FL.out).mono ?_
            rintro e v55 ⟨Pl, ml, dl, bsl, rfl, hb, hp, hs⟩
            have Kv55 := Lib.hid (below_step Kv54.out hb)
            have Cm := Lib.hid (below_step Cm.out hb)
            have PBl := Lib.hid hp
            have SBl := Lib.hid hs
            clear hp hs
            clear hb
            have Cl : Hid (Below v55.heap.size v55 v55) := Below.refl _ _
            have HD := Lib.hid (ne_len (put_more PBl.out PBm.out))
            go_wp2_with fail
            refine (same_is HD.out (SBm.out.keep Cm.out.block) (SBl.out.keep Cl.out.block)).mono ?_
            rintro e v56 ⟨rfl, hb⟩
            have Kv56 := Lib.hid (below_step Kv55.out hb)
            have Cm := Lib.hid (below_step Cm.out hb)
            have Cl := Lib.hid (below_step Cl.out hb)
            clear hb
            go_wp2_with fail
            refine (aruns_any _).mono ?_
            rintro e v57 ⟨rfl, hb⟩
            have Kv57 := Lib.hid (below_step Kv56.out hb)
            have Cm := Lib.hid (below_step Cm.out hb)
            have Cl := Lib.hid (below_step Cl.out hb)
            clear hb
            go_wp2_with fail
            go_ret
            exact ⟨rfl, Kv57.out⟩
          subst h7
          clear hr7
          refine (tright_at HR7.out G7.out).mono ?_
          rintro e x51 ⟨rfl, hb⟩
          have Kx51 := Lib.hid (below_step K7.out hb)
          have G7' := Lib.hid (Gvs.keep G7.out (Kept.all hb _) (R' := fun _ => True) (fun _ _ _ => trivial))
          clear hb
          have F7 := Lib.hid (fits_set (v := ⟨vk, vm, ts⟩) HF.out HX.out HQ.out)
          go_wp2_with fail
          refine (put_any (G7'.out) F7.out).mono ?_
          rintro e x52 ⟨Pz, mz, dz, bsz, rfl, hb, hp, hs⟩
          have Kx52 := Lib.hid (below_step Kx51.out hb)
          have PBz := Lib.hid hp
          have SBz := Lib.hid hs
          clear hp hs
          clear hb
          have Cz : Hid (Below x52.heap.size x52 x52) := Below.refl _ _
          go_wp2_with fail
          refine (put_any (HK.out _ Kx52.out) FL.out).mono ?_
          rintro e x53 ⟨Pp, mp, dp, bsp, rfl, hb, hp, hs⟩
          have Kx53 := Lib.hid (below_step Kx52.out hb)
          have Cz := Lib.hid (below_step Cz.out hb)
          have PBp := Lib.hid hp
          have SBp := Lib.hid hs
          clear hp hs
          clear hb
          have Cp : Hid (Below x53.heap.size x53 x53) := Below.refl _ _
          have HD7 := Lib.hid (ne_len (put_longer HX.out PBp.out PBz.out))
          go_wp2_with fail
          refine (same_is HD7.out (SBz.out.keep Cz.out.block) (SBp.out.keep Cp.out.block)).mono ?_
          rintro e x54 ⟨rfl, hb⟩
          have Kx54 := Lib.hid (below_step Kx53.out hb)
          have Cz := Lib.hid (below_step Cz.out hb)
          have Cp := Lib.hid (below_step Cp.out hb)
          clear hb
          clear HD7 SBz SBp PBz PBp Cz Cp G7'
          go_wp2_with fail
          refine (asks_any (HK.out _ Kx54.out) FB.out (by omega)).mono ?_
          rintro e v55 ⟨A8, c8, rfl, hb, hg8⟩
          have Kv55 := Lib.hid (below_step Kx54.out hb)
          have G8 := Lib.hid hg8
          clear hg8
          clear hb
          obtain ⟨A9, c9, w9, r9, g9, b9⟩ := push_giv (w := v55) (g := moreG) G8.out moreG_ok (Rw.nil_ 3 _ _ _) (by omega)
          have R9 : Hid ((Builtin.append_ #[30, 30] 30 #[.slice A8 n c8, .slice (some ⟨v55.heap.size, 0, none⟩) 1 1]).run Try.prog (v55.alloc (.cells #[.int .i64 4, .string ⟨#[122, 122, 95, 122, 122, 95, 109, 111, 114, 101]⟩, .slice none 0 0] 48)) = .ok (.slice A9 (n + 1) c9) w9) := r9
          have G9 : Hid (Gvs w9 (fun _ => True) A9 (n + 1) c9 (l ++ [moreG])) := Gvs.keep (Gr.gvs g9 (by omega)) (Kept.refl _ _) (fun _ _ _ => trivial)
          have K9 := Lib.hid (Kv55.out.trans (b9.mono Kx54.out.size))
          clear r9 g9 b9
          obtain ⟨rr, hrr⟩ : ∃ r, rightA (l ++ [moreG]) = r := ⟨_, rfl⟩
          have HRR := Lib.hid hrr
          by_cases h9 : rr = 0
          rotate_left
          · have hne9 : (rr != 0) = true := by rw [bne_iff_ne]; exact h9
            clear hrr h9
            go_wp2_with (at_builtin; refine wpList_append_run (o := ⟨some 125, _, _, _, _, _⟩) rfl _ _ _ _ rfl rfl rfl R9.out ?_)
            refine (tright_at HRR.out (G9.out)).mono ?_
            rintro e v57 ⟨rfl, hb⟩
            have Kv57 := Lib.hid (below_step K9.out hb)
            clear hb
            go_wp2_with fail
            refine (aruns_any _).mono ?_
            rintro e v58 ⟨rfl, hb⟩
            have Kv58 := Lib.hid (below_step Kv57.out hb)
            clear hb
            go_wp2_with fail
            go_ret
            exact ⟨rfl, Kv58.out⟩
          subst h9
          clear hrr
          go_wp2_with (at_builtin; refine wpList_append_run (o := ⟨some 125, _, _, _, _, _⟩) rfl _ _ _ _ rfl rfl rfl R9.out ?_)
          refine (tright_at HRR.out (G9.out)).mono ?_
          rintro e v56 ⟨rfl, hb⟩
          have Kv56 := Lib.hid (below_step K9.out hb)
          have G9' := Lib.hid (Gvs.keep G9.out (Kept.all hb _) (R' := fun _ => True) (fun _ _ _ => trivial))
          clear hb
          go_wp2_with fail
          refine (put_any (G9'.out) FM.out).mono ?_
          rintro e v57 ⟨Pm, mm, dm, bsm, rfl, hb, hp, hs⟩
          have Kv57 := Lib.hid (below_step Kv56.out hb)
          have PBm := Lib.hid hp
          have SBm := Lib.hid hs
          clear hp hs
          clear hb
          have Cm : Hid (Below v57.heap.size v57 v57) := Below.refl _ _
          go_wp2_with fail
          refine (put_any (HK.out _ Kv57.out) FL.out).mono ?_
          rintro e v58 ⟨Pl, ml, dl, bsl, rfl, hb, hp, hs⟩
          have Kv58 := Lib.hid (below_step Kv57.out hb)
          have Cm := Lib.hid (below_step Cm.out hb)
          have PBl := Lib.hid hp
          have SBl := Lib.hid hs
          clear hp hs
          clear hb
          have Cl : Hid (Below v58.heap.size v58 v58) := Below.refl _ _
          have HD := Lib.hid (ne_len (put_more PBl.out PBm.out))
          go_wp2_with fail
          refine (same_is HD.out (SBm.out.keep Cm.out.block) (SBl.out.keep Cl.out.block)).mono ?_
          rintro e v59 ⟨rfl, hb⟩
          have Kv59 := Lib.hid (below_step Kv58.out hb)
          have Cm := Lib.hid (below_step Cm.out hb)
          have Cl := Lib.hid (below_step Cl.out hb)
          clear hb
          go_wp2_with fail
          refine (aruns_any _).mono ?_
          rintro e v60 ⟨rfl, hb⟩
          have Kv60 := Lib.hid (below_step Kv59.out hb)
          have Cm := Lib.hid (below_step Cm.out hb)
          have Cl := Lib.hid (below_step Cl.out hb)
          clear hb
          go_wp2_with fail
          go_ret
          exact ⟨rfl, Kv60.out⟩
      · go_simp
        have hb : Below y0.heap.size y0 (y0.alloc (.cells #[.int .i64 vk, .int .i64 vm, .string ts] 25)) := (Below.refl _ _).alloc (Nat.le_refl _) _
        have OV : Hid (Vls (y0.alloc (.cells #[.int .i64 vk, .int .i64 vm, .string ts] 25)) (fun _ => True) (some ⟨y0.heap.size, 0, none⟩) 1 1 [⟨vk, vm, ts⟩]) := vls_one y0 ⟨vk, vm, ts⟩ HAT.out
        have S := Lib.hid (S.out.trans (hb.mono S.out.size))
        refine hK _ _ S.out ?_
        clear hK K hb
        generalize hg : y0.alloc (.cells #[.int .i64 vk, .int .i64 vm, .string ts] 25) = y1 at *
        clear hg
        obtain ⟨gv, hgv⟩ : ∃ g, y0.heap.size = g := ⟨_, rfl⟩
        rw [hgv] at OV
        rw [hgv]
        have LT : Hid (gv < y1.heap.size) := by obtain ⟨b, o, x, e, _, hl, _⟩ := Vls.at_ OV.out (j := 0) (by omega); injection e with e; injection e with e1 e2; subst e1; exact hl
        refine HeadW_ready (rs := [2]) (by kernel_rfl) rfl rfl ?_
        refine AllW.cons rfl (fun K hK => ?_) AllW.nil
        go_simp
        have hb : Below y1.heap.size y1 (y1.alloc (.cells #[] 25)) := (Below.refl _ _).alloc (Nat.le_refl _) _
        have OE : Hid (Ob (y1.alloc (.cells #[] 25)) y1.heap.size 25 #[]) := Ob.made _ _ _
        have SE : Hid (v5.heap.size ≤ y1.heap.size) := S.out.size
        have OV := Lib.hid (Vls.keep OV.out (Kept.all hb _) (R' := fun _ => True) (fun _ _ _ => trivial))
        have S := Lib.hid (S.out.trans (hb.mono S.out.size))
        refine hK _ _ S.out ?_
        clear hK K hb
        generalize hg : y1.alloc (.cells #[] 25) = y2 at *
        clear hg
        obtain ⟨ge, hge⟩ : ∃ g, y1.heap.size = g := ⟨_, rfl⟩
        rw [hge] at OE SE LT
        rw [hge]
        have NE : Hid (∀ b o, (some ⟨gv, 0, none⟩ : Option Addr) = some ⟨b, o, none⟩ → b ≠ ge) := fun b o e => by injection e with e; injection e with e1 e2; have := LT.out; omega
        refine HeadW_ready (rs := [8]) (by kernel_rfl) rfl rfl ?_
        refine AllW.cons rfl (fun K hK => ?_) AllW.nil
        obtain ⟨A5, c5, y3, r5, b5, o5, g5, t5⟩ := bag_one (base := v5.heap.size) (g := ge) OE.out (Vls.keep HBAG.out (Kept.all S.out _) (R' := fun _ => True) (fun _ _ _ => trivial)) (by omega) SE.out S.out.size
        have R5 := Lib.hid r5
        have OO := Lib.hid o5
        have OV := Lib.hid (vls_grown OV.out g5 NE.out)
        have S := Lib.hid (S.out.trans b5)
        clear r5 b5 o5 g5 t5
        refine oper_append (.tmp 99) (.tmp 104) 45 45 rfl rfl rfl R5.out ?_
        refine hK _ _ S.out ?_
        clear hK K R5
        obtain ⟨A6, c6, w6, r6, o6, b6⟩ := bag_two (base := v5.heap.size) OO.out HAT.out OV.out (by omega) S.out.size
        have R6 := Lib.hid r6
        have O6 := Lib.hid o6
        have S6 := Lib.hid (S.out.trans b6)
        clear r6 o6 b6 S OO OV
        refine HeadW_ready (rs := [11]) (by kernel_rfl) rfl rfl ?_
        refine AllW.cons rfl (fun K hK => ?_) AllW.nil
        refine oper_append (.tmp 105) (.tmp 107) 45 45 rfl rfl rfl R6.out ?_
        refine hK _ _ S6.out ?_
        clear hK K
        intro _
        refine ⟨by kernel_rfl, ?_⟩
        simp only [List.drop_succ_cons, List.drop_zero]
        have HBO : Hid (∀ v ∈ x.bag ++ [⟨vk, vm, ts⟩], v.ok) := fun v hv => by rcases List.mem_append.1 hv with hv | hv; exact Vls.oks HBAG.out v hv; simp at hv; subst hv; exact HAT.out
        obtain ⟨bo, u2, hA, hbo, hbo2, q2, z2, hon, hgr⟩ := Gr.put_bag (bag := x.bag ++ [⟨vk, vm, ts⟩]) (Gr.below keeps_giv GO.out S6.out) HX.out (bag_nb GO.out O6.out (by rw [List.length_append, Rw.len HBAG.out]; rfl) (by omega) HBO.out)
        injection hA with hA
        injection hA with hA1 hA2
        subst hA1
        have K7 := Lib.hid ((below_step Kv5.out S6.out).setCell (p := ⟨b', kk * 3 + 2, none⟩) (Nat.le_trans KB.out hbo) (.slice A6 (mb + 1) c6))
        have G7 := Lib.hid (Gr.gvs hgr (by omega))
        have Q2 := Lib.hid q2
        have Z2 := Lib.hid z2
        clear hgr hon hbo hbo2
        go_wp2_with fail
        obtain ⟨w7, hw7⟩ : ∃ w7, w6.setCell ⟨b', kk * 3 + 2, none⟩ (.slice A6 (mb + 1) c6) = w7 := ⟨_, rfl⟩
        rw [hw7] at K7 G7
        rw [hw7]
        clear hw7 q2 z2 Q2 Z2 R6 O6 S6
        obtain ⟨r7, hr7⟩ : ∃ r, rightA (l.set kk { x with bag := x.bag ++ [⟨vk, vm, ts⟩] }) = r := ⟨_, rfl⟩
        have HR7 := Lib.hid hr7
        by_cases h7 : r7 = 0
        rotate_left
        · have hne7 : (r7 == 0) = false := by rw [beq_eq_false_iff_ne]; exact h7
          clear hr7 h7
          refine (tright_at HR7.out G7.out).mono ?_
          rintro e x51 ⟨rfl, hb⟩
          have Kx51 := Lib.hid (below_step K7.out hb)
          clear hb
          go_wp2_with fail
          refine (asks_any (HK.out _ Kx51.out) FB.out (by omega)).mono ?_
          rintro e v52 ⟨A8, c8, rfl, hb, hg8⟩
          have Kv52 := Lib.hid (below_step Kx51.out hb)
          have G8 := Lib.hid hg8
          clear hg8
          clear hb
          obtain ⟨A9, c9, w9, r9, g9, b9⟩ := push_giv (w := v52) (g := moreG) G8.out moreG_ok (Rw.nil_ 3 _ _ _) (by omega)
          have R9 : Hid ((Builtin.append_ #[30, 30] 30 #[.slice A8 n c8, .slice (some ⟨v52.heap.size, 0, none⟩) 1 1]).run Try.prog (v52.alloc (.cells #[.int .i64 4, .string ⟨#[122, 122, 95, 122, 122, 95, 109, 111, 114, 101]⟩, .slice none 0 0] 48)) = .ok (.slice A9 (n + 1) c9) w9) := r9
          have G9 : Hid (Gvs w9 (fun _ => True) A9 (n + 1) c9 (l ++ [moreG])) := Gvs.keep (Gr.gvs g9 (by omega)) (Kept.refl _ _) (fun _ _ _ => trivial)
          have K9 := Lib.hid (Kv52.out.trans (b9.mono Kx51.out.size))
          clear r9 g9 b9
          obtain ⟨rr, hrr⟩ : ∃ r, rightA (l ++ [moreG]) = r := ⟨_, rfl⟩
          have HRR := Lib.hid hrr
          by_cases h9 : rr = 0
          rotate_left
          · have hne9 : (rr != 0) = true := by rw [bne_iff_ne]; exact h9
            clear hrr h9
            go_wp2_with (at_builtin; refine wpList_append_run (o := ⟨some 125, _, _, _, _, _⟩) rfl _ _ _ _ rfl rfl rfl R9.out ?_)
            refine (tright_at HRR.out (G9.out)).mono ?_
            rintro e v54 ⟨rfl, hb⟩
            have Kv54 := Lib.hid (below_step K9.out hb)
            clear hb
            go_wp2_with fail
            refine (aruns_any _).mono ?_
            rintro e v55 ⟨rfl, hb⟩
            have Kv55 := Lib.hid (below_step Kv54.out hb)
            clear hb
            go_wp2_with fail
            go_ret
            exact ⟨rfl, Kv55.out⟩
          subst h9
          clear hrr
          go_wp2_with (at_builtin; refine wpList_append_run (o := ⟨some 125, _, _, _, _, _⟩) rfl _ _ _ _ rfl rfl rfl R9.out ?_)
          refine (tright_at HRR.out (G9.out)).mono ?_
          rintro e v53 ⟨rfl, hb⟩
          have Kv53 := Lib.hid (below_step K9.out hb)
          have G9' := Lib.hid (Gvs.keep G9.out (Kept.all hb _) (R' := fun _ => True) (fun _ _ _ => trivial))
          clear hb
          go_wp2_with fail
          refine (put_any (G9'.out) FM.out).mono ?_
          rintro e v54 ⟨Pm, mm, dm, bsm, rfl, hb, hp, hs⟩
          have Kv54 := Lib.hid (below_step Kv53.out hb)
          have PBm := Lib.hid hp
          have SBm := Lib.hid hs
          clear hp hs
          clear hb
          have Cm : Hid (Below v54.heap.size v54 v54) := Below.refl _ _
          go_wp2_with fail
          refine (put_any (HK.out _ Kv54.out) FL.out).mono ?_
          rintro e v55 ⟨Pl, ml, dl, bsl, rfl, hb, hp, hs⟩
          have Kv55 := Lib.hid (below_step Kv54.out hb)
          have Cm := Lib.hid (below_step Cm.out hb)
          have PBl := Lib.hid hp
          have SBl := Lib.hid hs
          clear hp hs
          clear hb
          have Cl : Hid (Below v55.heap.size v55 v55) := Below.refl _ _
          have HD := Lib.hid (ne_len (put_more PBl.out PBm.out))
          go_wp2_with fail
          refine (same_is HD.out (SBm.out.keep Cm.out.block) (SBl.out.keep Cl.out.block)).mono ?_
          rintro e v56 ⟨rfl, hb⟩
          have Kv56 := Lib.hid (below_step Kv55.out hb)
          have Cm := Lib.hid (below_step Cm.out hb)
          have Cl := Lib.hid (below_step Cl.out hb)
          clear hb
          go_wp2_with fail
          refine (aruns_any _).mono ?_
          rintro e v57 ⟨rfl, hb⟩
          have Kv57 := Lib.hid (below_step Kv56.out hb)
          have Cm := Lib.hid (below_step Cm.out hb)
          have Cl := Lib.hid (below_step Cl.out hb)
          clear hb
          go_wp2_with fail
          go_ret
          exact ⟨rfl, Kv57.out⟩
        subst h7
        clear hr7
        refine (tright_at HR7.out G7.out).mono ?_
        rintro e x51 ⟨rfl, hb⟩
        have Kx51 := Lib.hid (below_step K7.out hb)
        have G7' := Lib.hid (Gvs.keep G7.out (Kept.all hb _) (R' := fun _ => True) (fun _ _ _ => trivial))
        clear hb
        have F7 := Lib.hid (fits_set (v := ⟨vk, vm, ts⟩) HF.out HX.out HQ.out)
        go_wp2_with fail
        refine (put_any (G7'.out) F7.out).mono ?_
        rintro e x52 ⟨Pz, mz, dz, bsz, rfl, hb, hp, hs⟩
        have Kx52 := Lib.hid (below_step Kx51.out hb)
        have PBz := Lib.hid hp
        have SBz := Lib.hid hs
        clear hp hs
        clear hb
        have Cz : Hid (Below x52.heap.size x52 x52) := Below.refl _ _
        go_wp2_with fail
        refine (put_any (HK.out _ Kx52.out) FL.out).mono ?_
        rintro e x53 ⟨Pp, mp, dp, bsp, rfl, hb, hp, hs⟩
        have Kx53 := Lib.hid (below_step Kx52.out hb)
        have Cz := Lib.hid (below_step Cz.out hb)
        have PBp := Lib.hid hp
        have SBp := Lib.hid hs
        clear hp hs
        clear hb
        have Cp : Hid (Below x53.heap.size x53 x53) := Below.refl _ _
        have HD7 := Lib.hid (ne_len (put_longer HX.out PBp.out PBz.out))
        go_wp2_with fail
        refine (same_is HD7.out (SBz.out.keep Cz.out.block) (SBp.out.keep Cp.out.block)).mono ?_
        rintro e x54 ⟨rfl, hb⟩
        have Kx54 := Lib.hid (below_step Kx53.out hb)
        have Cz := Lib.hid (below_step Cz.out hb)
        have Cp := Lib.hid (below_step Cp.out hb)
        clear hb
        clear HD7 SBz SBp PBz PBp Cz Cp G7'
        go_wp2_with fail
        refine (asks_any (HK.out _ Kx54.out) FB.out (by omega)).mono ?_
        rintro e v55 ⟨A8, c8, rfl, hb, hg8⟩
        have Kv55 := Lib.hid (below_step Kx54.out hb)
        have G8 := Lib.hid hg8
        clear hg8
        clear hb
        obtain ⟨A9, c9, w9, r9, g9, b9⟩ := push_giv (w := v55) (g := moreG) G8.out moreG_ok (Rw.nil_ 3 _ _ _) (by omega)
        have R9 : Hid ((Builtin.append_ #[30, 30] 30 #[.slice A8 n c8, .slice (some ⟨v55.heap.size, 0, none⟩) 1 1]).run Try.prog (v55.alloc (.cells #[.int .i64 4, .string ⟨#[122, 122, 95, 122, 122, 95, 109, 111, 114, 101]⟩, .slice none 0 0] 48)) = .ok (.slice A9 (n + 1) c9) w9) := r9
        have G9 : Hid (Gvs w9 (fun _ => True) A9 (n + 1) c9 (l ++ [moreG])) := Gvs.keep (Gr.gvs g9 (by omega)) (Kept.refl _ _) (fun _ _ _ => trivial)
        have K9 := Lib.hid (Kv55.out.trans (b9.mono Kx54.out.size))
        clear r9 g9 b9
        obtain ⟨rr, hrr⟩ : ∃ r, rightA (l ++ [moreG]) = r := ⟨_, rfl⟩
        have HRR := Lib.hid hrr
        by_cases h9 : rr = 0
        rotate_left
        · have hne9 : (rr != 0) = true := by rw [bne_iff_ne]; exact h9
          clear hrr h9
          go_wp2_with (at_builtin; refine wpList_append_run (o := ⟨some 125, _, _, _, _, _⟩) rfl _ _ _ _ rfl rfl rfl R9.out ?_)
          refine (tright_at HRR.out (G9.out)).mono ?_
          rintro e v57 ⟨rfl, hb⟩
          have Kv57 := Lib.hid (below_step K9.out hb)
          clear hb
          go_wp2_with fail
          refine (aruns_any _).mono ?_
          rintro e v58 ⟨rfl, hb⟩
          have Kv58 := Lib.hid (below_step Kv57.out hb)
          clear hb
          go_wp2_with fail
          go_ret
          exact ⟨rfl, Kv58.out⟩
        subst h9
        clear hrr
        go_wp2_with (at_builtin; refine wpList_append_run (o := ⟨some 125, _, _, _, _, _⟩) rfl _ _ _ _ rfl rfl rfl R9.out ?_)
        refine (tright_at HRR.out (G9.out)).mono ?_
        rintro e v56 ⟨rfl, hb⟩
        have Kv56 := Lib.hid (below_step K9.out hb)
        have G9' := Lib.hid (Gvs.keep G9.out (Kept.all hb _) (R' := fun _ => True) (fun _ _ _ => trivial))
        clear hb
        go_wp2_with fail
        refine (put_any (G9'.out) FM.out).mono ?_
        rintro e v57 ⟨Pm, mm, dm, bsm, rfl, hb, hp, hs⟩
        have Kv57 := Lib.hid (below_step Kv56.out hb)
        have PBm := Lib.hid hp
        have SBm := Lib.hid hs
        clear hp hs
        clear hb
        have Cm : Hid (Below v57.heap.size v57 v57) := Below.refl _ _
        go_wp2_with fail
        refine (put_any (HK.out _ Kv57.out) FL.out).mono ?_
        rintro e v58 ⟨Pl, ml, dl, bsl, rfl, hb, hp, hs⟩
        have Kv58 := Lib.hid (below_step Kv57.out hb)
        have Cm := Lib.hid (below_step Cm.out hb)
        have PBl := Lib.hid hp
        have SBl := Lib.hid hs
        clear hp hs
        clear hb
        have Cl : Hid (Below v58.heap.size v58 v58) := Below.refl _ _
        have HD := Lib.hid (ne_len (put_more PBl.out PBm.out))
        go_wp2_with fail
        refine (same_is HD.out (SBm.out.keep Cm.out.block) (SBl.out.keep Cl.out.block)).mono ?_
        rintro e v59 ⟨rfl, hb⟩
        have Kv59 := Lib.hid (below_step Kv58.out hb)
        have Cm := Lib.hid (below_step Cm.out hb)
        have Cl := Lib.hid (below_step Cl.out hb)
        clear hb
        go_wp2_with fail
        refine (aruns_any _).mono ?_
        rintro e v60 ⟨rfl, hb⟩
        have Kv60 := Lib.hid (below_step Kv59.out hb)
        have Cm := Lib.hid (below_step Cm.out hb)
        have Cl := Lib.hid (below_step Cl.out hb)
        clear hb
        go_wp2_with fail
        go_ret
        exact ⟨rfl, Kv60.out⟩
end Go.Proofs.Ytjpkemamfccfdaa
