/- PolicyObls: the walk. -/
import Derived.Test.YtacfmabflmjalaaOpenPol
import Derived.Test.YtacfmabflmjalaaPolApp
import Derived.Test.YtacfmabflmjalaaPolRuns
import Derived.Test.YtacfmabflmjalaaWithin
import Derived.Lib.MinMax
namespace Go.Proofs.Ytacfmabflmjalaa
set_option linter.unusedVariables false
open Go.RowKit

theorem firstE_app {α : Type} (f : α → Int) : ∀ (l m : List α), firstE f (l ++ m) = if firstE f l ≠ 0 then firstE f l else firstE f m
  | [], m => by simp [firstE]
  | x :: l, m => by
    simp only [List.cons_append, firstE]
    by_cases h : f x = 0
    · simp only [h, ne_eq, not_true, if_false]
      exact firstE_app f l m
    · simp [h]
theorem obE_zero {l : List Dut} (h : obE l = 0) : l.length ≤ 8 ∧ firstE dutE l = 0 := by
  unfold obE at h
  split at h
  · cases h
  · exact ⟨by omega, h⟩
theorem obE_both {l m : List Dut} (h1 : obE l = 0) (h2 : obE m = 0) : obE (l ++ m) = if 8 < l.length + m.length then 6 else 0 := by
  unfold obE
  rw [List.length_append, firstE_app, (obE_zero h1).2, (obE_zero h2).2]
  simp
theorem obE_bad {k : Int} (h : 3 ≤ k) : obE [⟨k, 1, ⟨#[120]⟩⟩] = 1 := by
  have h1 : ¬ (k = 1 ∨ k = 2) := by omega
  simp [obE, firstE, dutE, h1]
theorem obE_other {k : Int} (h : 5 ≤ k) : obE [⟨1, k, ⟨#[120]⟩⟩] = 1 := by
  have h1 : ¬ (k ≤ 4) := by omega
  simp [obE, firstE, dutE, h1]

theorem ok_bad {j : Int} (h : 0 ≤ j ∧ j ≤ 9) : ∀ x ∈ ([⟨3 + j, 1, ⟨#[120]⟩⟩] : List Dut), x.ok := by
  intro x hx
  simp at hx
  subst hx
  exact ⟨by unfold InI; simp only; omega, (by decide : InI 1), (by decide +kernel : (⟨#[120]⟩ : ByteArray).size ≤ maxLen)⟩
theorem ok_other {j : Int} (h : 0 ≤ j ∧ j ≤ 9) : ∀ x ∈ ([⟨1, 5 + j, ⟨#[120]⟩⟩] : List Dut), x.ok := by
  intro x hx
  simp at hx
  subst hx
  exact ⟨(by decide : InI 1), by unfold InI; simp only; omega, (by decide +kernel : (⟨#[120]⟩ : ByteArray).size ≤ maxLen)⟩
theorem call_obls {w : World} {A : Option Addr} {n c : Nat} {l : List Dut} {r : Int} (hr : obE l = r) (h : Dus w (fun _ => True) A n c l) (V : World) (hV : Below w.heap.size w V) :
    Calls Try.prog 19 #[.slice A n c] V fun e w' => e = .returned (.int .i64 r) ∧ Below V.heap.size V w' := by
  have := obls_any V (h.keep (Kept.all hV _) (fun _ h _ => h))
  rwa [hr] at this
theorem oth_row (w : World) {j : Int} (h : 0 ≤ j ∧ j ≤ 9) : Dus (w.alloc (.cells #[.int .i64 1, .int .i64 (5 + j), .string ⟨#[120]⟩] 62)) (fun _ => True) (some ⟨w.heap.size, 0, none⟩) 1 1 [⟨1, 5 + j, ⟨#[120]⟩⟩] :=
  Dus.lit w (R := fun _ => True) [⟨1, 5 + j, ⟨#[120]⟩⟩] (n := 1) rfl (by omega) trivial (ok_other h)
set_option maxRecDepth 100000 in
set_option maxHeartbeats 6400000 in
theorem policyObls_walk (W : World) (A0 : Option Addr) (n0 c0 : Nat) (h0 : ∃ l, Dus W (fun _ => True) A0 n0 c0 l) (A1 : Option Addr) (n1 c1 : Nat) (h1 : ∃ l, Dus W (fun _ => True) A1 n1 c1 l) (k : Int) (hk : (Lit.int .i64 k).wf = true) :
    Calls Try.prog 10 #[.slice A0 n0 c0, .slice A1 n1 c1, .int .i64 k] W fun e w' => e = .returned (.bool true) ∧ Below W.heap.size W w' := by
  obtain ⟨l0, h0⟩ := h0
  obtain ⟨l1, h1⟩ := h1
  have b0 := Rw.le h0
  have b1 := Rw.le h1
  have m0 := Rw.cap h0
  have m1 := Rw.cap h1
  unfold maxLen at m0 m1
  have x0 : (0 : Int) ≤ min (n0 : Int) 20 := by omega
  have x1 : (0 : Int) ≤ min (n1 : Int) 20 := by omega
  have y0 : min (n0 : Int) 20 ≤ (c0 : Int) := by omega
  have y1 : min (n1 : Int) 20 ≤ (c1 : Int) := by omega
  have H0 := Lib.hid h0
  have H1 := Lib.hid h1
  clear hk h0 h1
  go_enter Try.func10, Try.ntmps10
  go_wp2_with fail
  go_quiet (fail)
  have T0 : Hid (Dus (W.drewN nq) (fun _ => True) A0 (min (n0 : Int) 20).toNat c0 (l0.take (min (n0 : Int) 20).toNat)) := (H0.out.keep ⟨Nat.le_refl _, fun _ _ _ => rfl⟩ (fun _ h _ => h)).take (by omega)
  have T1 : Hid (Dus (W.drewN nq) (fun _ => True) A1 (min (n1 : Int) 20).toNat c1 (l1.take (min (n1 : Int) 20).toNat)) := (H1.out.keep ⟨Nat.le_refl _, fun _ _ _ => rfl⟩ (fun _ h _ => h)).take (by omega)
  have D1 : Hid (Below W.heap.size W (W.drewN nq)) := below_drewN (Below.refl _ _) nq
  have S0 : Hid ((min (n0 : Int) 20).toNat ≤ 20 ∧ (min (n1 : Int) 20).toNat ≤ 20) := ⟨by omega, by omega⟩
  have LL : Hid ((l0.take (min (n0 : Int) 20).toNat).length = (min (n0 : Int) 20).toNat ∧ (l1.take (min (n1 : Int) 20).toNat).length = (min (n1 : Int) 20).toNat) := ⟨Rw.len T0.out, Rw.len T1.out⟩
  clear x0 x1 y0 y1 H0 H1 b0 b1
  generalize min (n0 : Int) 20 = z0 at *
  generalize min (n1 : Int) 20 = z1 at *
  generalize z0.toNat = p0 at *
  generalize z1.toNat = p1 at *
  generalize l0.take p0 = L0 at *
  generalize l1.take p1 = L1 at *
  generalize W.drewN nq = w1 at *
  have HR := Lib.hid pruns_any
  by_cases e0 : obE L0 = 0
  · by_cases e1 : obE L1 = 0
    · have C0 : Hid (∀ V, Below w1.heap.size w1 V → Calls Try.prog 19 #[.slice A0 p0 c0] V fun e w' => e = .returned (.int .i64 0) ∧ Below V.heap.size V w') := fun V hV => by
        have := obls_any V (T0.out.keep (Kept.all hV _) (fun _ h _ => h)); rwa [e0] at this
      have C1 : Hid (∀ V, Below w1.heap.size w1 V → Calls Try.prog 19 #[.slice A1 p1 c1] V fun e w' => e = .returned (.int .i64 0) ∧ Below V.heap.size V w') := fun V hV => by
        have := obls_any V (T1.out.keep (Kept.all hV _) (fun _ h _ => h)); rwa [e1] at this
      have CN : Hid (∀ V : World, Calls Try.prog 19 #[.slice none 0 0] V fun e w' => e = .returned (.int .i64 0) ∧ Below V.heap.size V w') := fun V => obls_any (R := fun _ => True) V (Rw.nil_ _ _ _ _)
      have HB := Lib.hid (obE_both e0 e1)
      obtain ⟨q, hq⟩ : ∃ q, q = p0 + p1 := ⟨_, rfl⟩
      have HQ := Lib.hid hq
      obtain ⟨j, hj⟩ : ∃ j, j = withinOf k 0 9 := ⟨_, rfl⟩
      have hj2 : 0 ≤ j ∧ j ≤ 9 := hj ▸ within_le (by omega)
      have HJ := Lib.hid hj
      have WI : Hid (∀ V : World, Calls Try.prog 25 #[.int .i64 k, .int .i64 0, .int .i64 9] V fun e w' => e = .returned (.int .i64 j) ∧ V = w') := fun V => by
        have := within_any (n := k) (lo := 0) (hi := 9) (w := V) (by omega) (by omega) (by omega)
        rwa [← HJ.out] at this
      have HPQ : Hid (p0 + p1 ≤ 1000000) := by
        show p0 + p1 ≤ 1000000
        have := S0.out
        omega
      have HJ2 := Lib.hid hj2
      have OKO : Hid (∀ x ∈ ([⟨1, 5 + j, ⟨#[120]⟩⟩] : List Dut), x.ok) := ok_other hj2
      have HD' : Hid (obE [⟨3 + j, 1, ⟨#[120]⟩⟩] = 1) := obE_bad (by omega)
      have HO' : Hid (obE [⟨1, 5 + j, ⟨#[120]⟩⟩] = 1) := obE_other (by omega)
      have OKB : Hid ((⟨3 + j, 1, ⟨#[120]⟩⟩ : Dut).ok) := ok_bad hj2 _ (by simp)
      clear e0 e1 hq hj
      by_cases h8 : 8 < q
      · have h8' : (8 : Int) < (q : Int) := by omega
        have HB' : Hid (obE (L0 ++ L1) = 6) := by
          show obE (L0 ++ L1) = 6
          rw [HB.out, LL.out.1, LL.out.2, ← HQ.out, if_pos h8]
        go_wp2_with (first
          | (go_at_call 19; with_reducible refine (C0.out _ (Below.refl _ _)).mono ?_; rintro e w2 ⟨rfl, hb2⟩; have B2 := Lib.hid hb2; clear hb2)
          | (go_at_call 19; with_reducible refine (C1.out _ B2.out).mono ?_; rintro e w3 ⟨rfl, hb3⟩; have B3 := Lib.hid hb3; clear hb3; obtain ⟨A5, c5, w5, A6, c6, w6, r5, r6, e6, hboth, _⟩ := both_dus (T0.out.keep (Kept.all (below_step B2.out B3.out) _) (fun _ h _ => h)) (T1.out.keep (Kept.all (below_step B2.out B3.out) _) (fun _ h _ => h)) HPQ.out HQ.out; have R5 := Lib.hid r5; have R6 := Lib.hid r6; have E6 := Lib.hid e6; have BOTH := Lib.hid hboth; obtain ⟨A7, c7, w7, r7, e7, hbad⟩ := both_dus_one (w := w6) ⟨3 + j, 1, ⟨#[120]⟩⟩ OKB.out; have R7 := Lib.hid r7; have E7 := Lib.hid e7; have BAD := Lib.hid hbad; have oth := oth_row w7 HJ2.out; have CB := Lib.hid (call_obls HB'.out (hboth.keep (Kept.all e7 _) (fun _ h _ => h))); have CD := Lib.hid (call_obls HD'.out hbad); have CO := Lib.hid (call_obls HO'.out oth); have F0 := Lib.hid ((Below.refl _ w7).alloc (Nat.le_refl _) (.cells #[.int .i64 1, .int .i64 (5 + j), .string ⟨#[120]⟩] 62)); clear r5 r6 e6 hboth r7 e7 hbad oth)
          | (at_builtin; refine wpList_append_run (o := ⟨some 32, _, _, _, _, _⟩) rfl _ _ _ _ rfl rfl rfl R5.out ?_)
          | (at_builtin; refine wpList_append_run (o := ⟨some 34, _, _, _, _, _⟩) rfl _ _ _ _ rfl rfl rfl R6.out ?_)
          | (at_builtin; refine wpList_append_run (o := ⟨some 41, _, _, _, _, _⟩) rfl _ _ _ _ rfl rfl rfl R7.out ?_)
          | (go_at_call 25; refine (WI.out _).mono ?_; rintro e v6 ⟨rfl, rfl⟩)
          | (go_at_call 19; with_reducible refine (CB.out _ F0.out).mono ?_; rintro e v8 ⟨rfl, hb8⟩; have F8 := Lib.hid hb8; clear hb8)
          | (go_at_call 19; with_reducible refine (CD.out _ (below_step F0.out F8.out)).mono ?_; rintro e v9 ⟨rfl, hb9⟩; have F9 := Lib.hid (below_step F8.out hb9); clear hb9)
          | (go_at_call 19; with_reducible refine (CO.out _ F9.out).mono ?_; rintro e v10 ⟨rfl, hb10⟩; have F10 := Lib.hid (below_step F9.out hb10); clear hb10)
          | (go_at_call 19; with_reducible refine (CN.out _).mono ?_; rintro e v11 ⟨rfl, hb11⟩; have F11 := Lib.hid (below_step F10.out hb11); clear hb11)
          | (go_at_call 3; refine (HR.out _).mono ?_; rintro e v12 ⟨rfl, hb12⟩; have F12 := Lib.hid (below_step F11.out hb12); clear hb12))
        go_ret
        exact ⟨rfl, below_step D1.out (below_step (below_step B2.out B3.out) (below_step E6.out (below_step E7.out (below_step F0.out F12.out))))⟩
      · have h8' : ¬ (8 : Int) < (q : Int) := by omega
        have HB' : Hid (obE (L0 ++ L1) = 0) := by
          show obE (L0 ++ L1) = 0
          rw [HB.out, LL.out.1, LL.out.2, ← HQ.out, if_neg h8]
        go_wp2_with (first
          | (go_at_call 19; with_reducible refine (C0.out _ (Below.refl _ _)).mono ?_; rintro e w2 ⟨rfl, hb2⟩; have B2 := Lib.hid hb2; clear hb2)
          | (go_at_call 19; with_reducible refine (C1.out _ B2.out).mono ?_; rintro e w3 ⟨rfl, hb3⟩; have B3 := Lib.hid hb3; clear hb3; obtain ⟨A5, c5, w5, A6, c6, w6, r5, r6, e6, hboth, _⟩ := both_dus (T0.out.keep (Kept.all (below_step B2.out B3.out) _) (fun _ h _ => h)) (T1.out.keep (Kept.all (below_step B2.out B3.out) _) (fun _ h _ => h)) HPQ.out HQ.out; have R5 := Lib.hid r5; have R6 := Lib.hid r6; have E6 := Lib.hid e6; have BOTH := Lib.hid hboth; obtain ⟨A7, c7, w7, r7, e7, hbad⟩ := both_dus_one (w := w6) ⟨3 + j, 1, ⟨#[120]⟩⟩ OKB.out; have R7 := Lib.hid r7; have E7 := Lib.hid e7; have BAD := Lib.hid hbad; have oth := oth_row w7 HJ2.out; have CB := Lib.hid (call_obls HB'.out (hboth.keep (Kept.all e7 _) (fun _ h _ => h))); have CD := Lib.hid (call_obls HD'.out hbad); have CO := Lib.hid (call_obls HO'.out oth); have F0 := Lib.hid ((Below.refl _ w7).alloc (Nat.le_refl _) (.cells #[.int .i64 1, .int .i64 (5 + j), .string ⟨#[120]⟩] 62)); clear r5 r6 e6 hboth r7 e7 hbad oth)
          | (at_builtin; refine wpList_append_run (o := ⟨some 32, _, _, _, _, _⟩) rfl _ _ _ _ rfl rfl rfl R5.out ?_)
          | (at_builtin; refine wpList_append_run (o := ⟨some 34, _, _, _, _, _⟩) rfl _ _ _ _ rfl rfl rfl R6.out ?_)
          | (at_builtin; refine wpList_append_run (o := ⟨some 41, _, _, _, _, _⟩) rfl _ _ _ _ rfl rfl rfl R7.out ?_)
          | (go_at_call 25; refine (WI.out _).mono ?_; rintro e v6 ⟨rfl, rfl⟩)
          | (go_at_call 19; with_reducible refine (CB.out _ F0.out).mono ?_; rintro e v8 ⟨rfl, hb8⟩; have F8 := Lib.hid hb8; clear hb8)
          | (go_at_call 19; with_reducible refine (CD.out _ (below_step F0.out F8.out)).mono ?_; rintro e v9 ⟨rfl, hb9⟩; have F9 := Lib.hid (below_step F8.out hb9); clear hb9)
          | (go_at_call 19; with_reducible refine (CO.out _ F9.out).mono ?_; rintro e v10 ⟨rfl, hb10⟩; have F10 := Lib.hid (below_step F9.out hb10); clear hb10)
          | (go_at_call 19; with_reducible refine (CN.out _).mono ?_; rintro e v11 ⟨rfl, hb11⟩; have F11 := Lib.hid (below_step F10.out hb11); clear hb11)
          | (go_at_call 3; refine (HR.out _).mono ?_; rintro e v12 ⟨rfl, hb12⟩; have F12 := Lib.hid (below_step F11.out hb12); clear hb12))
        go_ret
        exact ⟨rfl, below_step D1.out (below_step (below_step B2.out B3.out) (below_step E6.out (below_step E7.out (below_step F0.out F12.out))))⟩
    · have C0 : Hid (∀ V, Below w1.heap.size w1 V → Calls Try.prog 19 #[.slice A0 p0 c0] V fun e w' => e = .returned (.int .i64 0) ∧ Below V.heap.size V w') := fun V hV => by
        have := obls_any V (T0.out.keep (Kept.all hV _) (fun _ h _ => h)); rwa [e0] at this
      obtain ⟨r, hr⟩ : ∃ r, r = obE L1 := ⟨_, rfl⟩
      have C1 : Hid (∀ V, Below w1.heap.size w1 V → Calls Try.prog 19 #[.slice A1 p1 c1] V fun e w' => e = .returned (.int .i64 r) ∧ Below V.heap.size V w') := fun V hV => by
        have := obls_any V (T1.out.keep (Kept.all hV _) (fun _ h _ => h)); rwa [← hr] at this
      rw [← hr] at e1
      have hne : (r != 0) = true := by simpa using e1
      clear e0 e1 hr
      go_wp2_with (first
        | (go_at_call 19; with_reducible refine (C0.out _ (Below.refl _ _)).mono ?_; rintro e w2 ⟨rfl, hb2⟩; have B2 := Lib.hid hb2; clear hb2)
        | (go_at_call 19; with_reducible refine (C1.out _ B2.out).mono ?_; rintro e w3 ⟨rfl, hb3⟩; have B3 := Lib.hid hb3; clear hb3)
        | (go_at_call 3; refine (HR.out _).mono ?_; rintro e w4 ⟨rfl, hb4⟩; have B4 := Lib.hid hb4; clear hb4))
      go_ret
      exact ⟨rfl, below_step D1.out (below_step B2.out (below_step B3.out B4.out))⟩
  · obtain ⟨r, hr⟩ : ∃ r, r = obE L0 := ⟨_, rfl⟩
    have C0 : Hid (∀ V, Below w1.heap.size w1 V → Calls Try.prog 19 #[.slice A0 p0 c0] V fun e w' => e = .returned (.int .i64 r) ∧ Below V.heap.size V w') := fun V hV => by
      have := obls_any V (T0.out.keep (Kept.all hV _) (fun _ h _ => h)); rwa [← hr] at this
    rw [← hr] at e0
    have hne : (r != 0) = true := by simpa using e0
    clear e0 hr
    go_wp2_with (first
      | (go_at_call 19; with_reducible refine (C0.out _ (Below.refl _ _)).mono ?_; rintro e w2 ⟨rfl, hb2⟩; have B2 := Lib.hid hb2; clear hb2)
      | (go_at_call 3; refine (HR.out _).mono ?_; rintro e w4 ⟨rfl, hb4⟩; have B4 := Lib.hid hb4; clear hb4))
    go_ret
    exact ⟨rfl, below_step D1.out (below_step B2.out B4.out)⟩
end Go.Proofs.Ytacfmabflmjalaa
