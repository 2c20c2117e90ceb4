/- The law EvalSets. -/
import Derived.Test.YtmoglaknmlhpgaaGreatEvalSet
import Derived.IntWalk
namespace Go.Proofs.YtmoglaknmlhpgaaGreat
set_option linter.unusedVariables false
open Go.RowKit
attribute [local go_sem] eq0 feq2 eq4 fgt0 gt2 ord_eq ord_gt ord_lt ev_store

theorem evalg (n : Int) : ∃ a : Fin 6, withinOf n 0 5 = (a.val : Int) ∧ 1 + (a.val : Int) = algN a := by
  have h := within_le (n := n) (lo := 0) (hi := 5) (by omega)
  exact ⟨⟨(withinOf n 0 5).toNat, by omega⟩, by simp only; omega, rfl⟩
theorem around_in {W V : World} {p : Pol} {A1 A2 A3 A4 : Option Addr} {n1 k1 n2 k2 n3 k3 n4 k4 : Nat} (h : PolIn W (fun _ => True) p A1 n1 k1 A2 n2 k2 A3 n3 k3 A4 n4 k4) (id : ByteArray) (hid : id.size ≤ maxLen) {k : Int} (hk : InI k) {U : World} (hU : Below W.heap.size W U) (hV : Below (U.alloc (.cells #[.string p.id, .bool p.set, .int .i64 p.alg, .slice A1 n1 k1, .slice A2 n2 k2, .slice A3 n3 k3, .slice A4 n4 k4] 28)).heap.size (U.alloc (.cells #[.string p.id, .bool p.set, .int .i64 p.alg, .slice A1 n1 k1, .slice A2 n2 k2, .slice A3 n3 k3, .slice A4 n4 k4] 28)) V) :
    PolIn V (fun _ => True) (around id k p) none 0 0 none 0 0 (some ⟨U.heap.size, 0, none⟩) 1 1 none 0 0 := by
  have a1 : Below U.heap.size U (U.alloc (.cells #[.string p.id, .bool p.set, .int .i64 p.alg, .slice A1 n1 k1, .slice A2 n2 k2, .slice A3 n3 k3, .slice A4 n4 k4] 28)) := (Below.refl _ _).alloc (Nat.le_refl _) _
  obtain ⟨⟨h0, h00⟩, h1, h2, ⟨m, h3⟩, h4⟩ := h.then_ (below_step hU a1)
  have hr := Rw.lit (k := 7) (P := PolAt (U.alloc (.cells #[.string p.id, .bool p.set, .int .i64 p.alg, .slice A1 n1 k1, .slice A2 n2 k2, .slice A3 n3 k3, .slice A4 n4 k4] 28)) (fun _ => True) (m + 1)) (R := fun _ => True) U 28 (fun _ => [.string p.id, .bool p.set, .int .i64 p.alg, .slice A1 n1 k1, .slice A2 n2 k2, .slice A3 n3 k3, .slice A4 n4 k4]) [p] (n := 1) rfl (by omega) trivial (fun _ _ => rfl) (fun x hx => by
    simp at hx
    subst hx
    exact ⟨A1, n1, k1, A2, n2, k2, A3, n3, k3, A4, n4, k4, rfl, h0, h00, h1, h2, h3, h4⟩)
  have hp : Pls (U.alloc (.cells #[.string p.id, .bool p.set, .int .i64 p.alg, .slice A1 n1 k1, .slice A2 n2 k2, .slice A3 n3 k3, .slice A4 n4 k4] 28)) (fun _ => True) (m + 1) (some ⟨U.heap.size, 0, none⟩) 1 1 [p] := hr
  exact ⟨⟨hid, hk⟩, Rw.nil_ _ _ _ _, Rw.nil_ _ _ _ _, ⟨m + 1, hp.keep (Kept.all hV _) (fun _ h _ => h)⟩, Rw.nil_ _ _ _ _⟩

set_option maxRecDepth 100000 in
set_option maxHeartbeats 12800000 in
theorem evalSets_walk (W : World) (p : Pol) {A1 : Option Addr} {n1 k1 : Nat} {A2 : Option Addr} {n2 k2 : Nat} {A3 : Option Addr} {n3 k3 : Nat} {A4 : Option Addr} {n4 k4 : Nat} (h : PolIn W (fun _ => True) p A1 n1 k1 A2 n2 k2 A3 n3 k3 A4 n4 k4)
    (A5 : Option Addr) (n5 k5 : Nat) (h5 : ∃ l, Gvs W (fun _ => True) A5 n5 k5 l) (n : Int) (hn : (Lit.int IntKind.i64 n).wf = true) :
    Calls Tryz.prog 5 #[.agg #[.string p.id, .bool p.set, .int .i64 p.alg, .slice A1 n1 k1, .slice A2 n2 k2, .slice A3 n3 k3, .slice A4 n4 k4], .slice A5 n5 k5, .int .i64 n] W fun e w' => e = .returned (.bool true) ∧ Below W.heap.size W w' := by
  obtain ⟨a, ha, hk⟩ := evalg n
  obtain ⟨ask, hg⟩ := h5
  obtain ⟨m, hpl, hsm⟩ := evsmall h
  have hwi := fun w => within_any (n := n) (lo := 0) (hi := 5) (w := w) (by omega) (by omega) (by omega)
  rw [ha] at hwi
  have WI := Lib.hid hwi
  have hki : InI (algN a) := by obtain ⟨_, e⟩ | ⟨_, e⟩ | ⟨_, e⟩ | ⟨_, e⟩ | ⟨_, e⟩ | ⟨_, e⟩ := alg6 a <;> rw [e] <;> decide
  have hav : 0 ≤ (a.val : Int) ∧ (a.val : Int) ≤ 5 := by have := a.isLt; omega
  obtain ⟨kk, hkk⟩ : ∃ kk, kk = algN a := ⟨_, rfl⟩
  have hsum : 1 + (a.val : Int) = kk := by rw [hk, hkk]
  have hwr : IntKind.i64.wrap (1 + (a.val : Int)) = kk := by rw [hsum]; exact IntWalk.i64_in kk (by omega)
  have SM := Lib.hid hsm
  have FE := Lib.hid (fun (b : Bool) (hb : decide (fewC ask ≤ 1200) = b) => evfew (w := W) hg hb)
  have b1 : Below W.heap.size W (W.alloc (.cells #[.string p.id, .bool p.set, .int .i64 p.alg, .slice A1 n1 k1, .slice A2 n2 k2, .slice A3 n3 k3, .slice A4 n4 k4] 28)) := (Below.refl W.heap.size W).alloc (Nat.le_refl _) (.cells #[.string p.id, .bool p.set, .int .i64 p.alg, .slice A1 n1 k1, .slice A2 n2 k2, .slice A3 n3 k3, .slice A4 n4 k4] 28)
  have b2 := b1.alloc (by rw [size_al]; omega) (.cells #[.string p.id, .bool p.set, .int .i64 p.alg, .slice A1 n1 k1, .slice A2 n2 k2, .slice A3 n3 k3, .slice A4 n4 k4] 28)
  have b3 := b2.alloc (by simp only [size_al]; omega) (.cells #[.string ⟨#[122, 122, 95, 97, 114, 111, 117, 110, 100]⟩, .bool true, .int .i64 kk, .slice none 0 0, .slice none 0 0, .slice (some ⟨W.heap.size + 1, 0, none⟩) 1 1, .slice none 0 0] 28)
  have op1 := (Ob.made W 28 #[.string p.id, .bool p.set, .int .i64 p.alg, .slice A1 n1 k1, .slice A2 n2 k2, .slice A3 n3 k3, .slice A4 n4 k4]).keep (w' := ((W.alloc (.cells #[.string p.id, .bool p.set, .int .i64 p.alg, .slice A1 n1 k1, .slice A2 n2 k2, .slice A3 n3 k3, .slice A4 n4 k4] 28)).alloc (.cells #[.string p.id, .bool p.set, .int .i64 p.alg, .slice A1 n1 k1, .slice A2 n2 k2, .slice A3 n3 k3, .slice A4 n4 k4] 28))) (Below.heap_alloc _ _ _ (by rw [size_al]; omega))
  have op2 := op1.keep (w' := (((W.alloc (.cells #[.string p.id, .bool p.set, .int .i64 p.alg, .slice A1 n1 k1, .slice A2 n2 k2, .slice A3 n3 k3, .slice A4 n4 k4] 28)).alloc (.cells #[.string p.id, .bool p.set, .int .i64 p.alg, .slice A1 n1 k1, .slice A2 n2 k2, .slice A3 n3 k3, .slice A4 n4 k4] 28)).alloc (.cells #[.string ⟨#[122, 122, 95, 97, 114, 111, 117, 110, 100]⟩, .bool true, .int .i64 kk, .slice none 0 0, .slice none 0 0, .slice (some ⟨W.heap.size + 1, 0, none⟩) 1 1, .slice none 0 0] 28))) (Below.heap_alloc _ _ _ op1.lt)
  have OP := Lib.hid op2
  have os := Ob.made ((W.alloc (.cells #[.string p.id, .bool p.set, .int .i64 p.alg, .slice A1 n1 k1, .slice A2 n2 k2, .slice A3 n3 k3, .slice A4 n4 k4] 28)).alloc (.cells #[.string p.id, .bool p.set, .int .i64 p.alg, .slice A1 n1 k1, .slice A2 n2 k2, .slice A3 n3 k3, .slice A4 n4 k4] 28)) 28 #[.string ⟨#[122, 122, 95, 97, 114, 111, 117, 110, 100]⟩, .bool true, .int .i64 kk, .slice none 0 0, .slice none 0 0, .slice (some ⟨W.heap.size + 1, 0, none⟩) 1 1, .slice none 0 0]
  simp only [size_al] at os
  have OS := Lib.hid os
  have BW := Lib.hid b3
  have hin : PolIn (((W.alloc (.cells #[.string p.id, .bool p.set, .int .i64 p.alg, .slice A1 n1 k1, .slice A2 n2 k2, .slice A3 n3 k3, .slice A4 n4 k4] 28)).alloc (.cells #[.string p.id, .bool p.set, .int .i64 p.alg, .slice A1 n1 k1, .slice A2 n2 k2, .slice A3 n3 k3, .slice A4 n4 k4] 28)).alloc (.cells #[.string ⟨#[122, 122, 95, 97, 114, 111, 117, 110, 100]⟩, .bool true, .int .i64 kk, .slice none 0 0, .slice none 0 0, .slice (some ⟨W.heap.size + 1, 0, none⟩) 1 1, .slice none 0 0] 28)) (fun _ => True) (around ⟨#[122, 122, 95, 97, 114, 111, 117, 110, 100]⟩ kk p) none 0 0 none 0 0 (some ⟨W.heap.size + 1, 0, none⟩) 1 1 none 0 0 := by
    have := around_in h ⟨#[122, 122, 95, 97, 114, 111, 117, 110, 100]⟩ (by decide) (by rw [hkk]; exact hki : InI kk) b1 ((Below.refl ((W.alloc (.cells #[.string p.id, .bool p.set, .int .i64 p.alg, .slice A1 n1 k1, .slice A2 n2 k2, .slice A3 n3 k3, .slice A4 n4 k4] 28)).alloc (.cells #[.string p.id, .bool p.set, .int .i64 p.alg, .slice A1 n1 k1, .slice A2 n2 k2, .slice A3 n3 k3, .slice A4 n4 k4] 28)).heap.size ((W.alloc (.cells #[.string p.id, .bool p.set, .int .i64 p.alg, .slice A1 n1 k1, .slice A2 n2 k2, .slice A3 n3 k3, .slice A4 n4 k4] 28)).alloc (.cells #[.string p.id, .bool p.set, .int .i64 p.alg, .slice A1 n1 k1, .slice A2 n2 k2, .slice A3 n3 k3, .slice A4 n4 k4] 28))).alloc (Nat.le_refl _) (.cells #[.string ⟨#[122, 122, 95, 97, 114, 111, 117, 110, 100]⟩, .bool true, .int .i64 kk, .slice none 0 0, .slice none 0 0, .slice (some ⟨W.heap.size + 1, 0, none⟩) 1 1, .slice none 0 0] 28))
    rw [size_al] at this
    exact this
  have RI := Lib.hid (fun (r : Int) (hr : rightE (around ⟨#[122, 122, 95, 97, 114, 111, 117, 110, 100]⟩ kk p) = r) => evright hin hr)
  clear hsm hwi b1 b2 b3 op1 op2 os hki hk ha hn
  by_cases c1 : polC (m + 1) p ≤ 3000
  rotate_left
  · have hd : decide (polC (m + 1) p ≤ 3000) = false := decide_eq_false c1
    rw [hd] at SM
    clear hd c1 FE RI h hg hpl hin hkk hsum
    go_enter Tryz.func5, Tryz.ntmps5
    go_wp2_with fail
    refine (WI.out _).mono ?_
    rintro e w' ⟨rfl, rfl⟩
    have cOP := OP.out.c7e
    go_wp2_with fail
    refine (SM.out _ BW.out).mono ?_
    rintro e w1 ⟨rfl, hb⟩
    clear cOP
    have BW := Lib.hid (below_step BW.out hb)
    have OP := Lib.hid (OP.out.below hb OP.out.lt)
    have OS := Lib.hid (OS.out.below hb OS.out.lt)
    clear hb
    go_wp2_with fail
    refine (evruns_any _).mono ?_
    rintro e w2 ⟨rfl, hb⟩
    have BW := Lib.hid (below_step BW.out hb)
    have OP := Lib.hid (OP.out.below hb OP.out.lt)
    have OS := Lib.hid (OS.out.below hb OS.out.lt)
    clear hb
    go_wp2_with fail
    go_ret
    exact ⟨rfl, BW.out⟩
  have hd : decide (polC (m + 1) p ≤ 3000) = true := decide_eq_true c1
  rw [hd] at SM
  clear hd
  by_cases c2 : fewC ask ≤ 1200
  rotate_left
  · have hf : decide (fewC ask ≤ 1200) = false := decide_eq_false c2
    have HF := Lib.hid (FE.out _ hf)
    clear hf c1 c2 FE RI h hg hpl hin hkk hsum
    go_enter Tryz.func5, Tryz.ntmps5
    go_wp2_with fail
    refine (WI.out _).mono ?_
    rintro e w' ⟨rfl, rfl⟩
    have cOP := OP.out.c7e
    go_wp2_with fail
    refine (SM.out _ BW.out).mono ?_
    rintro e w1 ⟨rfl, hb⟩
    clear cOP
    have BW := Lib.hid (below_step BW.out hb)
    have OP := Lib.hid (OP.out.below hb OP.out.lt)
    have OS := Lib.hid (OS.out.below hb OS.out.lt)
    clear hb
    go_wp2_with fail
    refine (HF.out _ BW.out).mono ?_
    rintro e w2 ⟨rfl, hb⟩
    have BW := Lib.hid (below_step BW.out hb)
    have OP := Lib.hid (OP.out.below hb OP.out.lt)
    have OS := Lib.hid (OS.out.below hb OS.out.lt)
    clear hb
    go_wp2_with fail
    refine (evruns_any _).mono ?_
    rintro e w3 ⟨rfl, hb⟩
    have BW := Lib.hid (below_step BW.out hb)
    have OP := Lib.hid (OP.out.below hb OP.out.lt)
    have OS := Lib.hid (OS.out.below hb OS.out.lt)
    clear hb
    go_wp2_with fail
    go_ret
    exact ⟨rfl, BW.out⟩
  have ht : decide (fewC ask ≤ 1200) = true := decide_eq_true c2
  have HF := Lib.hid (FE.out _ ht)
  clear ht FE
  have BS : Hid (Below (((W.alloc (.cells #[.string p.id, .bool p.set, .int .i64 p.alg, .slice A1 n1 k1, .slice A2 n2 k2, .slice A3 n3 k3, .slice A4 n4 k4] 28)).alloc (.cells #[.string p.id, .bool p.set, .int .i64 p.alg, .slice A1 n1 k1, .slice A2 n2 k2, .slice A3 n3 k3, .slice A4 n4 k4] 28)).alloc (.cells #[.string ⟨#[122, 122, 95, 97, 114, 111, 117, 110, 100]⟩, .bool true, .int .i64 kk, .slice none 0 0, .slice none 0 0, .slice (some ⟨W.heap.size + 1, 0, none⟩) 1 1, .slice none 0 0] 28)).heap.size (((W.alloc (.cells #[.string p.id, .bool p.set, .int .i64 p.alg, .slice A1 n1 k1, .slice A2 n2 k2, .slice A3 n3 k3, .slice A4 n4 k4] 28)).alloc (.cells #[.string p.id, .bool p.set, .int .i64 p.alg, .slice A1 n1 k1, .slice A2 n2 k2, .slice A3 n3 k3, .slice A4 n4 k4] 28)).alloc (.cells #[.string ⟨#[122, 122, 95, 97, 114, 111, 117, 110, 100]⟩, .bool true, .int .i64 kk, .slice none 0 0, .slice none 0 0, .slice (some ⟨W.heap.size + 1, 0, none⟩) 1 1, .slice none 0 0] 28)) (((W.alloc (.cells #[.string p.id, .bool p.set, .int .i64 p.alg, .slice A1 n1 k1, .slice A2 n2 k2, .slice A3 n3 k3, .slice A4 n4 k4] 28)).alloc (.cells #[.string p.id, .bool p.set, .int .i64 p.alg, .slice A1 n1 k1, .slice A2 n2 k2, .slice A3 n3 k3, .slice A4 n4 k4] 28)).alloc (.cells #[.string ⟨#[122, 122, 95, 97, 114, 111, 117, 110, 100]⟩, .bool true, .int .i64 kk, .slice none 0 0, .slice none 0 0, .slice (some ⟨W.heap.size + 1, 0, none⟩) 1 1, .slice none 0 0] 28))) := Below.refl _ _
  by_cases c3 : rightE (around ⟨#[122, 122, 95, 97, 114, 111, 117, 110, 100]⟩ kk p) = 0
  rotate_left
  · have HR := Lib.hid (RI.out _ rfl)
    have hr : (rightE (around ⟨#[122, 122, 95, 97, 114, 111, 117, 110, 100]⟩ kk p) != 0) = true := by rw [bne_iff_ne]; exact c3
    generalize rightE (around ⟨#[122, 122, 95, 97, 114, 111, 117, 110, 100]⟩ kk p) = r at *
    clear c1 c2 c3 RI h hg hpl hin hkk hsum
    go_enter Tryz.func5, Tryz.ntmps5
    go_wp2_with fail
    refine (WI.out _).mono ?_
    rintro e w' ⟨rfl, rfl⟩
    have cOP := OP.out.c7e
    go_wp2_with fail
    refine (SM.out _ BW.out).mono ?_
    rintro e w1 ⟨rfl, hb⟩
    clear cOP
    have BW := Lib.hid (below_step BW.out hb)
    have BS := Lib.hid (below_step BS.out hb)
    have OP := Lib.hid (OP.out.below hb OP.out.lt)
    have OS := Lib.hid (OS.out.below hb OS.out.lt)
    clear hb
    go_wp2_with fail
    refine (HF.out _ BW.out).mono ?_
    rintro e w2 ⟨rfl, hb⟩
    have BW := Lib.hid (below_step BW.out hb)
    have BS := Lib.hid (below_step BS.out hb)
    have OP := Lib.hid (OP.out.below hb OP.out.lt)
    have OS := Lib.hid (OS.out.below hb OS.out.lt)
    clear hb
    have cOS := OS.out.c7e
    go_wp2_with fail
    refine (HR.out _ BS.out).mono ?_
    rintro e w3 ⟨rfl, hb⟩
    clear cOS
    have BW := Lib.hid (below_step BW.out hb)
    have BS := Lib.hid (below_step BS.out hb)
    have OP := Lib.hid (OP.out.below hb OP.out.lt)
    have OS := Lib.hid (OS.out.below hb OS.out.lt)
    clear hb
    go_wp2_with fail
    refine (evruns_any _).mono ?_
    rintro e w4 ⟨rfl, hb⟩
    have BW := Lib.hid (below_step BW.out hb)
    have BS := Lib.hid (below_step BS.out hb)
    have OP := Lib.hid (OP.out.below hb OP.out.lt)
    have OS := Lib.hid (OS.out.below hb OS.out.lt)
    clear hb
    go_wp2_with fail
    go_ret
    exact ⟨rfl, BW.out⟩
  have HR := Lib.hid (RI.out _ c3)
  clear RI
  have hG := few_short c2
  obtain ⟨⟨⟨vp, vd⟩, vob⟩, hv⟩ : ∃ v, evV ask p = v := ⟨_, rfl⟩
  have hse : evV ask (around ⟨#[122, 122, 95, 97, 114, 111, 117, 110, 100]⟩ kk p) = setO kk ⟨(vp, vd), vob⟩ := by rw [hkk, dec_around, hv]
  obtain ⟨⟨⟨bp, bd⟩, bob⟩, hbv⟩ : ∃ v, setO kk ⟨(vp, vd), vob⟩ = v := ⟨_, rfl⟩
  have HSE := Lib.hid hbv
  rw [hbv] at hse
  have EP := Lib.hid (evdec h (right_around c3) hg hG hv)
  have ES := Lib.hid (evdec hin c3 (hg.keep (Kept.all BW.out _) (fun _ h _ => h)) hG hse)
  have HKK := Lib.hid (show kk = 1 ∨ kk = 2 ∨ kk = 3 ∨ kk = 4 ∨ kk = 5 ∨ kk = 6 by omega)
  clear c1 c2 c3 hG hv hse hbv h hg hpl hin hkk hsum
  go_enter Tryz.func5, Tryz.ntmps5
  go_wp2_with fail
  refine (WI.out _).mono ?_
  rintro e w' ⟨rfl, rfl⟩
  have cOP := OP.out.c7e
  go_wp2_with fail
  refine (SM.out _ BW.out).mono ?_
  rintro e w1 ⟨rfl, hb⟩
  clear cOP
  have BW := Lib.hid (below_step BW.out hb)
  have BS := Lib.hid (below_step BS.out hb)
  have OP := Lib.hid (OP.out.below hb OP.out.lt)
  have OS := Lib.hid (OS.out.below hb OS.out.lt)
  clear hb
  go_wp2_with fail
  refine (HF.out _ BW.out).mono ?_
  rintro e w2 ⟨rfl, hb⟩
  have BW := Lib.hid (below_step BW.out hb)
  have BS := Lib.hid (below_step BS.out hb)
  have OP := Lib.hid (OP.out.below hb OP.out.lt)
  have OS := Lib.hid (OS.out.below hb OS.out.lt)
  clear hb
  have cOS := OS.out.c7e
  go_wp2_with fail
  refine (HR.out _ BS.out).mono ?_
  rintro e w3 ⟨rfl, hb⟩
  clear cOS
  have BW := Lib.hid (below_step BW.out hb)
  have BS := Lib.hid (below_step BS.out hb)
  have OP := Lib.hid (OP.out.below hb OP.out.lt)
  have OS := Lib.hid (OS.out.below hb OS.out.lt)
  clear hb
  have cOP := OP.out.c7e
  go_wp2_with fail
  refine (EP.out _ BW.out).mono ?_
  rintro e w4 ⟨E1, e2, e3, rfl, hb, hd⟩
  clear cOP
  have al : Below w4.heap.size w4 (w4.alloc (.cells #[.complex .f64 (fl vp) (fl vd), .slice E1 e2 e3] 33)) := ((Below.refl _ _).alloc (Nat.le_refl _) _)
  have hb2 := below_step hb al
  have BW := Lib.hid (below_step BW.out hb2)
  have BS := Lib.hid (below_step BS.out hb2)
  have OP := Lib.hid (OP.out.below hb2 OP.out.lt)
  have OS := Lib.hid (OS.out.below hb2 OS.out.lt)
  have OA := Lib.hid (Ob.made w4 33 #[.complex .f64 (fl vp) (fl vd), .slice E1 e2 e3])
  have DA := Lib.hid (hd.keep (R' := fun b => b < (w4.alloc (.cells #[.complex .f64 (fl vp) (fl vd), .slice E1 e2 e3] 33)).heap.size) (Kept.all al _) (fun b _ hlt => Nat.lt_of_lt_of_le hlt al.size))
  have BW5 := Lib.hid BW.out.size
  clear hd
  clear hb hb2 al
  have cOS := OS.out.c7e
  have cOA := OA.out.c2e
  go_wp2_with fail
  refine (ES.out _ BS.out).mono ?_
  rintro e w5 ⟨F1, f2, f3, rfl, hb, hd⟩
  clear cOS cOA
  have al : Below w5.heap.size w5 (w5.alloc (.cells #[.complex .f64 (fl bp) (fl bd), .slice F1 f2 f3] 33)) := ((Below.refl _ _).alloc (Nat.le_refl _) _)
  have hb2 := below_step hb al
  have BW := Lib.hid (below_step BW.out hb2)
  have BS := Lib.hid (below_step BS.out hb2)
  have OP := Lib.hid (OP.out.below hb2 OP.out.lt)
  have OS := Lib.hid (OS.out.below hb2 OS.out.lt)
  have OA := Lib.hid (OA.out.below hb2 OA.out.lt)
  have DA := Lib.hid (DA.out.keep (Kept.all hb2 _) (fun _ h _ => h))
  have OB := Lib.hid (Ob.made w5 33 #[.complex .f64 (fl bp) (fl bd), .slice F1 f2 f3])
  have DB := Lib.hid (hd.keep (R' := fun _ => True) (Kept.all al _) (fun b _ hlt => trivial))
  clear hd
  clear hb hb2 al
  have cOA := OA.out.c2e
  have BWF := Lib.hid BW.out
  have OAF := Lib.hid OA.out
  have DAF := Lib.hid DA.out
  have cXF := cOA
  clear cOA
  rcases (show (kk ≠ 4 ∧ kk ≠ 5 ∧ kk ≠ 6) ∨ kk = 4 ∨ kk = 5 ∨ kk = 6 by have := HKK.out; omega) with ⟨k4, k5, k6⟩ | rfl | rfl | rfl
  · have HX := HSE.out
    unfold setO at HX
    rw [if_neg (fun h => k4 h.1), if_neg (fun h => k5 h.1), if_neg (fun h => k6 h.1)] at HX
    have e4 : (kk == 4) = false := by rw [beq_eq_false_iff_ne]; exact k4
    have e5 : (kk == 5) = false := by rw [beq_eq_false_iff_ne]; exact k5
    have e6 : (kk == 6) = false := by rw [beq_eq_false_iff_ne]; exact k6
    clear k4 k5 k6
    have HM : Hid ((bp, bd) = (vp, vd)) := (Res.mk.inj HX).1.symm
    have HO : Hid (bob = vob) := (Res.mk.inj HX).2.symm
    clear HX
    have al : Below (w5.alloc (.cells #[.complex .f64 (fl bp) (fl bd), .slice F1 f2 f3] 33)).heap.size (w5.alloc (.cells #[.complex .f64 (fl bp) (fl bd), .slice F1 f2 f3] 33)) ((w5.alloc (.cells #[.complex .f64 (fl bp) (fl bd), .slice F1 f2 f3] 33)).alloc (.cells #[.complex .f64 (fl vp) (fl vd), .slice E1 e2 e3] 33)) := (Below.refl _ _).alloc (Nat.le_refl _) _
    have OZ : Ob ((w5.alloc (.cells #[.complex .f64 (fl bp) (fl bd), .slice F1 f2 f3] 33)).alloc (.cells #[.complex .f64 (fl vp) (fl vd), .slice E1 e2 e3] 33)) (w5.heap.size + 1) 33 #[.complex .f64 (fl vp) (fl vd), .slice E1 e2 e3] := by have h := Ob.made (w5.alloc (.cells #[.complex .f64 (fl bp) (fl bd), .slice F1 f2 f3] 33)) 33 #[.complex .f64 (fl vp) (fl vd), .slice E1 e2 e3]; rw [size_al] at h; exact h
    have DB2 := Lib.hid (DB.out.keep (Kept.all al _) (fun _ h _ => h))
    have BW := Lib.hid (below_step BWF.out al)
    have cOA2 := (OAF.out.below al OAF.out.lt).c2e
    have cOB2 := (OB.out.below al OB.out.lt).c2e
    have cOZ2 := OZ.c2e
    have DA2 := Lib.hid (DAF.out.keep (Kept.all al _) (fun _ h _ => h))
    clear OZ al
    go_wp2_with fail
    refine (evsame_at rfl rfl HM.out HO.out DB2.out DA2.out).mono ?_
    rintro e w8 ⟨rfl, hb⟩
    have BW := Lib.hid (below_step BW.out hb)
    clear hb
    go_wp2_with fail
    refine (evruns_any _).mono ?_
    rintro e w9 ⟨rfl, hb⟩
    have BW := Lib.hid (below_step BW.out hb)
    clear hb
    go_wp2_with fail
    go_ret
    exact ⟨rfl, BW.out⟩
  · have HX := HSE.out
    unfold setO at HX
    by_cases h0 : (vp, vd) = ((0, 0) : Mk)
    · obtain ⟨rfl, rfl⟩ := Prod.mk.inj h0
      rw [if_neg (fun h => h.2.1 rfl), if_neg (fun h => absurd h.1 (by decide)), if_neg (fun h => absurd h.1 (by decide))] at HX
      clear h0
      have HM : Hid ((bp, bd) = (0, 0)) := (Res.mk.inj HX).1.symm
      have HO : Hid (bob = vob) := (Res.mk.inj HX).2.symm
      clear HX
      have al : Below (w5.alloc (.cells #[.complex .f64 (fl bp) (fl bd), .slice F1 f2 f3] 33)).heap.size (w5.alloc (.cells #[.complex .f64 (fl bp) (fl bd), .slice F1 f2 f3] 33)) ((w5.alloc (.cells #[.complex .f64 (fl bp) (fl bd), .slice F1 f2 f3] 33)).alloc (.cells #[.complex .f64 (fl 0) (fl 0), .slice E1 e2 e3] 33)) := (Below.refl _ _).alloc (Nat.le_refl _) _
      have OZ : Ob ((w5.alloc (.cells #[.complex .f64 (fl bp) (fl bd), .slice F1 f2 f3] 33)).alloc (.cells #[.complex .f64 (fl 0) (fl 0), .slice E1 e2 e3] 33)) (w5.heap.size + 1) 33 #[.complex .f64 (fl 0) (fl 0), .slice E1 e2 e3] := by have h := Ob.made (w5.alloc (.cells #[.complex .f64 (fl bp) (fl bd), .slice F1 f2 f3] 33)) 33 #[.complex .f64 (fl 0) (fl 0), .slice E1 e2 e3]; rw [size_al] at h; exact h
      have DB2 := Lib.hid (DB.out.keep (Kept.all al _) (fun _ h _ => h))
      have BW := Lib.hid (below_step BWF.out al)
      have cOA2 := (OAF.out.below al OAF.out.lt).c2e
      have cOB2 := (OB.out.below al OB.out.lt).c2e
      have cOZ2 := OZ.c2e
      have DA2 := Lib.hid (DAF.out.keep (Kept.all al _) (fun _ h _ => h))
      clear OZ al
      go_wp2_with fail
      refine (evsame_at rfl rfl HM.out HO.out DB2.out DA2.out).mono ?_
      rintro e w8 ⟨rfl, hb⟩
      have BW := Lib.hid (below_step BW.out hb)
      clear hb
      go_wp2_with fail
      refine (evruns_any _).mono ?_
      rintro e w9 ⟨rfl, hb⟩
      have BW := Lib.hid (below_step BW.out hb)
      clear hb
      go_wp2_with fail
      go_ret
      exact ⟨rfl, BW.out⟩
    · by_cases hs : SureM (vp, vd)
      · rcases hs with hs | hs
        · obtain ⟨rfl, rfl⟩ := Prod.mk.inj hs
          rw [if_neg (fun h => h.2.2 (show SureM ((4, 0) : Mk) by decide)), if_neg (fun h => absurd h.1 (by decide)), if_neg (fun h => absurd h.1 (by decide))] at HX
          clear hs h0
          have HM : Hid ((bp, bd) = (4, 0)) := (Res.mk.inj HX).1.symm
          have HO : Hid (bob = vob) := (Res.mk.inj HX).2.symm
          clear HX
          have al : Below (w5.alloc (.cells #[.complex .f64 (fl bp) (fl bd), .slice F1 f2 f3] 33)).heap.size (w5.alloc (.cells #[.complex .f64 (fl bp) (fl bd), .slice F1 f2 f3] 33)) ((w5.alloc (.cells #[.complex .f64 (fl bp) (fl bd), .slice F1 f2 f3] 33)).alloc (.cells #[.complex .f64 (fl 4) (fl 0), .slice E1 e2 e3] 33)) := (Below.refl _ _).alloc (Nat.le_refl _) _
          have OZ : Ob ((w5.alloc (.cells #[.complex .f64 (fl bp) (fl bd), .slice F1 f2 f3] 33)).alloc (.cells #[.complex .f64 (fl 4) (fl 0), .slice E1 e2 e3] 33)) (w5.heap.size + 1) 33 #[.complex .f64 (fl 4) (fl 0), .slice E1 e2 e3] := by have h := Ob.made (w5.alloc (.cells #[.complex .f64 (fl bp) (fl bd), .slice F1 f2 f3] 33)) 33 #[.complex .f64 (fl 4) (fl 0), .slice E1 e2 e3]; rw [size_al] at h; exact h
          have DB2 := Lib.hid (DB.out.keep (Kept.all al _) (fun _ h _ => h))
          have BW := Lib.hid (below_step BWF.out al)
          have cOA2 := (OAF.out.below al OAF.out.lt).c2e
          have cOB2 := (OB.out.below al OB.out.lt).c2e
          have cOZ2 := OZ.c2e
          have DA2 := Lib.hid (DAF.out.keep (Kept.all al _) (fun _ h _ => h))
          clear OZ al
          go_wp2_with fail
          refine (evsame_at rfl rfl HM.out HO.out DB2.out DA2.out).mono ?_
          rintro e w8 ⟨rfl, hb⟩
          have BW := Lib.hid (below_step BW.out hb)
          clear hb
          go_wp2_with fail
          refine (evruns_any _).mono ?_
          rintro e w9 ⟨rfl, hb⟩
          have BW := Lib.hid (below_step BW.out hb)
          clear hb
          go_wp2_with fail
          go_ret
          exact ⟨rfl, BW.out⟩
        · obtain ⟨rfl, rfl⟩ := Prod.mk.inj hs
          rw [if_neg (fun h => h.2.2 (show SureM ((0, 4) : Mk) by decide)), if_neg (fun h => absurd h.1 (by decide)), if_neg (fun h => absurd h.1 (by decide))] at HX
          clear hs h0
          have HM : Hid ((bp, bd) = (0, 4)) := (Res.mk.inj HX).1.symm
          have HO : Hid (bob = vob) := (Res.mk.inj HX).2.symm
          clear HX
          have al : Below (w5.alloc (.cells #[.complex .f64 (fl bp) (fl bd), .slice F1 f2 f3] 33)).heap.size (w5.alloc (.cells #[.complex .f64 (fl bp) (fl bd), .slice F1 f2 f3] 33)) ((w5.alloc (.cells #[.complex .f64 (fl bp) (fl bd), .slice F1 f2 f3] 33)).alloc (.cells #[.complex .f64 (fl 0) (fl 4), .slice E1 e2 e3] 33)) := (Below.refl _ _).alloc (Nat.le_refl _) _
          have OZ : Ob ((w5.alloc (.cells #[.complex .f64 (fl bp) (fl bd), .slice F1 f2 f3] 33)).alloc (.cells #[.complex .f64 (fl 0) (fl 4), .slice E1 e2 e3] 33)) (w5.heap.size + 1) 33 #[.complex .f64 (fl 0) (fl 4), .slice E1 e2 e3] := by have h := Ob.made (w5.alloc (.cells #[.complex .f64 (fl bp) (fl bd), .slice F1 f2 f3] 33)) 33 #[.complex .f64 (fl 0) (fl 4), .slice E1 e2 e3]; rw [size_al] at h; exact h
          have DB2 := Lib.hid (DB.out.keep (Kept.all al _) (fun _ h _ => h))
          have BW := Lib.hid (below_step BWF.out al)
          have cOA2 := (OAF.out.below al OAF.out.lt).c2e
          have cOB2 := (OB.out.below al OB.out.lt).c2e
          have cOZ2 := OZ.c2e
          have DA2 := Lib.hid (DAF.out.keep (Kept.all al _) (fun _ h _ => h))
          clear OZ al
          go_wp2_with fail
          refine (evsame_at rfl rfl HM.out HO.out DB2.out DA2.out).mono ?_
          rintro e w8 ⟨rfl, hb⟩
          have BW := Lib.hid (below_step BW.out hb)
          clear hb
          go_wp2_with fail
          refine (evruns_any _).mono ?_
          rintro e w9 ⟨rfl, hb⟩
          have BW := Lib.hid (below_step BW.out hb)
          clear hb
          go_wp2_with fail
          go_ret
          exact ⟨rfl, BW.out⟩
      · rw [if_pos ⟨rfl, h0, hs⟩] at HX
        have m0 : (vp == 0 && vd == 0) = false := by rw [Bool.eq_false_iff]; intro h; rw [Bool.and_eq_true, beq_iff_eq, beq_iff_eq] at h; exact h0 (by rw [h.1, h.2])
        have m1 : (vp == 4 && vd == 0) = false := by rw [Bool.eq_false_iff]; intro h; rw [Bool.and_eq_true, beq_iff_eq, beq_iff_eq] at h; exact hs (.inl (by rw [h.1, h.2]))
        have m2 : (vp == 0 && vd == 4) = false := by rw [Bool.eq_false_iff]; intro h; rw [Bool.and_eq_true, beq_iff_eq, beq_iff_eq] at h; exact hs (.inr (by rw [h.1, h.2]))
        clear hs h0
        have HM : Hid ((bp, bd) = ((2, 2) : Mk)) := (Res.mk.inj HX).1.symm
        have HO : Hid (bob = []) := (Res.mk.inj HX).2.symm
        clear HX
        have al : Below (w5.alloc (.cells #[.complex .f64 (fl bp) (fl bd), .slice F1 f2 f3] 33)).heap.size (w5.alloc (.cells #[.complex .f64 (fl bp) (fl bd), .slice F1 f2 f3] 33)) ((w5.alloc (.cells #[.complex .f64 (fl bp) (fl bd), .slice F1 f2 f3] 33)).alloc (.cells #[.complex .f64 4602678819172646912 4602678819172646912, .slice none 0 0] 33)) := (Below.refl _ _).alloc (Nat.le_refl _) _
        have OZ : Ob ((w5.alloc (.cells #[.complex .f64 (fl bp) (fl bd), .slice F1 f2 f3] 33)).alloc (.cells #[.complex .f64 4602678819172646912 4602678819172646912, .slice none 0 0] 33)) (w5.heap.size + 1) 33 #[.complex .f64 4602678819172646912 4602678819172646912, .slice none 0 0] := by have h := Ob.made (w5.alloc (.cells #[.complex .f64 (fl bp) (fl bd), .slice F1 f2 f3] 33)) 33 #[.complex .f64 4602678819172646912 4602678819172646912, .slice none 0 0]; rw [size_al] at h; exact h
        have DB2 := Lib.hid (DB.out.keep (Kept.all al _) (fun _ h _ => h))
        have BW := Lib.hid (below_step BWF.out al)
        have cOA2 := (OAF.out.below al OAF.out.lt).c2e
        have cOB2 := (OB.out.below al OB.out.lt).c2e
        have cOZ2 := OZ.c2e
        have ala : Below (w5.alloc (.cells #[.complex .f64 (fl bp) (fl bd), .slice F1 f2 f3] 33)).heap.size (w5.alloc (.cells #[.complex .f64 (fl bp) (fl bd), .slice F1 f2 f3] 33)) ((w5.alloc (.cells #[.complex .f64 (fl bp) (fl bd), .slice F1 f2 f3] 33)).alloc (.cells #[.complex .f64 (fl vp) (fl vd), .slice E1 e2 e3] 33)) := (Below.refl _ _).alloc (Nat.le_refl _) _
        have OZA : Ob ((w5.alloc (.cells #[.complex .f64 (fl bp) (fl bd), .slice F1 f2 f3] 33)).alloc (.cells #[.complex .f64 (fl vp) (fl vd), .slice E1 e2 e3] 33)) (w5.heap.size + 1) 33 #[.complex .f64 (fl vp) (fl vd), .slice E1 e2 e3] := by have h := Ob.made (w5.alloc (.cells #[.complex .f64 (fl bp) (fl bd), .slice F1 f2 f3] 33)) 33 #[.complex .f64 (fl vp) (fl vd), .slice E1 e2 e3]; rw [size_al] at h; exact h
        have cOAa := (OAF.out.below ala OAF.out.lt).c2e
        have cOZa := OZA.c2e
        have fOZa := OZA.f2e
        clear OZA ala
        clear OZ al
        go_wp2_with fail
        refine (evsame_at rfl mc_dp HM.out HO.out DB2.out (Rw.nil_ 3 _ _ (fun _ => True))).mono ?_
        rintro e w8 ⟨rfl, hb⟩
        have BW := Lib.hid (below_step BW.out hb)
        clear hb
        go_wp2_with fail
        refine (evruns_any _).mono ?_
        rintro e w9 ⟨rfl, hb⟩
        have BW := Lib.hid (below_step BW.out hb)
        clear hb
        go_wp2_with fail
        go_ret
        exact ⟨rfl, BW.out⟩
  · have HX := HSE.out
    unfold setO at HX
    by_cases hs : SureM (vp, vd)
    · rcases hs with hs | hs
      · obtain ⟨rfl, rfl⟩ := Prod.mk.inj hs
        rw [if_neg (fun h => absurd h.1 (by decide)), if_neg (fun h => h.2 (show SureM ((4, 0) : Mk) by decide)), if_neg (fun h => absurd h.1 (by decide))] at HX
        clear hs
        have HM : Hid ((bp, bd) = (4, 0)) := (Res.mk.inj HX).1.symm
        have HO : Hid (bob = vob) := (Res.mk.inj HX).2.symm
        clear HX
        have al : Below (w5.alloc (.cells #[.complex .f64 (fl bp) (fl bd), .slice F1 f2 f3] 33)).heap.size (w5.alloc (.cells #[.complex .f64 (fl bp) (fl bd), .slice F1 f2 f3] 33)) ((w5.alloc (.cells #[.complex .f64 (fl bp) (fl bd), .slice F1 f2 f3] 33)).alloc (.cells #[.complex .f64 (fl 4) (fl 0), .slice E1 e2 e3] 33)) := (Below.refl _ _).alloc (Nat.le_refl _) _
        have OZ : Ob ((w5.alloc (.cells #[.complex .f64 (fl bp) (fl bd), .slice F1 f2 f3] 33)).alloc (.cells #[.complex .f64 (fl 4) (fl 0), .slice E1 e2 e3] 33)) (w5.heap.size + 1) 33 #[.complex .f64 (fl 4) (fl 0), .slice E1 e2 e3] := by have h := Ob.made (w5.alloc (.cells #[.complex .f64 (fl bp) (fl bd), .slice F1 f2 f3] 33)) 33 #[.complex .f64 (fl 4) (fl 0), .slice E1 e2 e3]; rw [size_al] at h; exact h
        have DB2 := Lib.hid (DB.out.keep (Kept.all al _) (fun _ h _ => h))
        have BW := Lib.hid (below_step BWF.out al)
        have cOA2 := (OAF.out.below al OAF.out.lt).c2e
        have cOB2 := (OB.out.below al OB.out.lt).c2e
        have cOZ2 := OZ.c2e
        have DA2 := Lib.hid (DAF.out.keep (Kept.all al _) (fun _ h _ => h))
        clear OZ al
        go_wp2_with fail
        refine (evsame_at rfl rfl HM.out HO.out DB2.out DA2.out).mono ?_
        rintro e w8 ⟨rfl, hb⟩
        have BW := Lib.hid (below_step BW.out hb)
        clear hb
        go_wp2_with fail
        refine (evruns_any _).mono ?_
        rintro e w9 ⟨rfl, hb⟩
        have BW := Lib.hid (below_step BW.out hb)
        clear hb
        go_wp2_with fail
        go_ret
        exact ⟨rfl, BW.out⟩
      · obtain ⟨rfl, rfl⟩ := Prod.mk.inj hs
        rw [if_neg (fun h => absurd h.1 (by decide)), if_neg (fun h => h.2 (show SureM ((0, 4) : Mk) by decide)), if_neg (fun h => absurd h.1 (by decide))] at HX
        clear hs
        have HM : Hid ((bp, bd) = (0, 4)) := (Res.mk.inj HX).1.symm
        have HO : Hid (bob = vob) := (Res.mk.inj HX).2.symm
        clear HX
        have al : Below (w5.alloc (.cells #[.complex .f64 (fl bp) (fl bd), .slice F1 f2 f3] 33)).heap.size (w5.alloc (.cells #[.complex .f64 (fl bp) (fl bd), .slice F1 f2 f3] 33)) ((w5.alloc (.cells #[.complex .f64 (fl bp) (fl bd), .slice F1 f2 f3] 33)).alloc (.cells #[.complex .f64 (fl 0) (fl 4), .slice E1 e2 e3] 33)) := (Below.refl _ _).alloc (Nat.le_refl _) _
        have OZ : Ob ((w5.alloc (.cells #[.complex .f64 (fl bp) (fl bd), .slice F1 f2 f3] 33)).alloc (.cells #[.complex .f64 (fl 0) (fl 4), .slice E1 e2 e3] 33)) (w5.heap.size + 1) 33 #[.complex .f64 (fl 0) (fl 4), .slice E1 e2 e3] := by have h := Ob.made (w5.alloc (.cells #[.complex .f64 (fl bp) (fl bd), .slice F1 f2 f3] 33)) 33 #[.complex .f64 (fl 0) (fl 4), .slice E1 e2 e3]; rw [size_al] at h; exact h
        have DB2 := Lib.hid (DB.out.keep (Kept.all al _) (fun _ h _ => h))
        have BW := Lib.hid (below_step BWF.out al)
        have cOA2 := (OAF.out.below al OAF.out.lt).c2e
        have cOB2 := (OB.out.below al OB.out.lt).c2e
        have cOZ2 := OZ.c2e
        have DA2 := Lib.hid (DAF.out.keep (Kept.all al _) (fun _ h _ => h))
        clear OZ al
        go_wp2_with fail
        refine (evsame_at rfl rfl HM.out HO.out DB2.out DA2.out).mono ?_
        rintro e w8 ⟨rfl, hb⟩
        have BW := Lib.hid (below_step BW.out hb)
        clear hb
        go_wp2_with fail
        refine (evruns_any _).mono ?_
        rintro e w9 ⟨rfl, hb⟩
        have BW := Lib.hid (below_step BW.out hb)
        clear hb
        go_wp2_with fail
        go_ret
        exact ⟨rfl, BW.out⟩
    · rw [if_neg (fun h => absurd h.1 (by decide)), if_pos ⟨rfl, hs⟩] at HX
      have m1 : (vp == 4 && vd == 0) = false := by rw [Bool.eq_false_iff]; intro h; rw [Bool.and_eq_true, beq_iff_eq, beq_iff_eq] at h; exact hs (.inl (by rw [h.1, h.2]))
      have m2 : (vp == 0 && vd == 4) = false := by rw [Bool.eq_false_iff]; intro h; rw [Bool.and_eq_true, beq_iff_eq, beq_iff_eq] at h; exact hs (.inr (by rw [h.1, h.2]))
      clear hs
      have HM : Hid ((bp, bd) = ((0, 4) : Mk)) := (Res.mk.inj HX).1.symm
      have HO : Hid (bob = []) := (Res.mk.inj HX).2.symm
      clear HX
      have al : Below (w5.alloc (.cells #[.complex .f64 (fl bp) (fl bd), .slice F1 f2 f3] 33)).heap.size (w5.alloc (.cells #[.complex .f64 (fl bp) (fl bd), .slice F1 f2 f3] 33)) ((w5.alloc (.cells #[.complex .f64 (fl bp) (fl bd), .slice F1 f2 f3] 33)).alloc (.cells #[.complex .f64 0 4607182418800017408, .slice none 0 0] 33)) := (Below.refl _ _).alloc (Nat.le_refl _) _
      have OZ : Ob ((w5.alloc (.cells #[.complex .f64 (fl bp) (fl bd), .slice F1 f2 f3] 33)).alloc (.cells #[.complex .f64 0 4607182418800017408, .slice none 0 0] 33)) (w5.heap.size + 1) 33 #[.complex .f64 0 4607182418800017408, .slice none 0 0] := by have h := Ob.made (w5.alloc (.cells #[.complex .f64 (fl bp) (fl bd), .slice F1 f2 f3] 33)) 33 #[.complex .f64 0 4607182418800017408, .slice none 0 0]; rw [size_al] at h; exact h
      have DB2 := Lib.hid (DB.out.keep (Kept.all al _) (fun _ h _ => h))
      have BW := Lib.hid (below_step BWF.out al)
      have cOA2 := (OAF.out.below al OAF.out.lt).c2e
      have cOB2 := (OB.out.below al OB.out.lt).c2e
      have cOZ2 := OZ.c2e
      have ala : Below (w5.alloc (.cells #[.complex .f64 (fl bp) (fl bd), .slice F1 f2 f3] 33)).heap.size (w5.alloc (.cells #[.complex .f64 (fl bp) (fl bd), .slice F1 f2 f3] 33)) ((w5.alloc (.cells #[.complex .f64 (fl bp) (fl bd), .slice F1 f2 f3] 33)).alloc (.cells #[.complex .f64 (fl vp) (fl vd), .slice E1 e2 e3] 33)) := (Below.refl _ _).alloc (Nat.le_refl _) _
      have OZA : Ob ((w5.alloc (.cells #[.complex .f64 (fl bp) (fl bd), .slice F1 f2 f3] 33)).alloc (.cells #[.complex .f64 (fl vp) (fl vd), .slice E1 e2 e3] 33)) (w5.heap.size + 1) 33 #[.complex .f64 (fl vp) (fl vd), .slice E1 e2 e3] := by have h := Ob.made (w5.alloc (.cells #[.complex .f64 (fl bp) (fl bd), .slice F1 f2 f3] 33)) 33 #[.complex .f64 (fl vp) (fl vd), .slice E1 e2 e3]; rw [size_al] at h; exact h
      have cOAa := (OAF.out.below ala OAF.out.lt).c2e
      have cOZa := OZA.c2e
      have fOZa := OZA.f2e
      clear OZA ala
      clear OZ al
      go_wp2_with fail
      refine (evsame_at rfl mc_d HM.out HO.out DB2.out (Rw.nil_ 3 _ _ (fun _ => True))).mono ?_
      rintro e w8 ⟨rfl, hb⟩
      have BW := Lib.hid (below_step BW.out hb)
      clear hb
      go_wp2_with fail
      refine (evruns_any _).mono ?_
      rintro e w9 ⟨rfl, hb⟩
      have BW := Lib.hid (below_step BW.out hb)
      clear hb
      go_wp2_with fail
      go_ret
      exact ⟨rfl, BW.out⟩
  · have HX := HSE.out
    unfold setO at HX
    by_cases hs : SureM (vp, vd)
    · rcases hs with hs | hs
      · obtain ⟨rfl, rfl⟩ := Prod.mk.inj hs
        rw [if_neg (fun h => absurd h.1 (by decide)), if_neg (fun h => absurd h.1 (by decide)), if_neg (fun h => h.2 (show SureM ((4, 0) : Mk) by decide))] at HX
        clear hs
        have HM : Hid ((bp, bd) = (4, 0)) := (Res.mk.inj HX).1.symm
        have HO : Hid (bob = vob) := (Res.mk.inj HX).2.symm
        clear HX
        have al : Below (w5.alloc (.cells #[.complex .f64 (fl bp) (fl bd), .slice F1 f2 f3] 33)).heap.size (w5.alloc (.cells #[.complex .f64 (fl bp) (fl bd), .slice F1 f2 f3] 33)) ((w5.alloc (.cells #[.complex .f64 (fl bp) (fl bd), .slice F1 f2 f3] 33)).alloc (.cells #[.complex .f64 (fl 4) (fl 0), .slice E1 e2 e3] 33)) := (Below.refl _ _).alloc (Nat.le_refl _) _
        have OZ : Ob ((w5.alloc (.cells #[.complex .f64 (fl bp) (fl bd), .slice F1 f2 f3] 33)).alloc (.cells #[.complex .f64 (fl 4) (fl 0), .slice E1 e2 e3] 33)) (w5.heap.size + 1) 33 #[.complex .f64 (fl 4) (fl 0), .slice E1 e2 e3] := by have h := Ob.made (w5.alloc (.cells #[.complex .f64 (fl bp) (fl bd), .slice F1 f2 f3] 33)) 33 #[.complex .f64 (fl 4) (fl 0), .slice E1 e2 e3]; rw [size_al] at h; exact h
        have DB2 := Lib.hid (DB.out.keep (Kept.all al _) (fun _ h _ => h))
        have BW := Lib.hid (below_step BWF.out al)
        have cOA2 := (OAF.out.below al OAF.out.lt).c2e
        have cOB2 := (OB.out.below al OB.out.lt).c2e
        have cOZ2 := OZ.c2e
        have DA2 := Lib.hid (DAF.out.keep (Kept.all al _) (fun _ h _ => h))
        clear OZ al
        go_wp2_with fail
        refine (evsame_at rfl rfl HM.out HO.out DB2.out DA2.out).mono ?_
        rintro e w8 ⟨rfl, hb⟩
        have BW := Lib.hid (below_step BW.out hb)
        clear hb
        go_wp2_with fail
        refine (evruns_any _).mono ?_
        rintro e w9 ⟨rfl, hb⟩
        have BW := Lib.hid (below_step BW.out hb)
        clear hb
        go_wp2_with fail
        go_ret
        exact ⟨rfl, BW.out⟩
      · obtain ⟨rfl, rfl⟩ := Prod.mk.inj hs
        rw [if_neg (fun h => absurd h.1 (by decide)), if_neg (fun h => absurd h.1 (by decide)), if_neg (fun h => h.2 (show SureM ((0, 4) : Mk) by decide))] at HX
        clear hs
        have HM : Hid ((bp, bd) = (0, 4)) := (Res.mk.inj HX).1.symm
        have HO : Hid (bob = vob) := (Res.mk.inj HX).2.symm
        clear HX
        have al : Below (w5.alloc (.cells #[.complex .f64 (fl bp) (fl bd), .slice F1 f2 f3] 33)).heap.size (w5.alloc (.cells #[.complex .f64 (fl bp) (fl bd), .slice F1 f2 f3] 33)) ((w5.alloc (.cells #[.complex .f64 (fl bp) (fl bd), .slice F1 f2 f3] 33)).alloc (.cells #[.complex .f64 (fl 0) (fl 4), .slice E1 e2 e3] 33)) := (Below.refl _ _).alloc (Nat.le_refl _) _
        have OZ : Ob ((w5.alloc (.cells #[.complex .f64 (fl bp) (fl bd), .slice F1 f2 f3] 33)).alloc (.cells #[.complex .f64 (fl 0) (fl 4), .slice E1 e2 e3] 33)) (w5.heap.size + 1) 33 #[.complex .f64 (fl 0) (fl 4), .slice E1 e2 e3] := by have h := Ob.made (w5.alloc (.cells #[.complex .f64 (fl bp) (fl bd), .slice F1 f2 f3] 33)) 33 #[.complex .f64 (fl 0) (fl 4), .slice E1 e2 e3]; rw [size_al] at h; exact h
        have DB2 := Lib.hid (DB.out.keep (Kept.all al _) (fun _ h _ => h))
        have BW := Lib.hid (below_step BWF.out al)
        have cOA2 := (OAF.out.below al OAF.out.lt).c2e
        have cOB2 := (OB.out.below al OB.out.lt).c2e
        have cOZ2 := OZ.c2e
        have DA2 := Lib.hid (DAF.out.keep (Kept.all al _) (fun _ h _ => h))
        clear OZ al
        go_wp2_with fail
        refine (evsame_at rfl rfl HM.out HO.out DB2.out DA2.out).mono ?_
        rintro e w8 ⟨rfl, hb⟩
        have BW := Lib.hid (below_step BW.out hb)
        clear hb
        go_wp2_with fail
        refine (evruns_any _).mono ?_
        rintro e w9 ⟨rfl, hb⟩
        have BW := Lib.hid (below_step BW.out hb)
        clear hb
        go_wp2_with fail
        go_ret
        exact ⟨rfl, BW.out⟩
    · rw [if_neg (fun h => absurd h.1 (by decide)), if_neg (fun h => absurd h.1 (by decide)), if_pos ⟨rfl, hs⟩] at HX
      have m1 : (vp == 4 && vd == 0) = false := by rw [Bool.eq_false_iff]; intro h; rw [Bool.and_eq_true, beq_iff_eq, beq_iff_eq] at h; exact hs (.inl (by rw [h.1, h.2]))
      have m2 : (vp == 0 && vd == 4) = false := by rw [Bool.eq_false_iff]; intro h; rw [Bool.and_eq_true, beq_iff_eq, beq_iff_eq] at h; exact hs (.inr (by rw [h.1, h.2]))
      clear hs
      have HM : Hid ((bp, bd) = ((4, 0) : Mk)) := (Res.mk.inj HX).1.symm
      have HO : Hid (bob = []) := (Res.mk.inj HX).2.symm
      clear HX
      have al : Below (w5.alloc (.cells #[.complex .f64 (fl bp) (fl bd), .slice F1 f2 f3] 33)).heap.size (w5.alloc (.cells #[.complex .f64 (fl bp) (fl bd), .slice F1 f2 f3] 33)) ((w5.alloc (.cells #[.complex .f64 (fl bp) (fl bd), .slice F1 f2 f3] 33)).alloc (.cells #[.complex .f64 4607182418800017408 0, .slice none 0 0] 33)) := (Below.refl _ _).alloc (Nat.le_refl _) _
      have OZ : Ob ((w5.alloc (.cells #[.complex .f64 (fl bp) (fl bd), .slice F1 f2 f3] 33)).alloc (.cells #[.complex .f64 4607182418800017408 0, .slice none 0 0] 33)) (w5.heap.size + 1) 33 #[.complex .f64 4607182418800017408 0, .slice none 0 0] := by have h := Ob.made (w5.alloc (.cells #[.complex .f64 (fl bp) (fl bd), .slice F1 f2 f3] 33)) 33 #[.complex .f64 4607182418800017408 0, .slice none 0 0]; rw [size_al] at h; exact h
      have DB2 := Lib.hid (DB.out.keep (Kept.all al _) (fun _ h _ => h))
      have BW := Lib.hid (below_step BWF.out al)
      have cOA2 := (OAF.out.below al OAF.out.lt).c2e
      have cOB2 := (OB.out.below al OB.out.lt).c2e
      have cOZ2 := OZ.c2e
      have ala : Below (w5.alloc (.cells #[.complex .f64 (fl bp) (fl bd), .slice F1 f2 f3] 33)).heap.size (w5.alloc (.cells #[.complex .f64 (fl bp) (fl bd), .slice F1 f2 f3] 33)) ((w5.alloc (.cells #[.complex .f64 (fl bp) (fl bd), .slice F1 f2 f3] 33)).alloc (.cells #[.complex .f64 (fl vp) (fl vd), .slice E1 e2 e3] 33)) := (Below.refl _ _).alloc (Nat.le_refl _) _
      have OZA : Ob ((w5.alloc (.cells #[.complex .f64 (fl bp) (fl bd), .slice F1 f2 f3] 33)).alloc (.cells #[.complex .f64 (fl vp) (fl vd), .slice E1 e2 e3] 33)) (w5.heap.size + 1) 33 #[.complex .f64 (fl vp) (fl vd), .slice E1 e2 e3] := by have h := Ob.made (w5.alloc (.cells #[.complex .f64 (fl bp) (fl bd), .slice F1 f2 f3] 33)) 33 #[.complex .f64 (fl vp) (fl vd), .slice E1 e2 e3]; rw [size_al] at h; exact h
      have cOAa := (OAF.out.below ala OAF.out.lt).c2e
      have cOZa := OZA.c2e
      have fOZa := OZA.f2e
      clear OZA ala
      clear OZ al
      go_wp2_with fail
      refine (evsame_at rfl mc_p HM.out HO.out DB2.out (Rw.nil_ 3 _ _ (fun _ => True))).mono ?_
      rintro e w8 ⟨rfl, hb⟩
      have BW := Lib.hid (below_step BW.out hb)
      clear hb
      go_wp2_with fail
      refine (evruns_any _).mono ?_
      rintro e w9 ⟨rfl, hb⟩
      have BW := Lib.hid (below_step BW.out hb)
      clear hb
      go_wp2_with fail
      go_ret
      exact ⟨rfl, BW.out⟩
end Go.Proofs.YtmoglaknmlhpgaaGreat

