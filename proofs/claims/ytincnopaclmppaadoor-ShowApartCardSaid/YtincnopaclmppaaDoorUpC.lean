/- Several texts in one: ShowWords, ShowAll, ShowRunsW, ShowCalls, Put7, Within, Laid10A, Door10A. -/
import Derived.Test.YtincnopaclmppaaDoorUpB
import Derived.Test.YtincnopaclmppaaDoorPolRight
import Derived.Test.YtincnopaclmppaaDoorPolLit
import Derived.Deep.Cut
import Derived.Test.YtincnopaclmppaaDoorOpenPol
import Derived.Test.YtincnopaclmppaaDoorKeepIs
import Derived.Test.YtincnopaclmppaaDoorMade
import Derived.Test.YtincnopaclmppaaDoorMem
import Derived.Test.YtincnopaclmppaaDoorUpA
import Derived.ProofKit
import Derived.LaidMore
import Derived.OpenShut
import Derived.Stop.Joined
/- A policy's words (the project's). -/
namespace Go.Proofs.YtincnopaclmppaaDoor
set_option linter.unusedVariables false
open Go.RowKit Go.Sort

theorem tr_ob {V : World} {g base : Nat} {x y z : ByteArray} (h : Ob V g 9 #[.string x, .string y, .string z]) (hb : base ≤ g) : TR V base (some ⟨g, 0, none⟩) 3 3 [bl x, bl y, bl z] := by
  unfold TR tv
  simp only [List.map_cons, List.map_nil, bl_toArray]
  exact ⟨rfl, .inr ⟨g, 3, _, rfl, hb, h, Nat.le_refl _, by unfold maxLen; omega, rfl, rfl⟩⟩
theorem only_down9 {g B : Nat} {w w' : World} (h : Only g w w') (hB : B ≤ g) (hw : g < w.heap.size) : Below B w w' := ⟨h.os, h.tape, h.output, h.size, fun k hk => h.heap (by omega) (by omega)⟩
theorem tr_at (w : World) (x : ByteArray) : TR (w.alloc (.cells #[.string x] 9)) w.heap.size (some ⟨w.heap.size, 0, none⟩) 1 1 [bl x] := TR.lit w [x] (n := 1) rfl (by omega)
theorem Rus.oks' {w : World} {R : Nat → Prop} {A : Option Addr} {n c : Nat} {l : List Rul} (h : Rus w R A n c l) : ∀ r ∈ l, r.oks := by
  intro a ha
  obtain ⟨j, hj, rfl⟩ := List.getElem_of_mem ha
  obtain ⟨b, o, r, A1, n1, c1, A2, n2, c2, A3, n3, c3, _, _, _, hx, _, _, h1, h2, _⟩ := h.at_ (j := j) (by have := Rw.len h; omega)
  rw [List.getElem?_eq_getElem hj] at hx
  injection hx with hx
  rw [hx]
  exact ⟨Tg.oks' h1, Rw.all h2⟩
theorem pls_oks : ∀ (d : Nat) {D : Nat} {w : World} {R : Nat → Prop} {A : Option Addr} {n c : Nat} {l : List Pol}, Pls w R D A n c l → ∀ k ∈ l, polOks d k
  | 0, _, _, _, _, _, _, _, _, _, _ => trivial
  | d + 1, _, _, _, _, _, _, l, h, k, hk => by
    obtain ⟨j, hj, rfl⟩ := List.getElem_of_mem hk
    obtain ⟨b, o, p, d', A1, n1, c1, A2, n2, c2, A3, n3, c3, A4, n4, c4, _, _, _, hx, _, _, _, h1, h2, h3, _⟩ := h.at_ (j := j) (by have := Rw.len h; omega)
    rw [List.getElem?_eq_getElem hj] at hx
    injection hx with hx
    rw [hx]
    exact ⟨Tg.oks' h1, Rus.oks' h2, pls_oks d h3⟩
theorem tail_flat {d : Nat} {l : List Pol} {k : Nat} {x : Pol} (hx : l[k]? = some x) : ((l.take (k + 1)).map (polW d)).flatten = ((l.take k).map (polW d)).flatten ++ polW d x := by
  rw [take_next hx, List.map_append, List.flatten_append]
  simp

def WdOk (d : Nat) : Prop := ∀ {w : World} {R : Nat → Prop} {D : Nat} {p : Pol} {s s' : Seen} {A1 A2 A3 A4 : Option Addr} {n1 c1 n2 c2 n3 c3 n4 c4 : Nat}, polS d p s = (0, s') → polOks d p → Tg w R A1 n1 c1 p.tg → Rus w R A2 n2 c2 p.rules → Pls w R D A3 n3 c3 p.kids → Dus w R A4 n4 c4 p.ob → Tbl w →
    Calls Tryd.prog 15 #[.agg #[.string p.id, .bool p.set, .int .i64 p.alg, .slice A1 n1 c1, .slice A2 n2 c2, .slice A3 n3 c3, .slice A4 n4 c4]] w fun e w' => ∃ B n c, e = .returned (.slice B n c) ∧ TR w' w.heap.size B n c (polW d p) ∧ Below w.heap.size w w'

set_option maxHeartbeats 12800000 in
set_option maxRecDepth 100000 in
theorem words_step (d : Nat) (hd : d ≤ 3) (ih : WdOk d) : WdOk (d + 1) := by
  intro w R D p s s' A1 A2 A3 A4 n1 c1 n2 c2 n3 c3 n4 c4 hp hok h1 h2 h3 h4 ht
  have hpl := polW_len (d + 1) hp hok
  obtain ⟨hid, hfit, htg, hob, ⟨h16, k16⟩, s1, s2, hs1, hr, hk⟩ := pol_parts hp
  obtain ⟨hok1, hok2, hok3⟩ := hok
  have hrf := rules_fine hr
  have hkf := kids_fine hk
  obtain ⟨halg, _, _⟩ := fits_all hfit
  have hN := wordsN_le (d := 3) (by omega)
  have hNd : wordsN d ≤ 10920 := by
    have : d = 0 ∨ d = 1 ∨ d = 2 ∨ d = 3 := by omega
    rcases this with rfl | rfl | rfl | rfl <;> decide
  have hkl := fun k hkk => (polW_len d (hkf k hkk).choose_spec.choose_spec (hok3 k hkk)).1
  have hl2 := Rw.len h2
  have hl3 := Rw.len h3
  have hl4 := Rw.len h4
  have ho8 := (obE_all hob).1
  have hle2 := Rw.le h2
  have hle3 := Rw.le h3
  have hcp2 := Rw.cap h2
  have hcp3 := Rw.cap h3
  unfold maxLen at hcp2 hcp3
  have HT : Hid (∀ W, Below w.heap.size w W → Tbl W) := fun W hb => ht.then_ hb
  have CT := Lib.hid (fun (W : World) (hb : Below w.heap.size w W) => show_target W (h1.keep (Kept.all hb R) (fun _ h _ => h)) htg (HT.out _ hb))
  have CD := Lib.hid (fun (W : World) (hb : Below w.heap.size w W) => texts_duty (h4.keep (Kept.all hb R) (fun _ h _ => h)) (by omega) (obE_all hob).2 (HT.out _ hb))
  have H2 := Lib.hid h2
  have H3 := Lib.hid h3
  have HRF := Lib.hid hrf
  have HKF := Lib.hid hkf
  have HKL := Lib.hid hkl
  have HK3 := Lib.hid hok3
  obtain ⟨x2, hx2⟩ : ∃ x : ByteArray, x = ⟨(algW p.alg).toArray⟩ := ⟨_, rfl⟩
  have HG : Hid (∀ W, Below w.heap.size w W → W.cell? ⟨0, p.alg.toNat, none⟩ = some (.string x2)) := fun W hb => by
    rw [hx2]; exact (HT.out _ hb).alg (by omega) (by omega)
  have hi : 0 ≤ p.alg ∧ p.alg < 7 := by omega
  have hid16 : p.id.size ≤ 16 := hid.1.2
  have HW : Hid (polW (d + 1) p = [headW p, bl p.id, bl x2] ++ tgW p.tg ++ [bl ⟨#[123]⟩] ++ p.rules.map rulT ++ (p.kids.map (polW d)).flatten ++ [bl ⟨#[125]⟩] ++ p.ob.map dutT) := by
    show polW (d + 1) p = _
    rw [hx2]
    simp [polW, bl_mka]
  have HHS : Hid (p.set = false → headW p = bl ⟨#[112, 111, 108, 105, 99, 121]⟩) := fun h => by unfold headW; rw [if_neg (by rw [h]; simp)]; rfl
  have HHT : Hid (p.set = true → headW p = bl ⟨#[115, 101, 116]⟩) := fun h => by unfold headW; rw [if_pos h]; rfl
  have HL2 := Lib.hid hl2
  have HL3 := Lib.hid hl3
  have HB16 := Lib.hid (show n2 ≤ 16 ∧ n3 ≤ 16 ∧ n4 ≤ 8 by omega)
  have HND := Lib.hid hNd
  generalize hhw : headW p = hw at *
  clear hpl hid hfit htg hob h16 k16 hs1 hr hk hok1 hok2 hok3 hrf hkf halg hN hNd hkl hl2 hl3 hl4 ho8 h1 h2 h3 h4 ht hp hx2 hhw
  obtain ⟨C0, hC0⟩ : ∃ C0 : Array Value, C0 = #[.string p.id, .bool p.set, .int .i64 p.alg, .slice A1 n1 c1, .slice A2 n2 c2, .slice A3 n3 c3, .slice A4 n4 c4] := ⟨_, rfl⟩
  have OB := Lib.hid (Ob.made w 28 C0)
  have B0 := Lib.hid (al9' w (.cells C0 28))
  have HSZ := Lib.hid (size_al w (.cells C0 28))
  go_enter Tryd.func15, Tryd.ntmps15
  go_upto_region 1 with fail
  rw [← hC0]
  generalize w.alloc (.cells C0 28) = W1 at *
  rw [hC0] at OB
  have KO : Hid (∀ W, Below W1.heap.size W1 W → W.cell? ⟨w.heap.size, 0, none⟩ = some (.string p.id) ∧ W.cell? ⟨w.heap.size, 1, none⟩ = some (.bool p.set) ∧ W.cell? ⟨w.heap.size, 2, none⟩ = some (.int .i64 p.alg) ∧ W.cell? ⟨w.heap.size, 3, none⟩ = some (.slice A1 n1 c1) ∧ W.cell? ⟨w.heap.size, 4, none⟩ = some (.slice A2 n2 c2) ∧ W.cell? ⟨w.heap.size, 5, none⟩ = some (.slice A3 n3 c3) ∧ W.cell? ⟨w.heap.size, 6, none⟩ = some (.slice A4 n4 c4)) := by
    show ∀ W, _ → _
    intro W hb
    have o := OB.out.below hb (by have := HSZ.out; omega)
    exact ⟨o.cell 0, o.cell 1, o.cell 2, o.cell 3, o.cell 4, o.cell 5, o.cell 6⟩
  clear hC0 OB
  have UP : Hid (∀ W, Below W1.heap.size W1 W → Below w.heap.size w W) := fun W hb => B0.out.trans (hb.mono B0.out.size)
  refine wp_region_held_tail (fun w' => Below W1.heap.size W1 w') 6 (by kernel_rfl) (by kernel_rfl) ?_
  intro G
  change HeadW _ _ _ _ _ _ _ _ _ _ (W1.drewN 1)
  have S0 := Lib.hid (below_drewN (Below.refl W1.heap.size W1) 1)
  generalize W1.drewN 1 = v0 at *
  refine HeadW_take (i := 0) (v := ?_) G rfl (by kernel_rfl) (by kernel_rfl) (by kernel_rfl) (fun _ _ _ h => h) (Or.inl ⟨by rfl, ?_⟩) S0.out ?_
  rotate_left
  · intro wz hS
    go_simp
    try with_reducible rfl
  refine HeadW_take (i := 1) (v := ?_) G rfl (by kernel_rfl) (by kernel_rfl) (by kernel_rfl) (fun _ _ _ h => h) (Or.inl ⟨by rfl, ?_⟩) S0.out ?_
  rotate_left
  · intro wz hS
    have hk1 := (KO.out _ hS).1
    go_simp
    try with_reducible rfl
  refine HeadW_take (i := 2) (v := ?_) G rfl (by kernel_rfl) (by kernel_rfl) (by kernel_rfl) (fun _ _ _ h => h) (Or.inl ⟨by rfl, ?_⟩) S0.out ?_
  rotate_left
  · intro wz hS
    go_simp
    try with_reducible rfl
  refine HeadW_take (i := 3) (v := ?_) G rfl (by kernel_rfl) (by kernel_rfl) (by kernel_rfl) (fun _ _ _ h => h) (Or.inl ⟨by rfl, ?_⟩) S0.out ?_
  rotate_left
  · intro wz hS
    have hk1 := (KO.out _ hS).2.2.1
    go_simp
    try with_reducible rfl
  refine HeadW_take (i := 4) (v := ?_) G rfl (by kernel_rfl) (by kernel_rfl) (by kernel_rfl) (fun _ _ _ h => h) (Or.inl ⟨by rfl, ?_⟩) S0.out ?_
  rotate_left
  · intro wz hS
    go_simp
    try with_reducible rfl
  refine HeadW_take (i := 5) (v := ?_) G rfl (by kernel_rfl) (by kernel_rfl) (by kernel_rfl) (fun _ _ _ h => h) (Or.inl ⟨by rfl, ?_⟩) S0.out ?_
  rotate_left
  · intro wz hS
    have hk1 := HG.out _ (UP.out _ hS)
    go_simp
    try with_reducible rfl
  intro _
  refine ⟨by kernel_rfl, ?_⟩
  simp only [List.drop_succ_cons, List.drop_zero]
  have q1 := (KO.out _ (S0.out.alloc S0.out.size (.cells #[.string ⟨#[112, 111, 108, 105, 99, 121]⟩, .string p.id, .string x2] 9))).2.1
  have OL := Lib.hid (Ob.made v0 9 #[.string ⟨#[112, 111, 108, 105, 99, 121]⟩, .string p.id, .string x2])
  have BL := Lib.hid (S0.out.alloc S0.out.size (.cells #[.string ⟨#[112, 111, 108, 105, 99, 121]⟩, .string p.id, .string x2] 9))
  have SL := Lib.hid S0.out.size
  go_upto_if 16 with fail
  generalize v0.alloc (.cells #[.string ⟨#[112, 111, 108, 105, 99, 121]⟩, .string p.id, .string x2] 9) = V at *
  generalize v0.heap.size = g at *
  go_cut [3] from 15 to 18 (fun s wx => ∃ B d, s = .slice B 3 d ∧ TR wx W1.heap.size B 3 d [hw, bl p.id, bl x2] ∧ Below W1.heap.size W1 wx)
  case first =>
    have l0 := OL.out.cell 0
    have f0 := OL.out.frozen 0
    cases hps : p.set
    · rw [hps] at q1
      go_wp2_with fail
      go_meet
      refine ⟨_, _, rfl, ?_, BL.out⟩
      rw [HHS.out hps]
      exact tr_ob OL.out SL.out
    · rw [hps] at q1
      go_wp2_with fail
      go_meet
      refine ⟨_, _, rfl, ?_, ?_⟩
      · rw [HHT.out hps]
        exact tr_ob (OL.out.put 0 (.string ⟨#[115, 101, 116]⟩)) SL.out
      · exact BL.out.trans (only_down9 (Only.refl.setCell (p := ⟨g, 0, none⟩) rfl _) SL.out OL.out.lt)
  case rest =>
    obtain ⟨B, dd, rfl, htr, hb⟩ := hcut
    have q3 := (KO.out _ hb).2.2.2.1
    have HTA := Lib.hid htr
    have HBA := Lib.hid hb
    clear htr hb OL BL SL S0
    go_wp2_with (first
      | (go_at_call 27
         refine (CT.out _ (UP.out _ HBA.out)).mono ?_
         rintro e w2 ⟨T1, tm, tc, rfl, htm, htt, hb2⟩
         have HB2 := Lib.hid (HBA.out.trans (hb2.mono HBA.out.size))
         obtain ⟨B3, d3, w3, hap, hr3, hb3⟩ := (HTA.out.below hb2).app htt.sl (by omega) HB2.out.size 63
         have HAP1 := Lib.hid hap
         have HB3 := Lib.hid (HB2.out.trans hb3)
         have HTM := Lib.hid htm
         have hb4 : Below w3.heap.size w3 (w3.alloc (.cells #[.string ⟨#[123]⟩] 9)) := (Below.refl _ _).alloc (Nat.le_refl _) _
         obtain ⟨B5, d5, w5, hap, hr5, hb5⟩ := hr3.push ⟨#[123]⟩ (by omega) HB3.out.size 63
         have HAP2 := Lib.hid hap
         have HB5 := Lib.hid (HB3.out.trans hb5)
         have HR5 := Lib.hid hr5
         have q4 := (KO.out _ HB5.out).2.2.2.2.1
         clear hap hr3 hr5 hb2 hb3 hb4 hb5 htt htm)
      | (at_builtin; refine wpList_append_run rfl _ _ _ _ rfl rfl rfl HAP1.out ?_)
      | (at_builtin; refine wpList_append_run rfl _ _ _ _ rfl rfl rfl HAP2.out ?_))
    have HM5 := Lib.hid (show 3 + tm + 1 ≤ 6 by have := HTM.out; omega)
    go_loopw [3, 29] (fun s i wr => ∃ (k m : Nat) (B : Option Addr) (e : Nat), k ≤ n2 ∧ m ≤ 6 + k ∧ s = .slice B m e ∧ i = .int .i64 k ∧ TR wr W1.heap.size B m e ([hw, bl p.id, bl x2] ++ tgW p.tg ++ [bl ⟨#[123]⟩] ++ (p.rules.take k).map rulT) ∧ Below W1.heap.size W1 wr) (fun _ i _ => n2 - (intOf i).toNat)
    case atStart => exact ⟨0, 3 + tm + 1, B5, d5, Nat.zero_le _, HM5.out, rfl, rfl, by rw [List.take_zero, List.map_nil, List.append_nil]; exact HR5.out, HB5.out⟩
    case round =>
      clear HTA HBA HR5 HB5 HB3 HB2 HAP1 HAP2 q3 q4
      obtain ⟨k, m, B, e, hk, hm, rfl, rfl, hr, hb⟩ := hrel
      have HR := Lib.hid hr
      have HB := Lib.hid hb
      have HMK := Lib.hid hm
      clear hr hb
      by_cases hlt : k < n2
      · obtain ⟨b, o, r, E1, m1, e1, E2, m2, e2, E3, m3, e3, rfl, hRb, hbl, hx, hid', ⟨z0, z1, z2, z3, z4⟩, t1, t2, t3⟩ := (H2.out.keep (Kept.all (UP.out _ HB.out) R) (fun _ h _ => h)).at_ hlt
        have HX := Lib.hid hx
        have HC := Lib.hid (fun (W : World) (hb : Below wr.heap.size wr W) => show_rule r W (t1.keep (Kept.all hb R) (fun _ h _ => h)) (t2.keep (Kept.all hb R) (fun _ h _ => h)) (t3.keep (Kept.all hb R) (fun _ h _ => h)) (HRF.out r (List.mem_of_getElem? hx)) (HT.out _ (UP.out _ (HB.out.trans (hb.mono HB.out.size)))))
        clear hx t1 t2 t3
        go_wp2_with (first
          | (go_at_call 28
             refine (HC.out _ (al9' _ _)).mono ?_
             rintro e w2 ⟨rfl, hb2⟩
             have HB2 := Lib.hid (HB.out.trans ((show Below wr.heap.size wr w2 from Below.lit hb2).mono HB.out.size))
             obtain ⟨B5, d5, w5, hap, hr5, hb5⟩ := (HR.out.below (show Below wr.heap.size wr w2 from Below.lit hb2)).push ⟨(rulT r).toArray⟩ (by have := HB16.out; omega) HB2.out.size 63
             have HAP := Lib.hid hap
             have HB5 := Lib.hid (HB2.out.trans hb5)
             have HR5 := Lib.hid hr5
             clear hap hr5 hb2 hb5)
          | (at_builtin; refine wpList_append_run rfl _ _ _ _ rfl rfl rfl HAP.out ?_))
        go_roundw
        case rel => exact ⟨k + 1, m + 1, B5, d5, by omega, by omega, rfl, by go_num, by rw [tail_take HX.out, ← List.append_assoc]; exact HR5.out, HB5.out⟩
        case measure => simp [intOf]; omega
      · obtain rfl : k = n2 := by omega
        have q5 := (KO.out _ HB.out).2.2.2.2.2.1
        have hrr := HR.out
        rw [List.take_of_length_le (by rw [HL2.out]; exact Nat.le_refl _)] at hrr
        have HR6 := Lib.hid hrr
        have HM6 := Lib.hid (show m ≤ 22 by have := HB16.out; have := HMK.out; omega)
        clear hrr HR hm
        go_wp2_with fail
        go_loopw [3, 42] (fun s i wr => ∃ (j m : Nat) (B : Option Addr) (e : Nat), j ≤ n3 ∧ m ≤ 22 + j * 10920 ∧ s = .slice B m e ∧ i = .int .i64 j ∧ TR wr W1.heap.size B m e ([hw, bl p.id, bl x2] ++ tgW p.tg ++ [bl ⟨#[123]⟩] ++ p.rules.map rulT ++ ((p.kids.take j).map (polW d)).flatten) ∧ Below W1.heap.size W1 wr) (fun _ i _ => n3 - (intOf i).toNat)
        case atStart => exact ⟨0, m, B, e, Nat.zero_le _, by have := HM6.out; omega, rfl, rfl, by rw [List.take_zero, List.map_nil, List.flatten_nil, List.append_nil]; exact HR6.out, HB.out⟩
        case round =>
          clear HR6 HB HM6 HMK q5
          obtain ⟨j, m', B', e', hj, hm', rfl, rfl, hr', hb'⟩ := hrel
          have HRJ := Lib.hid hr'
          have HBJ := Lib.hid hb'
          have HMJ := Lib.hid hm'
          clear hr' hb' hm'
          by_cases hlt : j < n3
          · obtain ⟨b, o, q, dd', E1, m1, e1, E2, m2, e2, E3, m3, e3, E4, m4, e4, rfl, hRb, hbl, hx, rfl, hid', ⟨z0, z1, z2, z3, z4, z5, z6⟩, t1, t2, t3, t4⟩ := (H3.out.keep (Kept.all (UP.out _ HBJ.out) R) (fun _ h _ => h)).at_ hlt
            have HX := Lib.hid hx
            have hmem := List.mem_of_getElem? hx
            obtain ⟨sa, sb, hsq⟩ := HKF.out q hmem
            have HC := Lib.hid (fun (W : World) (hb : Below wr.heap.size wr W) => ih (R := R) hsq (HK3.out q hmem) (t1.keep (Kept.all hb R) (fun _ h _ => h)) (t2.keep (Kept.all hb R) (fun _ h _ => h)) (t3.keep (Kept.all hb R) (fun _ h _ => h)) (t4.keep (Kept.all hb R) (fun _ h _ => h)) (HT.out _ (UP.out _ (HBJ.out.trans (hb.mono HBJ.out.size)))))
            have HQL := Lib.hid (HKL.out q hmem)
            clear hx t1 t2 t3 t4 hsq hmem
            go_wp2_with (first
              | (go_at_call 15
                 refine (HC.out _ (al9' _ _)).mono ?_
                 rintro e w2 ⟨F1, fm, fc, rfl, htt, hb2⟩
                 have HB2 := Lib.hid (HBJ.out.trans ((show Below wr.heap.size wr w2 from Below.lit hb2).mono HBJ.out.size))
                 have hfm : fm ≤ 10920 := by have := htt.len; have := HQL.out; have := HND.out; omega
                 have HFM := Lib.hid hfm
                 obtain ⟨B5, d5, w5, hap, hr5, hb5⟩ := (HRJ.out.below (show Below wr.heap.size wr w2 from Below.lit hb2)).app htt.sl (by have := HB16.out; have := HMJ.out; omega) HB2.out.size 63
                 have HAP := Lib.hid hap
                 have HB5 := Lib.hid (HB2.out.trans hb5)
                 have HR5 := Lib.hid hr5
                 clear hap hr5 hb2 hb5 htt hfm)
              | (at_builtin; refine wpList_append_run rfl _ _ _ _ rfl rfl rfl HAP.out ?_))
            go_roundw
            case rel => exact ⟨j + 1, m' + fm, B5, d5, by omega, by have := HMJ.out; have := HFM.out; omega, rfl, by go_num, by rw [tail_flat HX.out, ← List.append_assoc]; exact HR5.out, HB5.out⟩
            case measure => simp [intOf]; omega
          · obtain rfl : j = n3 := by omega
            have hrr := HRJ.out
            rw [List.take_of_length_le (by rw [HL3.out]; exact Nat.le_refl _)] at hrr
            have HR7 := Lib.hid hrr
            have HM7 := Lib.hid (show m' ≤ 200000 by have := HB16.out; have := HMJ.out; omega)
            clear hrr HRJ
            go_upto_region 15 with fail
            refine wp_region_held_tail (fun w' => Below W1.heap.size W1 w') 6 (by kernel_rfl) (by kernel_rfl) ?_
            intro G
            change HeadW _ _ _ _ _ _ _ _ _ _ (wr.drewN 1)
            have S1 := Lib.hid (below_drewN HBJ.out 1)
            have HR8 := Lib.hid (HR7.out.below (below_drewN (Below.refl wr.heap.size wr) 1))
            generalize wr.drewN 1 = v1 at *
            refine HeadW_take (i := 0) (v := ?_) G rfl (by kernel_rfl) (by kernel_rfl) (by kernel_rfl) (fun _ _ _ h => h) (Or.inl ⟨by rfl, ?_⟩) S1.out ?_
            rotate_left
            · intro wz hS
              go_simp
              try with_reducible rfl
            refine HeadW_take (i := 3) (v := ?_) G rfl (by kernel_rfl) (by kernel_rfl) (by kernel_rfl) (fun _ _ _ h => h) (Or.inl ⟨by rfl, ?_⟩) S1.out ?_
            rotate_left
            · intro wz hS
              go_simp
              try with_reducible rfl
            refine HeadW_take (i := 4) (v := ?_) G rfl (by kernel_rfl) (by kernel_rfl) (by kernel_rfl) (fun _ _ _ h => h) (Or.inl ⟨by rfl, ?_⟩) S1.out ?_
            rotate_left
            · intro wz hS
              have hk1 := (KO.out _ hS).2.2.2.2.2.2
              go_simp
              try with_reducible rfl
            refine HeadW_ready (rs := [1]) (by kernel_rfl) rfl rfl ?_
            refine AllW.cons rfl (fun K hK => ?_) AllW.nil
            go_simp
            refine hK _ _ (S1.out.alloc S1.out.size _) ?_
            clear hK K
            refine HeadW_ready (rs := [2]) (by kernel_rfl) rfl rfl ?_
            refine AllW.cons rfl (fun K hK => ?_) AllW.nil
            obtain ⟨B5, d5, w5, hap, hr5, hb5⟩ := HR8.out.push ⟨#[125]⟩ (by have := HM7.out; omega) S1.out.size 63
            refine step_append_run rfl (.tmp 51) (.tmp 52) _ _ rfl (by first | rfl | simp [Act.eval]) (by first | rfl | simp [Act.eval]) hap ?_
            have S2 := Lib.hid (S1.out.trans hb5)
            have HR9 := Lib.hid hr5
            refine hK _ _ S2.out ?_
            clear hK K hap hb5 hr5
            refine HeadW_ready (rs := [5]) (by kernel_rfl) rfl rfl ?_
            refine AllW.cons rfl (fun K hK => ?_) AllW.nil
            go_simp
            refine (CD.out _ (UP.out _ S2.out)).mono ?_
            rintro e w6 ⟨F1, fc, rfl, htt, hb6⟩
            have S3 := Lib.hid (S2.out.trans (hb6.mono S2.out.size))
            have HRA := Lib.hid (HR9.out.below hb6)
            have HTT := Lib.hid htt.sl
            refine hK _ _ S3.out ?_
            clear hK K hb6 htt
            intro _
            refine ⟨by kernel_rfl, ?_⟩
            simp only [List.drop_succ_cons, List.drop_zero]
            obtain ⟨B7, d7, w7, hap, hr7, hb7⟩ := HRA.out.app HTT.out (by have := HM7.out; have := HB16.out; omega) S3.out.size 63
            have HAP := Lib.hid hap
            have HRB := Lib.hid hr7
            have HBB := Lib.hid (S3.out.trans hb7)
            clear hap hr7 hb7
            go_wp2_with (at_builtin; refine wpList_append_run rfl _ _ _ _ rfl rfl rfl HAP.out ?_)
            go_ret
            exact ⟨_, _, _, rfl, by rw [HW.out]; exact HRB.out.less B0.out.size, UP.out _ HBB.out⟩
theorem words_all : ∀ d, d ≤ 4 → WdOk d
  | 0, _ => fun h => by simp [polS] at h
  | d + 1, hd => words_step d (by omega) (words_all d (by omega))
end Go.Proofs.YtincnopaclmppaaDoor
/- A policy's text (the project's). -/
namespace Go.Proofs.YtincnopaclmppaaDoor
set_option linter.unusedVariables false
open Go.RowKit Go.Sort

theorem showP_right {p : Pol} (h : rightE p = 0) : showP p = polT p := by unfold showP; rw [if_pos h]
theorem showP_wrong {p : Pol} (h : rightE p ≠ 0) : showP p = [] := by unfold showP; rw [if_neg h]
theorem PolIn.oks {w : World} {R : Nat → Prop} {p : Pol} {A1 A2 A3 A4 : Option Addr} {n1 k1 n2 k2 n3 k3 n4 k4 : Nat} (h : PolIn w R p A1 n1 k1 A2 n2 k2 A3 n3 k3 A4 n4 k4) : ∀ d, polOks d p
  | 0 => trivial
  | d + 1 => by
    obtain ⟨_, h1, h2, ⟨m, h3⟩, _⟩ := h
    exact ⟨Tg.oks' h1, Rus.oks' h2, pls_oks d h3⟩
set_option maxHeartbeats 1600000 in
theorem show_pol {w : World} {R : Nat → Prop} {p : Pol} {A1 A2 A3 A4 : Option Addr} {n1 k1 n2 k2 n3 k3 n4 k4 : Nat} (h : PolIn w R p A1 n1 k1 A2 n2 k2 A3 n3 k3 A4 n4 k4) (ht : Tbl w) :
    Calls Tryd.prog 9 #[.agg #[.string p.id, .bool p.set, .int .i64 p.alg, .slice A1 n1 k1, .slice A2 n2 k2, .slice A3 n3 k3, .slice A4 n4 k4]] w
      fun e w' => e = .returned (.string ⟨(showP p).toArray⟩) ∧ Below w.heap.size w w' := by
  have hb0 : Below w.heap.size w (w.alloc (.cells #[.string p.id, .bool p.set, .int .i64 p.alg, .slice A1 n1 k1, .slice A2 n2 k2, .slice A3 n3 k3, .slice A4 n4 k4] 28)) := al9' _ _
  have h' := h.then_ hb0
  have ht' := ht.then_ hb0
  have hcon := right_pol h'
  have OB := Lib.hid (Ob.made w 28 #[.string p.id, .bool p.set, .int .i64 p.alg, .slice A1 n1 k1, .slice A2 n2 k2, .slice A3 n3 k3, .slice A4 n4 k4])
  have B0 := Lib.hid hb0
  by_cases hr : rightE p = 0
  · have e0 : polS 4 p ⟨[], 0⟩ = (0, (polS 4 p ⟨[], 0⟩).2) := by unfold rightE at hr; rw [← hr]
    have hok := h.oks 4
    have hlen := polT_len hr hok
    have hwl := (polW_len 4 e0 hok).1
    rw [wordsN_4] at hwl
    have CW : Hid (∀ W, Below (w.alloc (.cells #[.string p.id, .bool p.set, .int .i64 p.alg, .slice A1 n1 k1, .slice A2 n2 k2, .slice A3 n3 k3, .slice A4 n4 k4] 28)).heap.size (w.alloc (.cells #[.string p.id, .bool p.set, .int .i64 p.alg, .slice A1 n1 k1, .slice A2 n2 k2, .slice A3 n3 k3, .slice A4 n4 k4] 28)) W → Calls Tryd.prog 15 #[.agg #[.string p.id, .bool p.set, .int .i64 p.alg, .slice A1 n1 k1, .slice A2 n2 k2, .slice A3 n3 k3, .slice A4 n4 k4]] W fun e w' => ∃ B n c, e = .returned (.slice B n c) ∧ TR w' W.heap.size B n c (polW 4 p) ∧ Below W.heap.size W w') := fun W hb => by
      obtain ⟨_, h1, h2, ⟨m, h3⟩, h4⟩ := h'.then_ hb
      exact words_all 4 (Nat.le_refl _) e0 hok h1 h2 h3 h4 (ht'.then_ hb)
    have HWL := Lib.hid hwl
    have HJL : Hid ((Lib.join (polW 4 p) (bl ⟨#[32]⟩)).length ≤ 140737488355328) := Nat.le_trans hlen (by omega)
    have HE : Hid (showP p = Lib.join (polW 4 p) (bl ⟨#[32]⟩)) := showP_right hr
    rw [hr] at hcon
    have HC := Lib.hid hcon
    generalize polW 4 p = pw at *
    generalize showP p = sp at *
    clear hcon h h' ht ht' hb0 e0 hok hlen hwl hr
    go_enter Tryd.func9, Tryd.ntmps9
    go_wp2_with (first
      | (go_at_call 5; refine HC.out.mono ?_; rintro e w1 ⟨rfl, hb1⟩; have B1 := Lib.hid hb1; have O1 := Lib.hid (OB.out.below hb1 OB.out.lt); have c0 := O1.out.cell 0; have c1 := O1.out.cell 1; have c2 := O1.out.cell 2; have c3 := O1.out.cell 3; have c4 := O1.out.cell 4; have c5 := O1.out.cell 5; have c6 := O1.out.cell 6; clear hb1)
      | (go_at_call 15
         refine (CW.out _ B1.out).mono ?_
         rintro e w2 ⟨B, m, d, rfl, hr2, hb2⟩
         have B2 := Lib.hid (below_step B1.out hb2)
         have hm : m ≤ 1000000 := by have := hr2.len; have := HWL.out; omega
         have HJ := Lib.hid (join_row hr2.sl (Nat.le_refl _) hm ⟨#[32]⟩ HJL.out)
         clear hr2 hb2 hm)
      | (go_at_call 14; refine HJ.out.mono ?_; rintro e w3 ⟨rfl, hb3⟩; have B3 := Lib.hid (below_step B2.out hb3)))
    go_ret
    exact ⟨by rw [HE.out]; rfl, B0.out.trans (B3.out.mono B0.out.size)⟩
  · have HE : Hid (showP p = []) := showP_wrong hr
    obtain ⟨q, hq⟩ : ∃ q, q = rightE p := ⟨_, rfl⟩
    rw [← hq] at hcon hr
    have hne : (q != 0) = true := by simpa using hr
    have HC := Lib.hid hcon
    generalize showP p = sp at *
    clear hcon h h' ht ht' hb0 hr hq
    go_enter Tryd.func9, Tryd.ntmps9
    go_wp2_with (go_at_call 5; refine HC.out.mono ?_; rintro e w1 ⟨rfl, hb1⟩; have B1 := Lib.hid hb1)
    go_ret
    exact ⟨ret_text (by rw [HE.out]; rfl), B0.out.trans (B1.out.mono B0.out.size)⟩
end Go.Proofs.YtincnopaclmppaaDoor
/- The law ShowRuns: chapter 10's runs. -/
namespace Go.Proofs.YtincnopaclmppaaDoor
set_option linter.unusedVariables false
open Go.RowKit Go.Sort

def sM1 : Mat := ⟨⟨3, ⟨#[111, 119, 110, 101, 114]⟩, true⟩, 1, ⟨5, 0, ⟨#[97, 110, 110]⟩⟩⟩
def sM2 : Mat := ⟨⟨3, ⟨#[111, 119, 110, 101, 114]⟩, true⟩, 1, ⟨2, 1, ⟨#[]⟩⟩⟩
def sN1 : Nod := ⟨1, ⟨1, 1, ⟨#[]⟩⟩, ⟨0, ⟨#[]⟩, false⟩⟩
def sN2 : Nod := ⟨11, ⟨0, 0, ⟨#[]⟩⟩, ⟨0, ⟨#[]⟩, false⟩⟩
def sR : Rul := ⟨⟨#[114]⟩, true, [[[sM1], [sM2]]], [sN1, sN2], []⟩
def sD : Dut := ⟨1, 1, ⟨#[120]⟩⟩
def sP : Pol := .mk ⟨#[112]⟩ false 1 [] [sR] [] [sD]
theorem itoa_1 : Lib.itoa 1 = [49] := by
  unfold Lib.itoa
  rw [if_neg (by decide), Lib.decDigits]
  decide
theorem sP_right : rightE sP = 0 := by kernel_rfl
theorem sM1_t : matT sM1 = [99, 97, 115, 101, 46, 111, 119, 110, 101, 114, 33, 32, 61, 32, 35, 97, 110, 110] := by decide +kernel
theorem sM2_t : matT sM2 = [99, 97, 115, 101, 46, 111, 119, 110, 101, 114, 33, 32, 61, 32, 49] := by
  have e : showB sM2.v = Lib.itoa 1 := by decide +kernel
  unfold matT
  rw [e, itoa_1]
  decide +kernel
theorem sP_text : showP sP = [112, 111, 108, 105, 99, 121, 32, 112, 32, 100, 101, 110, 121, 111, 118, 101, 114, 32, 123, 32, 100, 101, 110, 121, 32, 114, 32, 119, 104, 101, 110, 32, 40, 99, 97, 115, 101, 46, 111, 119, 110, 101, 114, 33, 32, 61, 32, 35, 97, 110, 110, 32, 111, 114, 32, 99, 97, 115, 101, 46, 111, 119, 110, 101, 114, 33, 32, 61, 32, 49, 41, 32, 105, 102, 32, 40, 110, 111, 116, 32, 116, 114, 117, 101, 41, 59, 32, 125, 32, 111, 110, 32, 112, 101, 114, 109, 105, 116, 32, 108, 111, 103, 32, 120] := by
  rw [showP_right sP_right]
  have h1 : tgW sR.tg = [[119, 104, 101, 110], 40 :: (matT sM1 ++ ([32, 111, 114, 32] ++ matT sM2) ++ [41])] := by
    unfold tgW
    rw [if_neg (by simp [sR])]
    simp [sR, tgT, anyT, allT, Lib.join_cons, Lib.joinTail]
  have h2 : condW sR.cond = [[105, 102], [40, 110, 111, 116, 32, 116, 114, 117, 101, 41]] := by decide +kernel
  have h3 : rulT sR = Lib.join (effW true :: bl sR.id :: (tgW sR.tg ++ condW sR.cond ++ [])) [32] ++ [59] := rfl
  have h4 : polW 4 sP = [headW sP, bl sP.id, algW 1, [123], rulT sR, [125], dutT sD] := rfl
  unfold polT
  rw [h4, h3, h1, h2, sM1_t, sM2_t]
  decide +kernel

section
variable {W : World} {g : Nat}
theorem Ob.row {α : Type} {k : Nat} {P : List Value → α → Prop} {t : TypeId} {cs : Array Value} (h : Ob W g t cs) {n : Nat} {l : List α} (f : α → Nat → List Value) (hl : l.length = n) (hn : n ≤ 1000)
    (hf : ∀ j x, l[j]? = some x → (f x j).length = k ∧ P (f x j) x ∧ ∀ i v, (f x j)[i]? = some v → cs[j * k + i]? = some v) : Rw k P W (fun _ => True) (some ⟨g, 0, none⟩) n n l :=
  ⟨hl, Nat.le_refl _, ⟨by unfold maxLen; omega, by omega⟩, .inr ⟨g, 0, rfl, trivial, h.lt, fun j x hx => ⟨f x j, (hf j x hx).1, fun i v hv => by rw [Nat.zero_add]; exact (h.cell _).trans ((hf j x hx).2.2 i v hv), (hf j x hx).2.1⟩⟩⟩
theorem one_at {α : Type} {x y : α} {j : Nat} (h : [x][j]? = some y) : j = 0 ∧ y = x := by
  cases j with
  | zero => simp at h; exact ⟨rfl, h.symm⟩
  | succ j => simp at h
theorem two_at {α : Type} {x y z : α} {j : Nat} (h : [x, y][j]? = some z) : j = 0 ∧ z = x ∨ j = 1 ∧ z = y := by
  match j, h with
  | 0, h => simp at h; exact .inl ⟨rfl, h.symm⟩
  | 1, h => simp at h; exact .inr ⟨rfl, h.symm⟩
  | j + 2, h => simp at h
theorem ob_ms {m : Mat} (h : Ob W g 54 m.cells.toArray) (hok : m.ok) : Ms W (fun _ => True) (some ⟨g, 0, none⟩) 1 1 [m] :=
  h.row (fun x _ => x.cells) rfl (by omega) fun j x hx => by
    obtain ⟨rfl, rfl⟩ := one_at hx
    exact ⟨rfl, ⟨rfl, hok⟩, fun i v hv => by rw [Nat.zero_mul, Nat.zero_add]; simpa using hv⟩
theorem ob_als {a b : Value} {x y : List Mat} (h : Ob W g 55 #[a, b]) (h1 : ∃ A n c, a = .slice A n c ∧ Ms W (fun _ => True) A n c x) (h2 : ∃ A n c, b = .slice A n c ∧ Ms W (fun _ => True) A n c y) : Als W (fun _ => True) (some ⟨g, 0, none⟩) 2 2 [x, y] :=
  h.row (fun _ j => if j = 0 then [a] else [b]) rfl (by omega) fun j z hz => by
    rcases two_at hz with ⟨rfl, rfl⟩ | ⟨rfl, rfl⟩
    · refine ⟨rfl, ?_, fun i v hv => ?_⟩
      · obtain ⟨A, n, c, e, hm⟩ := h1; exact ⟨A, n, c, by rw [e]; rfl, hm⟩
      · cases i with
        | zero => simpa using hv
        | succ i => simp at hv
    · refine ⟨rfl, ?_, fun i v hv => ?_⟩
      · obtain ⟨A, n, c, e, hm⟩ := h2; exact ⟨A, n, c, by rw [e]; rfl, hm⟩
      · cases i with
        | zero => simpa using hv
        | succ i => simp at hv
theorem ob_tg {a : Value} {x : List (List Mat)} (h : Ob W g 56 #[a]) (h1 : ∃ A n c, a = .slice A n c ∧ Als W (fun _ => True) A n c x) : Tg W (fun _ => True) (some ⟨g, 0, none⟩) 1 1 [x] :=
  h.row (fun _ j => [a]) rfl (by omega) fun j z hz => by
    obtain ⟨rfl, rfl⟩ := one_at hz
    obtain ⟨A, n, c, e, hm⟩ := h1
    refine ⟨rfl, ⟨A, n, c, by rw [e], hm⟩, fun i v hv => ?_⟩
    cases i with
    | zero => simpa using hv
    | succ i => simp at hv
theorem ob_nds {x y : Nod} (h : Ob W g 58 (x.cells ++ y.cells).toArray) (hx : x.ok) (hy : y.ok) : Nds W (fun _ => True) (some ⟨g, 0, none⟩) 2 2 [x, y] :=
  h.row (fun z _ => z.cells) rfl (by omega) fun j z hz => by
    rcases two_at hz with ⟨rfl, rfl⟩ | ⟨rfl, rfl⟩
    · refine ⟨rfl, ⟨rfl, hx⟩, fun i v hv => ?_⟩
      have hi : i < 7 := by
        rcases Nat.lt_or_ge i 7 with h | h
        · exact h
        · rw [List.getElem?_eq_none (by simpa [Nod.cells] using h)] at hv; cases hv
      rw [Nat.zero_mul, Nat.zero_add, List.getElem?_toArray, List.getElem?_append_left (by simpa [Nod.cells] using hi)]
      exact hv
    · refine ⟨rfl, ⟨rfl, hy⟩, fun i v hv => ?_⟩
      rw [List.getElem?_toArray, List.getElem?_append_right (by simp [Nod.cells])]
      rw [show 1 * 7 + i - x.cells.length = i by simp [Nod.cells]]
      exact hv
theorem ob_rus {r : Rul} {a b d : Value} (h : Ob W g 37 #[.string r.id, .bool r.deny, a, b, d]) (h0 : r.id.size ≤ maxLen) (h1 : ∃ A n c, a = .slice A n c ∧ Tg W (fun _ => True) A n c r.tg) (h2 : ∃ A n c, b = .slice A n c ∧ Nds W (fun _ => True) A n c r.cond) (h3 : ∃ A n c, d = .slice A n c ∧ Dus W (fun _ => True) A n c r.ob) : Rus W (fun _ => True) (some ⟨g, 0, none⟩) 1 1 [r] :=
  h.row (fun _ j => [.string r.id, .bool r.deny, a, b, d]) rfl (by omega) fun j z hz => by
    obtain ⟨rfl, rfl⟩ := one_at hz
    obtain ⟨A1, n1, c1, e1, t1⟩ := h1
    obtain ⟨A2, n2, c2, e2, t2⟩ := h2
    obtain ⟨A3, n3, c3, e3, t3⟩ := h3
    refine ⟨rfl, ⟨A1, n1, c1, A2, n2, c2, A3, n3, c3, by rw [e1, e2, e3], h0, t1, t2, t3⟩, fun i v hv => ?_⟩
    rw [Nat.zero_mul, Nat.zero_add]
    simpa using hv
theorem ob_dus {o : Dut} (h : Ob W g 60 o.cells.toArray) (hok : o.ok) : Dus W (fun _ => True) (some ⟨g, 0, none⟩) 1 1 [o] :=
  h.row (fun x _ => x.cells) rfl (by omega) fun j x hx => by
    obtain ⟨rfl, rfl⟩ := one_at hx
    exact ⟨rfl, ⟨rfl, hok⟩, fun i v hv => by rw [Nat.zero_mul, Nat.zero_add]; simpa using hv⟩
end
theorem made10 {w W : World} {t : TypeId} {cs : Array Value} {g : Nat} (hb : Below (w.alloc (.cells cs t)).heap.size (w.alloc (.cells cs t)) W) (hg : g = w.heap.size) : Ob W g t cs := by
  subst hg
  exact Ob.below (Ob.made _ _ _) hb (by simp)

theorem runs10_in (w : World) : Below w.heap.size w ((((((((((w.alloc (.cells #[.int .i64 3, .string ⟨#[111, 119, 110, 101, 114]⟩, .bool true] 50)).alloc (.cells #[.int .i64 3, .string ⟨#[111, 119, 110, 101, 114]⟩, .bool true, .int .i64 1, .int .i64 5, .int .i64 0, .string ⟨#[97, 110, 110]⟩] 54)).alloc (.cells #[.int .i64 3, .string ⟨#[111, 119, 110, 101, 114]⟩, .bool true, .int .i64 1, .int .i64 2, .int .i64 1, .string ⟨#[]⟩] 54)).alloc (.cells #[.slice (some ⟨w.heap.size + 1, 0, none⟩) 1 1, .slice (some ⟨w.heap.size + 1 + 1, 0, none⟩) 1 1] 55)).alloc (.cells #[.slice (some ⟨w.heap.size + 1 + 1 + 1, 0, none⟩) 2 2] 56)).alloc (.cells #[.int .i64 1, .int .i64 1, .int .i64 1, .string ⟨#[]⟩, .int .i64 0, .string ⟨#[]⟩, .bool false, .int .i64 11, .int .i64 0, .int .i64 0, .string ⟨#[]⟩, .int .i64 0, .string ⟨#[]⟩, .bool false] 58)).alloc (.cells #[.string ⟨#[114]⟩, .bool true, .slice (some ⟨w.heap.size + 1 + 1 + 1 + 1, 0, none⟩) 1 1, .slice (some ⟨w.heap.size + 1 + 1 + 1 + 1 + 1, 0, none⟩) 2 2, .slice none 0 0] 37)).alloc (.cells #[.string ⟨#[114]⟩, .bool true, .slice (some ⟨w.heap.size + 1 + 1 + 1 + 1, 0, none⟩) 1 1, .slice (some ⟨w.heap.size + 1 + 1 + 1 + 1 + 1, 0, none⟩) 2 2, .slice none 0 0] 37)).alloc (.cells #[.int .i64 1, .int .i64 1, .string ⟨#[120]⟩] 60)).alloc (.cells #[.string ⟨#[112]⟩, .bool false, .int .i64 1, .slice none 0 0, .slice (some ⟨w.heap.size + 1 + 1 + 1 + 1 + 1 + 1 + 1, 0, none⟩) 1 1, .slice none 0 0, .slice (some ⟨w.heap.size + 1 + 1 + 1 + 1 + 1 + 1 + 1 + 1, 0, none⟩) 1 1] 28)) ∧ Ob ((((((((((w.alloc (.cells #[.int .i64 3, .string ⟨#[111, 119, 110, 101, 114]⟩, .bool true] 50)).alloc (.cells #[.int .i64 3, .string ⟨#[111, 119, 110, 101, 114]⟩, .bool true, .int .i64 1, .int .i64 5, .int .i64 0, .string ⟨#[97, 110, 110]⟩] 54)).alloc (.cells #[.int .i64 3, .string ⟨#[111, 119, 110, 101, 114]⟩, .bool true, .int .i64 1, .int .i64 2, .int .i64 1, .string ⟨#[]⟩] 54)).alloc (.cells #[.slice (some ⟨w.heap.size + 1, 0, none⟩) 1 1, .slice (some ⟨w.heap.size + 1 + 1, 0, none⟩) 1 1] 55)).alloc (.cells #[.slice (some ⟨w.heap.size + 1 + 1 + 1, 0, none⟩) 2 2] 56)).alloc (.cells #[.int .i64 1, .int .i64 1, .int .i64 1, .string ⟨#[]⟩, .int .i64 0, .string ⟨#[]⟩, .bool false, .int .i64 11, .int .i64 0, .int .i64 0, .string ⟨#[]⟩, .int .i64 0, .string ⟨#[]⟩, .bool false] 58)).alloc (.cells #[.string ⟨#[114]⟩, .bool true, .slice (some ⟨w.heap.size + 1 + 1 + 1 + 1, 0, none⟩) 1 1, .slice (some ⟨w.heap.size + 1 + 1 + 1 + 1 + 1, 0, none⟩) 2 2, .slice none 0 0] 37)).alloc (.cells #[.string ⟨#[114]⟩, .bool true, .slice (some ⟨w.heap.size + 1 + 1 + 1 + 1, 0, none⟩) 1 1, .slice (some ⟨w.heap.size + 1 + 1 + 1 + 1 + 1, 0, none⟩) 2 2, .slice none 0 0] 37)).alloc (.cells #[.int .i64 1, .int .i64 1, .string ⟨#[120]⟩] 60)).alloc (.cells #[.string ⟨#[112]⟩, .bool false, .int .i64 1, .slice none 0 0, .slice (some ⟨w.heap.size + 1 + 1 + 1 + 1 + 1 + 1 + 1, 0, none⟩) 1 1, .slice none 0 0, .slice (some ⟨w.heap.size + 1 + 1 + 1 + 1 + 1 + 1 + 1 + 1, 0, none⟩) 1 1] 28)) (w.heap.size + 1 + 1 + 1 + 1 + 1 + 1 + 1 + 1 + 1) 28 #[.string ⟨#[112]⟩, .bool false, .int .i64 1, .slice none 0 0, .slice (some ⟨w.heap.size + 1 + 1 + 1 + 1 + 1 + 1 + 1, 0, none⟩) 1 1, .slice none 0 0, .slice (some ⟨w.heap.size + 1 + 1 + 1 + 1 + 1 + 1 + 1 + 1, 0, none⟩) 1 1] ∧
    PolIn ((((((((((w.alloc (.cells #[.int .i64 3, .string ⟨#[111, 119, 110, 101, 114]⟩, .bool true] 50)).alloc (.cells #[.int .i64 3, .string ⟨#[111, 119, 110, 101, 114]⟩, .bool true, .int .i64 1, .int .i64 5, .int .i64 0, .string ⟨#[97, 110, 110]⟩] 54)).alloc (.cells #[.int .i64 3, .string ⟨#[111, 119, 110, 101, 114]⟩, .bool true, .int .i64 1, .int .i64 2, .int .i64 1, .string ⟨#[]⟩] 54)).alloc (.cells #[.slice (some ⟨w.heap.size + 1, 0, none⟩) 1 1, .slice (some ⟨w.heap.size + 1 + 1, 0, none⟩) 1 1] 55)).alloc (.cells #[.slice (some ⟨w.heap.size + 1 + 1 + 1, 0, none⟩) 2 2] 56)).alloc (.cells #[.int .i64 1, .int .i64 1, .int .i64 1, .string ⟨#[]⟩, .int .i64 0, .string ⟨#[]⟩, .bool false, .int .i64 11, .int .i64 0, .int .i64 0, .string ⟨#[]⟩, .int .i64 0, .string ⟨#[]⟩, .bool false] 58)).alloc (.cells #[.string ⟨#[114]⟩, .bool true, .slice (some ⟨w.heap.size + 1 + 1 + 1 + 1, 0, none⟩) 1 1, .slice (some ⟨w.heap.size + 1 + 1 + 1 + 1 + 1, 0, none⟩) 2 2, .slice none 0 0] 37)).alloc (.cells #[.string ⟨#[114]⟩, .bool true, .slice (some ⟨w.heap.size + 1 + 1 + 1 + 1, 0, none⟩) 1 1, .slice (some ⟨w.heap.size + 1 + 1 + 1 + 1 + 1, 0, none⟩) 2 2, .slice none 0 0] 37)).alloc (.cells #[.int .i64 1, .int .i64 1, .string ⟨#[120]⟩] 60)).alloc (.cells #[.string ⟨#[112]⟩, .bool false, .int .i64 1, .slice none 0 0, .slice (some ⟨w.heap.size + 1 + 1 + 1 + 1 + 1 + 1 + 1, 0, none⟩) 1 1, .slice none 0 0, .slice (some ⟨w.heap.size + 1 + 1 + 1 + 1 + 1 + 1 + 1 + 1, 0, none⟩) 1 1] 28)) (fun _ => True) sP none 0 0 (some ⟨w.heap.size + 1 + 1 + 1 + 1 + 1 + 1 + 1, 0, none⟩) 1 1 none 0 0 (some ⟨w.heap.size + 1 + 1 + 1 + 1 + 1 + 1 + 1 + 1, 0, none⟩) 1 1 := by
  obtain ⟨w1, h1⟩ : ∃ x, x = w.alloc (.cells #[.int .i64 3, .string ⟨#[111, 119, 110, 101, 114]⟩, .bool true] 50) := ⟨_, rfl⟩
  rw [← h1]
  have b1 : Below w.heap.size w w1 := h1 ▸ al9' _ _
  have s1 : w1.heap.size = w.heap.size + 1 := by rw [h1]; exact size_al _ _
  obtain ⟨w2, h2⟩ : ∃ x, x = w1.alloc (.cells #[.int .i64 3, .string ⟨#[111, 119, 110, 101, 114]⟩, .bool true, .int .i64 1, .int .i64 5, .int .i64 0, .string ⟨#[97, 110, 110]⟩] 54) := ⟨_, rfl⟩
  rw [← h2]
  have b2 : Below w1.heap.size w1 w2 := h2 ▸ al9' _ _
  have s2 : w2.heap.size = w1.heap.size + 1 := by rw [h2]; exact size_al _ _
  obtain ⟨w3, h3⟩ : ∃ x, x = w2.alloc (.cells #[.int .i64 3, .string ⟨#[111, 119, 110, 101, 114]⟩, .bool true, .int .i64 1, .int .i64 2, .int .i64 1, .string ⟨#[]⟩] 54) := ⟨_, rfl⟩
  rw [← h3]
  have b3 : Below w2.heap.size w2 w3 := h3 ▸ al9' _ _
  have s3 : w3.heap.size = w2.heap.size + 1 := by rw [h3]; exact size_al _ _
  obtain ⟨w4, h4⟩ : ∃ x, x = w3.alloc (.cells #[.slice (some ⟨w.heap.size + 1, 0, none⟩) 1 1, .slice (some ⟨w.heap.size + 1 + 1, 0, none⟩) 1 1] 55) := ⟨_, rfl⟩
  rw [← h4]
  have b4 : Below w3.heap.size w3 w4 := h4 ▸ al9' _ _
  have s4 : w4.heap.size = w3.heap.size + 1 := by rw [h4]; exact size_al _ _
  obtain ⟨w5, h5⟩ : ∃ x, x = w4.alloc (.cells #[.slice (some ⟨w.heap.size + 1 + 1 + 1, 0, none⟩) 2 2] 56) := ⟨_, rfl⟩
  rw [← h5]
  have b5 : Below w4.heap.size w4 w5 := h5 ▸ al9' _ _
  have s5 : w5.heap.size = w4.heap.size + 1 := by rw [h5]; exact size_al _ _
  obtain ⟨w6, h6⟩ : ∃ x, x = w5.alloc (.cells #[.int .i64 1, .int .i64 1, .int .i64 1, .string ⟨#[]⟩, .int .i64 0, .string ⟨#[]⟩, .bool false, .int .i64 11, .int .i64 0, .int .i64 0, .string ⟨#[]⟩, .int .i64 0, .string ⟨#[]⟩, .bool false] 58) := ⟨_, rfl⟩
  rw [← h6]
  have b6 : Below w5.heap.size w5 w6 := h6 ▸ al9' _ _
  have s6 : w6.heap.size = w5.heap.size + 1 := by rw [h6]; exact size_al _ _
  obtain ⟨w7, h7⟩ : ∃ x, x = w6.alloc (.cells #[.string ⟨#[114]⟩, .bool true, .slice (some ⟨w.heap.size + 1 + 1 + 1 + 1, 0, none⟩) 1 1, .slice (some ⟨w.heap.size + 1 + 1 + 1 + 1 + 1, 0, none⟩) 2 2, .slice none 0 0] 37) := ⟨_, rfl⟩
  rw [← h7]
  have b7 : Below w6.heap.size w6 w7 := h7 ▸ al9' _ _
  have s7 : w7.heap.size = w6.heap.size + 1 := by rw [h7]; exact size_al _ _
  obtain ⟨w8, h8⟩ : ∃ x, x = w7.alloc (.cells #[.string ⟨#[114]⟩, .bool true, .slice (some ⟨w.heap.size + 1 + 1 + 1 + 1, 0, none⟩) 1 1, .slice (some ⟨w.heap.size + 1 + 1 + 1 + 1 + 1, 0, none⟩) 2 2, .slice none 0 0] 37) := ⟨_, rfl⟩
  rw [← h8]
  have b8 : Below w7.heap.size w7 w8 := h8 ▸ al9' _ _
  have s8 : w8.heap.size = w7.heap.size + 1 := by rw [h8]; exact size_al _ _
  obtain ⟨w9, h9⟩ : ∃ x, x = w8.alloc (.cells #[.int .i64 1, .int .i64 1, .string ⟨#[120]⟩] 60) := ⟨_, rfl⟩
  rw [← h9]
  have b9 : Below w8.heap.size w8 w9 := h9 ▸ al9' _ _
  have s9 : w9.heap.size = w8.heap.size + 1 := by rw [h9]; exact size_al _ _
  obtain ⟨w10, h10⟩ : ∃ x, x = w9.alloc (.cells #[.string ⟨#[112]⟩, .bool false, .int .i64 1, .slice none 0 0, .slice (some ⟨w.heap.size + 1 + 1 + 1 + 1 + 1 + 1 + 1, 0, none⟩) 1 1, .slice none 0 0, .slice (some ⟨w.heap.size + 1 + 1 + 1 + 1 + 1 + 1 + 1 + 1, 0, none⟩) 1 1] 28) := ⟨_, rfl⟩
  rw [← h10]
  have b10 : Below w9.heap.size w9 w10 := h10 ▸ al9' _ _
  have s10 : w10.heap.size = w9.heap.size + 1 := by rw [h10]; exact size_al _ _
  have e10 : Below w10.heap.size w10 w10 := Below.refl _ _
  have e9 : Below w9.heap.size w9 w10 := below_step b10 e10
  have e8 : Below w8.heap.size w8 w10 := below_step b9 e9
  have e7 : Below w7.heap.size w7 w10 := below_step b8 e8
  have e6 : Below w6.heap.size w6 w10 := below_step b7 e7
  have e5 : Below w5.heap.size w5 w10 := below_step b6 e6
  have e4 : Below w4.heap.size w4 w10 := below_step b5 e5
  have e3 : Below w3.heap.size w3 w10 := below_step b4 e4
  have e2 : Below w2.heap.size w2 w10 := below_step b3 e3
  have e1 : Below w1.heap.size w1 w10 := below_step b2 e2
  have e0 : Below w.heap.size w w10 := below_step b1 e1
  have o1 : Ob w10 (w.heap.size) 50 #[.int .i64 3, .string ⟨#[111, 119, 110, 101, 114]⟩, .bool true] := made10 (h1 ▸ e1) (by omega)
  have o2 : Ob w10 (w.heap.size + 1) 54 #[.int .i64 3, .string ⟨#[111, 119, 110, 101, 114]⟩, .bool true, .int .i64 1, .int .i64 5, .int .i64 0, .string ⟨#[97, 110, 110]⟩] := made10 (h2 ▸ e2) (by omega)
  have o3 : Ob w10 (w.heap.size + 1 + 1) 54 #[.int .i64 3, .string ⟨#[111, 119, 110, 101, 114]⟩, .bool true, .int .i64 1, .int .i64 2, .int .i64 1, .string ⟨#[]⟩] := made10 (h3 ▸ e3) (by omega)
  have o4 : Ob w10 (w.heap.size + 1 + 1 + 1) 55 #[.slice (some ⟨w.heap.size + 1, 0, none⟩) 1 1, .slice (some ⟨w.heap.size + 1 + 1, 0, none⟩) 1 1] := made10 (h4 ▸ e4) (by omega)
  have o5 : Ob w10 (w.heap.size + 1 + 1 + 1 + 1) 56 #[.slice (some ⟨w.heap.size + 1 + 1 + 1, 0, none⟩) 2 2] := made10 (h5 ▸ e5) (by omega)
  have o6 : Ob w10 (w.heap.size + 1 + 1 + 1 + 1 + 1) 58 #[.int .i64 1, .int .i64 1, .int .i64 1, .string ⟨#[]⟩, .int .i64 0, .string ⟨#[]⟩, .bool false, .int .i64 11, .int .i64 0, .int .i64 0, .string ⟨#[]⟩, .int .i64 0, .string ⟨#[]⟩, .bool false] := made10 (h6 ▸ e6) (by omega)
  have o7 : Ob w10 (w.heap.size + 1 + 1 + 1 + 1 + 1 + 1) 37 #[.string ⟨#[114]⟩, .bool true, .slice (some ⟨w.heap.size + 1 + 1 + 1 + 1, 0, none⟩) 1 1, .slice (some ⟨w.heap.size + 1 + 1 + 1 + 1 + 1, 0, none⟩) 2 2, .slice none 0 0] := made10 (h7 ▸ e7) (by omega)
  have o8 : Ob w10 (w.heap.size + 1 + 1 + 1 + 1 + 1 + 1 + 1) 37 #[.string ⟨#[114]⟩, .bool true, .slice (some ⟨w.heap.size + 1 + 1 + 1 + 1, 0, none⟩) 1 1, .slice (some ⟨w.heap.size + 1 + 1 + 1 + 1 + 1, 0, none⟩) 2 2, .slice none 0 0] := made10 (h8 ▸ e8) (by omega)
  have o9 : Ob w10 (w.heap.size + 1 + 1 + 1 + 1 + 1 + 1 + 1 + 1) 60 #[.int .i64 1, .int .i64 1, .string ⟨#[120]⟩] := made10 (h9 ▸ e9) (by omega)
  have o10 : Ob w10 (w.heap.size + 1 + 1 + 1 + 1 + 1 + 1 + 1 + 1 + 1) 28 #[.string ⟨#[112]⟩, .bool false, .int .i64 1, .slice none 0 0, .slice (some ⟨w.heap.size + 1 + 1 + 1 + 1 + 1 + 1 + 1, 0, none⟩) 1 1, .slice none 0 0, .slice (some ⟨w.heap.size + 1 + 1 + 1 + 1 + 1 + 1 + 1 + 1, 0, none⟩) 1 1] := by
    have hh := Ob.made w9 28 #[.string ⟨#[112]⟩, .bool false, .int .i64 1, .slice none 0 0, .slice (some ⟨w.heap.size + 1 + 1 + 1 + 1 + 1 + 1 + 1, 0, none⟩) 1 1, .slice none 0 0, .slice (some ⟨w.heap.size + 1 + 1 + 1 + 1 + 1 + 1 + 1 + 1, 0, none⟩) 1 1]
    rw [← h10, show w9.heap.size = w.heap.size + 1 + 1 + 1 + 1 + 1 + 1 + 1 + 1 + 1 by omega] at hh
    exact hh
  have m1 := ob_ms (m := sM1) o2 (by decide +kernel)
  have m2 := ob_ms (m := sM2) o3 (by decide +kernel)
  have al := ob_als o4 ⟨_, _, _, rfl, m1⟩ ⟨_, _, _, rfl, m2⟩
  have tg := ob_tg o5 ⟨_, _, _, rfl, al⟩
  have nd := ob_nds (x := sN1) (y := sN2) o6 (by decide +kernel) (by decide +kernel)
  have ru := ob_rus (r := sR) o8 (by decide +kernel) ⟨_, _, _, rfl, tg⟩ ⟨_, _, _, rfl, nd⟩ ⟨_, _, _, rfl, Rw.nil_ _ _ _ _⟩
  have du := ob_dus (o := sD) o9 (by decide +kernel)
  exact ⟨e0, o10, ⟨by decide +kernel, by decide +kernel⟩, Rw.nil_ _ _ _ _, ru, ⟨1, Rw.nil_ _ _ _ _⟩, du⟩

set_option maxHeartbeats 3200000 in
set_option maxRecDepth 100000 in
theorem runs10_any (w : World) (ht : Tbl w) : Calls Tryd.prog 6 #[] w fun e w' => e = .returned (.bool true) ∧ Below w.heap.size w w' := by
  obtain ⟨hb, ob, hin⟩ := runs10_in w
  have HC := Lib.hid (show_pol hin (ht.then_ hb))
  rw [sP_text] at HC
  have HB := Lib.hid hb
  have c0 := ob.cell 0
  have c1 := ob.cell 1
  have c2 := ob.cell 2
  have c3 := ob.cell 3
  have c4 := ob.cell 4
  have c5 := ob.cell 5
  have c6 := ob.cell 6
  clear hb ob hin ht
  go_enter Tryd.func6, Tryd.ntmps6
  go_wp2_with (go_at_call 9; refine HC.out.mono ?_; rintro e w1 ⟨rfl, hb1⟩; have B1 := Lib.hid (HB.out.trans (hb1.mono HB.out.size)))
  go_ret
  exact ⟨rfl, B1.out⟩
theorem showRuns_walk (w : World) (ht : Tbl w) : Calls Tryd.prog 6 #[] w fun e w' => e = .returned (.bool true) ∧ Below w.heap.size w w' := runs10_any w ht
end Go.Proofs.YtincnopaclmppaaDoor
/- Calls of Right and Small, in any later world. -/
namespace Go.Proofs.YtincnopaclmppaaDoor
set_option linter.unusedVariables false
open Go.RowKit

section
variable {w : World} {R : Nat → Prop} {p : Pol} {A1 A2 A3 A4 : Option Addr} {n1 k1 n2 k2 n3 k3 n4 k4 : Nat}
theorem call_right {r : Int} (hr : rightE p = r) (h : PolIn w R p A1 n1 k1 A2 n2 k2 A3 n3 k3 A4 n4 k4) (V : World) (hV : Below w.heap.size w V) :
    Calls Tryd.prog 5 #[.agg #[.string p.id, .bool p.set, .int .i64 p.alg, .slice A1 n1 k1, .slice A2 n2 k2, .slice A3 n3 k3, .slice A4 n4 k4]] V fun e w' => e = .returned (.int .i64 r) ∧ Below V.heap.size V w' := by
  have := right_pol (h.then_ hV)
  rwa [hr] at this
/-- Is it small? Whatever it is, it is so of the policy alone. -/
theorem call_small (h : PolIn w R p A1 n1 k1 A2 n2 k2 A3 n3 k3 A4 n4 k4) : ∃ d, (∃ m, d = m + 1 ∧ Pls w R m A3 n3 k3 p.kids) ∧ ∀ V, Below w.heap.size w V →
    Calls Tryd.prog 4 #[.agg #[.string p.id, .bool p.set, .int .i64 p.alg, .slice A1 n1 k1, .slice A2 n2 k2, .slice A3 n3 k3, .slice A4 n4 k4]] V fun e w' => e = .returned (.bool (decide (polC d p ≤ 3000))) ∧ Below V.heap.size V w' := by
  obtain ⟨h0, h1, h2, ⟨m, h3⟩, h4⟩ := h
  refine ⟨m + 1, ⟨m, rfl, h3⟩, fun V hV => ?_⟩
  have hk := Kept.all hV R
  exact small_pol h0.1 (h1.keep hk (fun _ h _ => h)) (h2.keep hk (fun _ h _ => h)) (h3.keep hk (fun _ h _ => h)) (h4.keep hk (fun _ h _ => h))
end
end Go.Proofs.YtincnopaclmppaaDoor
/- Seven cells stored over others. -/
namespace Go.Proofs.YtincnopaclmppaaDoor
set_option linter.unusedVariables false
open Go.RowKit

/-- Seven cells stored over others. -/
def put1W (V : World) (P : Nat) (b0 : Value) : World := V.setCell ⟨P, 0, none⟩ b0
def put2W (V : World) (P : Nat) (b0 b1 : Value) : World := (put1W V P b0).setCell ⟨P, 1, none⟩ b1
def put3W (V : World) (P : Nat) (b0 b1 b2 : Value) : World := (put2W V P b0 b1).setCell ⟨P, 2, none⟩ b2
def put4W (V : World) (P : Nat) (b0 b1 b2 b3 : Value) : World := (put3W V P b0 b1 b2).setCell ⟨P, 3, none⟩ b3
def put5W (V : World) (P : Nat) (b0 b1 b2 b3 b4 : Value) : World := (put4W V P b0 b1 b2 b3).setCell ⟨P, 4, none⟩ b4
def put6W (V : World) (P : Nat) (b0 b1 b2 b3 b4 b5 : Value) : World := (put5W V P b0 b1 b2 b3 b4).setCell ⟨P, 5, none⟩ b5
def put7W (V : World) (P : Nat) (b0 b1 b2 b3 b4 b5 b6 : Value) : World := (put6W V P b0 b1 b2 b3 b4 b5).setCell ⟨P, 6, none⟩ b6
section
variable {V : World} {P : Nat} {t : TypeId} {a0 a1 a2 a3 a4 a5 a6 : Value}
theorem put1_ob (h : Ob V P t #[a0, a1, a2, a3, a4, a5, a6]) (b0 : Value) : Ob (put1W V P b0) P t #[b0, a1, a2, a3, a4, a5, a6] := h.put 0 b0
theorem put2_ob (h : Ob V P t #[a0, a1, a2, a3, a4, a5, a6]) (b0 b1 : Value) : Ob (put2W V P b0 b1) P t #[b0, b1, a2, a3, a4, a5, a6] := (put1_ob h b0).put 1 b1
theorem put3_ob (h : Ob V P t #[a0, a1, a2, a3, a4, a5, a6]) (b0 b1 b2 : Value) : Ob (put3W V P b0 b1 b2) P t #[b0, b1, b2, a3, a4, a5, a6] := (put2_ob h b0 b1).put 2 b2
theorem put4_ob (h : Ob V P t #[a0, a1, a2, a3, a4, a5, a6]) (b0 b1 b2 b3 : Value) : Ob (put4W V P b0 b1 b2 b3) P t #[b0, b1, b2, b3, a4, a5, a6] := (put3_ob h b0 b1 b2).put 3 b3
theorem put5_ob (h : Ob V P t #[a0, a1, a2, a3, a4, a5, a6]) (b0 b1 b2 b3 b4 : Value) : Ob (put5W V P b0 b1 b2 b3 b4) P t #[b0, b1, b2, b3, b4, a5, a6] := (put4_ob h b0 b1 b2 b3).put 4 b4
theorem put6_ob (h : Ob V P t #[a0, a1, a2, a3, a4, a5, a6]) (b0 b1 b2 b3 b4 b5 : Value) : Ob (put6W V P b0 b1 b2 b3 b4 b5) P t #[b0, b1, b2, b3, b4, b5, a6] := (put5_ob h b0 b1 b2 b3 b4).put 5 b5
theorem put7_ob (h : Ob V P t #[a0, a1, a2, a3, a4, a5, a6]) (b0 b1 b2 b3 b4 b5 b6 : Value) : Ob (put7W V P b0 b1 b2 b3 b4 b5 b6) P t #[b0, b1, b2, b3, b4, b5, b6] := (put6_ob h b0 b1 b2 b3 b4 b5).put 6 b6
theorem put7_only (b0 b1 b2 b3 b4 b5 b6 : Value) : Only P V (put7W V P b0 b1 b2 b3 b4 b5 b6) := by
  have on : ∀ {W : World} (q : Only P V W) (i : Nat) (b : Value), Only P V (W.setCell ⟨P, i, none⟩ b) := fun q i b => q.setCell rfl b
  exact on (on (on (on (on (on (on Only.refl 0 b0) 1 b1) 2 b2) 3 b3) 4 b4) 5 b5) 6 b6
end
end Go.Proofs.YtincnopaclmppaaDoor
/- bailiffbook.Within: a number brought between two bounds. -/
namespace Go.Proofs.YtincnopaclmppaaDoor
open Go.RowKit

def withinOf (n lo hi : Int) : Int := lo + n % (hi - lo + 1)
theorem within_le {n lo hi : Int} (h : lo ≤ hi) : lo ≤ withinOf n lo hi ∧ withinOf n lo hi ≤ hi := by
  unfold withinOf
  have h1 := Int.emod_nonneg n (b := hi - lo + 1) (by omega)
  have h2 := Int.emod_lt_of_pos n (b := hi - lo + 1) (by omega)
  omega

theorem tmod_emod {n m : Int} (hm : 0 < m) : -m ≤ n.tmod m ∧ n.tmod m < m ∧ ((n.tmod m < 0 ∧ n % m = n.tmod m + m) ∨ (0 ≤ n.tmod m ∧ n % m = n.tmod m)) := by
  have h1 := Int.emod_nonneg n (b := m) (by omega)
  have h2 := Int.emod_lt_of_pos n hm
  have e := Int.tmod_eq_emod (a := n) (b := m)
  split at e
  · omega
  · rw [Int.natAbs_of_nonneg (by omega)] at e
    omega

set_option maxHeartbeats 800000 in
theorem within_any {n lo hi : Int} {w : World} (h0 : 0 ≤ lo) (h1 : lo ≤ hi) (h2 : hi ≤ 4611686018427387904) :
    Calls Tryd.prog 8 #[.int .i64 n, .int .i64 lo, .int .i64 hi] w fun e w' => e = .returned (.int .i64 (withinOf n lo hi)) ∧ w = w' := by
  have hm := tmod_emod (n := n) (m := hi - lo + 1) (by omega)
  obtain ⟨hl, hb, hm⟩ := hm
  have HM := Lib.hid hm
  clear hm
  by_cases hneg : n.tmod (hi - lo + 1) < 0
  all_goals
    go_enter Tryd.func8, Tryd.ntmps8
    go_wp2_with fail
    go_ret
    refine ⟨ret_int ?_, rfl⟩
    have := HM.out
    unfold withinOf
    omega
end Go.Proofs.YtincnopaclmppaaDoor
/- What the rows of stage 10 lay: strconv's table and the words of package show. -/
namespace Go.Proofs.YtincnopaclmppaaDoor
set_option linter.unusedVariables false
open Go.RowKit

theorem cells_of_words {H : Type} {enc : TypeId × Value → H} {P : Program} {w : World} {base : Nat} {sp : Nat → Bool} {held : Bool} {fuel : Nat} {t e : TypeId} {n : Nat} {cs : List Value} {zs : List (List UInt8)} {p : List MemPlace}
    (ht : P.underlying t = some (.array n e)) (he : P.underlying e = some .string) (hce : P.cellsOf e = 1) (hct : P.cellsOf t = n)
    (h : DataW.trod enc P w base sp held fuel t cs = some (.agg (zs.map fun z => (DataW.lit (.string z) : DataW H)), p)) : cs = zs.map fun l => Value.string ⟨l.toArray⟩ := by
  cases fuel with
  | zero => simp [DataW.trod] at h
  | succ fuel =>
    simp only [DataW.trod, ht, hce, hct, Nat.mul_one] at h
    split at h
    · rename_i hl
      obtain ⟨xs, hm, hx⟩ := Option.map_eq_some_iff.1 h
      have hxs : xs.map (·.1) = zs.map fun z => (DataW.lit (.string z) : DataW H) := by
        have := congrArg Prod.fst hx
        simpa using this
      have hxl : xs.length = n := by simpa using Lib.mapM_length hm
      have hzl : zs.length = n := by
        have := congrArg List.length hxs
        simp at this
        omega
      apply List.ext_getElem?
      intro i
      by_cases hi : i < n
      · obtain ⟨b, hb, hf⟩ := Lib.mapM_at hm i i (by simp [hi])
        obtain ⟨s, hc, hx2, _⟩ := DataW.trod_string he hf
        have h1 : cs[i]? = some (.string s) := by
          have := congrArg (·[0]?) hc
          simpa [List.getElem?_take, List.getElem?_drop] using this
        have h2 : (xs.map (·.1))[i]? = some (DataW.lit (.string s.data.toList) : DataW H) := by
          rw [List.getElem?_map, hb, hx2]
          rfl
        rw [hxs] at h2
        simp only [List.getElem?_map, Option.map_eq_some_iff] at h2
        obtain ⟨z', hz', hzz⟩ := h2
        injection hzz with hzz
        injection hzz with hzz
        rw [h1, List.getElem?_map, hz', hzz]
        show some (Value.string s) = some (Value.string ⟨(bl s).toArray⟩)
        obtain ⟨⟨l⟩⟩ := s
        rfl
      · rw [List.getElem?_eq_none (by omega), List.getElem?_eq_none (by simp; omega)]
    · cases h
theorem tbl_of_laid {W : World} (h : laidMetH Tryd.prog Rows.showApartRow.laid W) : Tbl W := by
  rw [MakeChecks.laidMetH_plain _ _ _ (by kernel_rfl)] at h
  obtain ⟨ps, ⟨g0, t0, cs0, f0, p0, q0, hg0, ht0, hv0, hd0, ⟨g1, t1, cs1, f1, p1, q1, hg1, ht1, hv1, hd1, ⟨g2, t2, cs2, f2, p2, q2, hg2, ht2, hv2, hd2, ⟨g3, t3, cs3, f3, p3, q3, hg3, ht3, hv3, hd3, ⟨g4, t4, cs4, f4, p4, q4, hg4, ht4, hv4, hd4, ⟨g5, t5, cs5, f5, p5, q5, hg5, ht5, hv5, hd5, ⟨g6, t6, cs6, f6, p6, q6, hg6, ht6, hv6, hd6, ⟨g7, t7, cs7, f7, p7, q7, hg7, ht7, hv7, hd7, _, _⟩, _⟩, _⟩, _⟩, _⟩, _⟩, _⟩, _⟩, _, _⟩ := h
  obtain rfl := Option.some.inj ((show Tryd.prog.globalNamed "internal/strconv.uint64pow10" = some 6 by kernel_rfl).symm.trans hg2)
  obtain rfl := Option.some.inj ((show (Tryd.prog.globals[6]?).map (·.type) = some 145 by kernel_rfl).symm.trans ht2)
  have hc := Lib.cells_of_tab (k := .u64) (zs := Lib.pow10Tab) (n := 20) (e := 139) Tryd.underlying145 Tryd.underlying139 (by kernel_rfl) (by kernel_rfl) hd2
  obtain rfl := Option.some.inj ((show Tryd.prog.globalNamed "bailiff/show.algorithms" = some 0 by kernel_rfl).symm.trans hg3)
  obtain rfl := Option.some.inj ((show (Tryd.prog.globals[0]?).map (·.type) = some 83 by kernel_rfl).symm.trans ht3)
  have hc3 := cells_of_words (zs := algL) (n := 7) (e := 9) Tryd.underlying83 Tryd.underlying9 (by kernel_rfl) (by kernel_rfl) hd3
  obtain rfl := Option.some.inj ((show Tryd.prog.globalNamed "bailiff/show.categories" = some 5 by kernel_rfl).symm.trans hg4)
  obtain rfl := Option.some.inj ((show (Tryd.prog.globals[5]?).map (·.type) = some 101 by kernel_rfl).symm.trans ht4)
  have hc4 := cells_of_words (zs := catL) (n := 5) (e := 9) Tryd.underlying101 Tryd.underlying9 (by kernel_rfl) (by kernel_rfl) hd4
  obtain rfl := Option.some.inj ((show Tryd.prog.globalNamed "bailiff/show.functions" = some 3 by kernel_rfl).symm.trans hg5)
  obtain rfl := Option.some.inj ((show (Tryd.prog.globals[3]?).map (·.type) = some 127 by kernel_rfl).symm.trans ht5)
  have hc5 := cells_of_words (zs := fnL) (n := 14) (e := 9) Tryd.underlying127 Tryd.underlying9 (by kernel_rfl) (by kernel_rfl) hd5
  obtain rfl := Option.some.inj ((show Tryd.prog.globalNamed "bailiff/show.comparisons" = some 4 by kernel_rfl).symm.trans hg6)
  obtain rfl := Option.some.inj ((show (Tryd.prog.globals[4]?).map (·.type) = some 132 by kernel_rfl).symm.trans ht6)
  have hc6 := cells_of_words (zs := cmpL) (n := 4) (e := 9) Tryd.underlying132 Tryd.underlying9 (by kernel_rfl) (by kernel_rfl) hd6
  obtain rfl := Option.some.inj ((show Tryd.prog.globalNamed "bailiff/show.doings" = some 1 by kernel_rfl).symm.trans hg7)
  obtain rfl := Option.some.inj ((show (Tryd.prog.globals[1]?).map (·.type) = some 101 by kernel_rfl).symm.trans ht7)
  have hc7 := cells_of_words (zs := doL) (n := 5) (e := 9) Tryd.underlying101 Tryd.underlying9 (by kernel_rfl) (by kernel_rfl) hd7
  refine ⟨?_, ?_, ?_, ?_, ?_, ?_⟩
  · unfold Tab Lib.TabIs
    rw [hv2, ← hc]
  · unfold WordsIs
    rw [hv3, ← hc3]
  · unfold WordsIs
    rw [hv4, ← hc4]
  · unfold WordsIs
    rw [hv5, ← hc5]
  · unfold WordsIs
    rw [hv6, ← hc6]
  · unfold WordsIs
    rw [hv7, ← hc7]
end Go.Proofs.YtincnopaclmppaaDoor
/- The rows' condition, met at the program's own start. -/
namespace Go.Proofs.YtincnopaclmppaaDoor
open Go.ChangeShapes Go.WideShapes Go.ChangeAt Go.WideMaps Go.WideElems Go.RowKit

theorem own : ownKnob Tryd.prog.godebug = none := by kernel_rfl
theorem laidOut : laidOutB Tryd.prog = true := by kernel_rfl

/-- The door's own heap meets the condition. -/
theorem door_met (os : Os) (args : Array Value) : laidMetH Tryd.prog Rows.showApartRow.laid ((World.doorLaid Tryd.prog 300 os).forCall (fun _ _ => 0) ⟨#[], args, []⟩).memory :=
  laidMetH_of_parts3 (fuel := 8) (laidMet_of_run' 8 (by kernel_rfl) (by kernel_rfl)) (by kernel_rfl) (by kernel_rfl)
end Go.Proofs.YtincnopaclmppaaDoor
