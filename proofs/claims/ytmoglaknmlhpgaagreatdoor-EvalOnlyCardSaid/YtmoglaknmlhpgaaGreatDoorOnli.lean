/- Several texts in one: ShowWords, ShowAll, KeepTgt. -/
import Derived.Test.YtmoglaknmlhpgaaGreatDoorOnlh
import Derived.Test.YtmoglaknmlhpgaaGreatDoorOnlF
import Derived.Test.YtmoglaknmlhpgaaGreatDoorOnlG
/- A policy's words (the project's). -/
namespace Go.Proofs.YtmoglaknmlhpgaaGreatDoor
set_option linter.unusedVariables false
open Go.RowKit Go.Sort

theorem tr_ob {V : World} {g base : Nat} {x y z : ByteArray} (h : Ob V g 9 #[.string x, .string y, .string z]) (hb : base ≤ g) : TR V base (some ⟨g, 0, none⟩) 3 3 [bl x, bl y, bl z] := by
 unfold TR tv
 simp only [List.map_cons, List.map_nil, bl_toArray]
 exact ⟨rfl, .inr ⟨g, 3, _, rfl, hb, h, Nat.le_refl _, by unfold maxLen; omega, rfl, rfl⟩⟩
theorem only_down9 {g B : Nat} {w w' : World} (h : Only g w w') (hB : B ≤ g) (hw : g < w.heap.size) : Below B w w' := ⟨h.os, h.tape, h.output, h.size, fun k hk => h.heap (by omega) (by omega)⟩
theorem Rus.oks' {w : World} {R : Nat → Prop} {A : Option Addr} {n c : Nat} {l : List Rul} (h : Rus w R A n c l) : ∀ r ∈ l, r.oks := by
 intro a ha
 obtain ⟨j, hj, rfl⟩ := List.getElem_of_mem ha
 obtain ⟨b, o, r, A1, n1, c1, A2, n2, c2, A3, n3, c3, _, _, _, hx, _, _, h1, h2, _⟩ := h.at_ (j := j) (by have := Rw.len h; omega)
 rw [List.getElem?_eq_getElem hj] at hx
 injection hx with hx
 rw [hx]
 exact ⟨Tg.oks' h1, Rw.all h2⟩
theorem pls_oks : ∀ (d : Nat) {D : Nat} {w : World} {R : Nat → Prop} {A : Option Addr} {n c : Nat} {l : List Pol}, Pls w R D A n c l → ∀ k ∈ l, polOks d k
 | 0, _, _, _, _, _, _, _, _, _, _ => trivial
 | d + 1, _, _, _, _, _, _, l, h, k, hk => by
  obtain ⟨j, hj, rfl⟩ := List.getElem_of_mem hk
  obtain ⟨b, o, p, d', A1, n1, c1, A2, n2, c2, A3, n3, c3, A4, n4, c4, _, _, _, hx, _, _, _, h1, h2, h3, _⟩ := h.at_ (j := j) (by have := Rw.len h; omega)
  rw [List.getElem?_eq_getElem hj] at hx
  injection hx with hx
  rw [hx]
  exact ⟨Tg.oks' h1, Rus.oks' h2, pls_oks d h3⟩
theorem tail_flat {d : Nat} {l : List Pol} {k : Nat} {x : Pol} (hx : l[k]? = some x) : ((l.take (k + 1)).map (polW d)).flatten = ((l.take k).map (polW d)).flatten ++ polW d x := by
 rw [take_next hx, List.map_append, List.flatten_append]
 simp

def WdOk (d : Nat) : Prop := ∀ {w : World} {R : Nat → Prop} {D : Nat} {p : Pol} {s s' : Seen} {A1 A2 A3 A4 : Option Addr} {n1 c1 n2 c2 n3 c3 n4 c4 : Nat}, polS d p s = (0, s') → polOks d p → Tg w R A1 n1 c1 p.tg → Rus w R A2 n2 c2 p.rules → Pls w R D A3 n3 c3 p.kids → Dus w R A4 n4 c4 p.ob → Tbl w →
  Calls Tryz.prog 22 #[.agg #[.string p.id, .bool p.set, .int .i64 p.alg, .slice A1 n1 c1, .slice A2 n2 c2, .slice A3 n3 c3, .slice A4 n4 c4]] w fun e w' => ∃ B n c, e = .returned (.slice B n c) ∧ TR w' w.heap.size B n c (polW d p) ∧ Below w.heap.size w w'

set_option maxHeartbeats 12800000 in
set_option maxRecDepth 100000 in
theorem words_step (d : Nat) (hd : d ≤ 3) (ih : WdOk d) : WdOk (d + 1) := by
  intro w R D p s s' A1 A2 A3 A4 n1 c1 n2 c2 n3 c3 n4 c4 hp hok h1 h2 h3 h4 ht
  have hpl := polW_len (d + 1) hp hok
  obtain ⟨hid, hfit, htg, hob, ⟨h16, k16⟩, s1, s2, hs1, hr, hk⟩ := pol_parts hp
  obtain ⟨hok1, hok2, hok3⟩ := hok
  have hrf := rules_fine hr
  have hkf := kids_fine hk
  obtain ⟨halg, _, _⟩ := fits_all hfit
  have hN := wordsN_le (d := 3) (by omega)
  have hNd : wordsN d ≤ 10920 := by
    have : d = 0 ∨ d = 1 ∨ d = 2 ∨ d = 3 := by omega
    rcases this with rfl | rfl | rfl | rfl <;> decide
  have hkl := fun k hkk => (polW_len d (hkf k hkk).choose_spec.choose_spec (hok3 k hkk)).1
  have hl2 := Rw.len h2
  have hl3 := Rw.len h3
  have hl4 := Rw.len h4
  have ho8 := (obE_all hob).1
  have hle2 := Rw.le h2
  have hle3 := Rw.le h3
  have hcp2 := Rw.cap h2
  have hcp3 := Rw.cap h3
  unfold maxLen at hcp2 hcp3
  have HT : Hid (∀ W, Below w.heap.size w W → Tbl W) := fun W hb => ht.then_ hb
  have CT := Lib.hid (fun (W : World) (hb : Below w.heap.size w W) => show_target W (h1.keep (Kept.all hb R) (fun _ h _ => h)) htg (HT.out _ hb))
  have CD := Lib.hid (fun (W : World) (hb : Below w.heap.size w W) => texts_duty (h4.keep (Kept.all hb R) (fun _ h _ => h)) (by omega) (obE_all hob).2 (HT.out _ hb))
  have H2 := Lib.hid h2
  have H3 := Lib.hid h3
  have HRF := Lib.hid hrf
  have HKF := Lib.hid hkf
  have HKL := Lib.hid hkl
  have HK3 := Lib.hid hok3
  obtain ⟨x2, hx2⟩ : ∃ x : ByteArray, x = ⟨(algW p.alg).toArray⟩ := ⟨_, rfl⟩
  have HG : Hid (∀ W, Below w.heap.size w W → W.cell? ⟨0, p.alg.toNat, none⟩ = some (.string x2)) := fun W hb => by
    rw [hx2]; exact (HT.out _ hb).alg (by omega) (by omega)
  have hi : 0 ≤ p.alg ∧ p.alg < 7 := by omega
  have hid16 : p.id.size ≤ 16 := hid.1.2
  have HW : Hid (polW (d + 1) p = [headW p, bl p.id, bl x2] ++ tgW p.tg ++ [bl ⟨#[123]⟩] ++ p.rules.map rulT ++ (p.kids.map (polW d)).flatten ++ [bl ⟨#[125]⟩] ++ p.ob.map dutT) := by
    show polW (d + 1) p = _
    rw [hx2]
    simp [polW, bl_mka]
  have HHS : Hid (p.set = false → headW p = bl ⟨#[112, 111, 108, 105, 99, 121]⟩) := fun h => by unfold headW; rw [if_neg (by rw [h]; simp)]; rfl
  have HHT : Hid (p.set = true → headW p = bl ⟨#[115, 101, 116]⟩) := fun h => by unfold headW; rw [if_pos h]; rfl
  have HL2 := Lib.hid hl2
  have HL3 := Lib.hid hl3
  have HB16 := Lib.hid (show n2 ≤ 16 ∧ n3 ≤ 16 ∧ n4 ≤ 8 by omega)
  have HND := Lib.hid hNd
  generalize hhw : headW p = hw at *
  clear hpl hid hfit htg hob h16 k16 hs1 hr hk hok1 hok2 hok3 hrf hkf halg hN hNd hkl hl2 hl3 hl4 ho8 h1 h2 h3 h4 ht hp hx2 hhw
  obtain ⟨C0, hC0⟩ : ∃ C0 : Array Value, C0 = #[.string p.id, .bool p.set, .int .i64 p.alg, .slice A1 n1 c1, .slice A2 n2 c2, .slice A3 n3 c3, .slice A4 n4 c4] := ⟨_, rfl⟩
  have OB := Lib.hid (Ob.made w 28 C0)
  have B0 := Lib.hid (al9' w (.cells C0 28))
  have HSZ := Lib.hid (size_al w (.cells C0 28))
  go_enter Tryz.func22, Tryz.ntmps22
  go_upto_region 1 with fail
  rw [← hC0]
  generalize w.alloc (.cells C0 28) = W1 at *
  rw [hC0] at OB
  have KO : Hid (∀ W, Below W1.heap.size W1 W → W.cell? ⟨w.heap.size, 0, none⟩ = some (.string p.id) ∧ W.cell? ⟨w.heap.size, 1, none⟩ = some (.bool p.set) ∧ W.cell? ⟨w.heap.size, 2, none⟩ = some (.int .i64 p.alg) ∧ W.cell? ⟨w.heap.size, 3, none⟩ = some (.slice A1 n1 c1) ∧ W.cell? ⟨w.heap.size, 4, none⟩ = some (.slice A2 n2 c2) ∧ W.cell? ⟨w.heap.size, 5, none⟩ = some (.slice A3 n3 c3) ∧ W.cell? ⟨w.heap.size, 6, none⟩ = some (.slice A4 n4 c4)) := by
    show ∀ W, _ → _
    intro W hb
    have o := OB.out.below hb (by have := HSZ.out; omega)
    exact ⟨o.cell 0, o.cell 1, o.cell 2, o.cell 3, o.cell 4, o.cell 5, o.cell 6⟩
  clear hC0 OB
  have UP : Hid (∀ W, Below W1.heap.size W1 W → Below w.heap.size w W) := fun W hb => B0.out.trans (hb.mono B0.out.size)
  refine wp_region_held_tail (fun w' => Below W1.heap.size W1 w') 6 (by kernel_rfl) (by kernel_rfl) ?_
  intro G
  change HeadW _ _ _ _ _ _ _ _ _ _ (W1.drewN 1)
  have S0 := Lib.hid (below_drewN (Below.refl W1.heap.size W1) 1)
  generalize W1.drewN 1 = v0 at *
  refine HeadW_take (i := 0) (v := ?_) G rfl (by kernel_rfl) (by kernel_rfl) (by kernel_rfl) (fun _ _ _ h => h) (Or.inl ⟨by rfl, ?_⟩) S0.out ?_
  rotate_left
  · intro wz hS
    go_simp
    try with_reducible rfl
  refine HeadW_take (i := 1) (v := ?_) G rfl (by kernel_rfl) (by kernel_rfl) (by kernel_rfl) (fun _ _ _ h => h) (Or.inl ⟨by rfl, ?_⟩) S0.out ?_
  rotate_left
  · intro wz hS
    have hk1 := (KO.out _ hS).1
    go_simp
    try with_reducible rfl
  refine HeadW_take (i := 2) (v := ?_) G rfl (by kernel_rfl) (by kernel_rfl) (by kernel_rfl) (fun _ _ _ h => h) (Or.inl ⟨by rfl, ?_⟩) S0.out ?_
  rotate_left
  · intro wz hS
    go_simp
    try with_reducible rfl
  refine HeadW_take (i := 3) (v := ?_) G rfl (by kernel_rfl) (by kernel_rfl) (by kernel_rfl) (fun _ _ _ h => h) (Or.inl ⟨by rfl, ?_⟩) S0.out ?_
  rotate_left
  · intro wz hS
    have hk1 := (KO.out _ hS).2.2.1
    go_simp
    try with_reducible rfl
  refine HeadW_take (i := 4) (v := ?_) G rfl (by kernel_rfl) (by kernel_rfl) (by kernel_rfl) (fun _ _ _ h => h) (Or.inl ⟨by rfl, ?_⟩) S0.out ?_
  rotate_left
  · intro wz hS
    go_simp
    try with_reducible rfl
  refine HeadW_take (i := 5) (v := ?_) G rfl (by kernel_rfl) (by kernel_rfl) (by kernel_rfl) (fun _ _ _ h => h) (Or.inl ⟨by rfl, ?_⟩) S0.out ?_
  rotate_left
  · intro wz hS
    have hk1 := HG.out _ (UP.out _ hS)
    go_simp
    try with_reducible rfl
  intro _
  refine ⟨by kernel_rfl, ?_⟩
  simp only [List.drop_succ_cons, List.drop_zero]
  have q1 := (KO.out _ (S0.out.alloc S0.out.size (.cells #[.string ⟨#[112, 111, 108, 105, 99, 121]⟩, .string p.id, .string x2] 9))).2.1
  have OL := Lib.hid (Ob.made v0 9 #[.string ⟨#[112, 111, 108, 105, 99, 121]⟩, .string p.id, .string x2])
  have BL := Lib.hid (S0.out.alloc S0.out.size (.cells #[.string ⟨#[112, 111, 108, 105, 99, 121]⟩, .string p.id, .string x2] 9))
  have SL := Lib.hid S0.out.size
  go_upto_if 16 with fail
  generalize v0.alloc (.cells #[.string ⟨#[112, 111, 108, 105, 99, 121]⟩, .string p.id, .string x2] 9) = V at *
  generalize v0.heap.size = g at *
  go_cut [3] from 15 to 18 (fun s wx => ∃ B d, s = .slice B 3 d ∧ TR wx W1.heap.size B 3 d [hw, bl p.id, bl x2] ∧ Below W1.heap.size W1 wx)
  case first =>
    have l0 := OL.out.cell 0
    have f0 := OL.out.frozen 0
    cases hps : p.set
    · rw [hps] at q1
      go_wp2_with fail
      go_meet
      refine ⟨_, _, rfl, ?_, BL.out⟩
      rw [HHS.out hps]
      exact tr_ob OL.out SL.out
    · rw [hps] at q1
      go_wp2_with fail
      go_meet
      refine ⟨_, _, rfl, ?_, ?_⟩
      · rw [HHT.out hps]
        exact tr_ob (OL.out.put 0 (.string ⟨#[115, 101, 116]⟩)) SL.out
      · exact BL.out.trans (only_down9 (Only.refl.setCell (p := ⟨g, 0, none⟩) rfl _) SL.out OL.out.lt)
  case rest =>
    obtain ⟨B, dd, rfl, htr, hb⟩ := hcut
    have q3 := (KO.out _ hb).2.2.2.1
    have HTA := Lib.hid htr
    have HBA := Lib.hid hb
    clear htr hb OL BL SL S0
    go_wp2_with (first
      | (go_at_call 41
         refine (CT.out _ (UP.out _ HBA.out)).mono ?_
         rintro e w2 ⟨T1, tm, tc, rfl, htm, htt, hb2⟩
         have HB2 := Lib.hid (HBA.out.trans (hb2.mono HBA.out.size))
         obtain ⟨B3, d3, w3, hap, hr3, hb3⟩ := (HTA.out.below hb2).app htt.sl (by omega) HB2.out.size 68
         have HAP1 := Lib.hid hap
         have HB3 := Lib.hid (HB2.out.trans hb3)
         have HTM := Lib.hid htm
         have hb4 : Below w3.heap.size w3 (w3.alloc (.cells #[.string ⟨#[123]⟩] 9)) := (Below.refl _ _).alloc (Nat.le_refl _) _
         obtain ⟨B5, d5, w5, hap, hr5, hb5⟩ := hr3.push ⟨#[123]⟩ (by omega) HB3.out.size 68
         have HAP2 := Lib.hid hap
         have HB5 := Lib.hid (HB3.out.trans hb5)
         have HR5 := Lib.hid hr5
         have q4 := (KO.out _ HB5.out).2.2.2.2.1
         clear hap hr3 hr5 hb2 hb3 hb4 hb5 htt htm)
      | (at_builtin; refine wpList_append_run rfl _ _ _ _ rfl rfl rfl HAP1.out ?_)
      | (at_builtin; refine wpList_append_run rfl _ _ _ _ rfl rfl rfl HAP2.out ?_))
    have HM5 := Lib.hid (show 3 + tm + 1 ≤ 6 by have := HTM.out; omega)
    go_loopw [3, 29] (fun s i wr => ∃ (k m : Nat) (B : Option Addr) (e : Nat), k ≤ n2 ∧ m ≤ 6 + k ∧ s = .slice B m e ∧ i = .int .i64 k ∧ TR wr W1.heap.size B m e ([hw, bl p.id, bl x2] ++ tgW p.tg ++ [bl ⟨#[123]⟩] ++ (p.rules.take k).map rulT) ∧ Below W1.heap.size W1 wr) (fun _ i _ => n2 - (intOf i).toNat)
    case atStart => exact ⟨0, 3 + tm + 1, B5, d5, Nat.zero_le _, HM5.out, rfl, rfl, by rw [List.take_zero, List.map_nil, List.append_nil]; exact HR5.out, HB5.out⟩
    case round =>
      clear HTA HBA HR5 HB5 HB3 HB2 HAP1 HAP2 q3 q4
      obtain ⟨k, m, B, e, hk, hm, rfl, rfl, hr, hb⟩ := hrel
      have HR := Lib.hid hr
      have HB := Lib.hid hb
      have HMK := Lib.hid hm
      clear hr hb
      by_cases hlt : k < n2
      · obtain ⟨b, o, r, E1, m1, e1, E2, m2, e2, E3, m3, e3, rfl, hRb, hbl, hx, hid', ⟨z0, z1, z2, z3, z4⟩, t1, t2, t3⟩ := (H2.out.keep (Kept.all (UP.out _ HB.out) R) (fun _ h _ => h)).at_ hlt
        have HX := Lib.hid hx
        have HC := Lib.hid (fun (W : World) (hb : Below wr.heap.size wr W) => show_rule r W (t1.keep (Kept.all hb R) (fun _ h _ => h)) (t2.keep (Kept.all hb R) (fun _ h _ => h)) (t3.keep (Kept.all hb R) (fun _ h _ => h)) (HRF.out r (List.mem_of_getElem? hx)) (HT.out _ (UP.out _ (HB.out.trans (hb.mono HB.out.size)))))
        clear hx t1 t2 t3
        go_wp2_with (first
          | (go_at_call 42
             refine (HC.out _ (al9' _ _)).mono ?_
             rintro e w2 ⟨rfl, hb2⟩
             have HB2 := Lib.hid (HB.out.trans ((show Below wr.heap.size wr w2 from Below.lit hb2).mono HB.out.size))
             obtain ⟨B5, d5, w5, hap, hr5, hb5⟩ := (HR.out.below (show Below wr.heap.size wr w2 from Below.lit hb2)).push ⟨(rulT r).toArray⟩ (by have := HB16.out; omega) HB2.out.size 68
             have HAP := Lib.hid hap
             have HB5 := Lib.hid (HB2.out.trans hb5)
             have HR5 := Lib.hid hr5
             clear hap hr5 hb2 hb5)
          | (at_builtin; refine wpList_append_run rfl _ _ _ _ rfl rfl rfl HAP.out ?_))
        go_roundw
        case rel => exact ⟨k + 1, m + 1, B5, d5, by omega, by omega, rfl, by go_num, by rw [tail_take HX.out, ← List.append_assoc]; exact HR5.out, HB5.out⟩
        case measure => simp [intOf]; omega
      · obtain rfl : k = n2 := by omega
        have q5 := (KO.out _ HB.out).2.2.2.2.2.1
        have hrr := HR.out
        rw [List.take_of_length_le (by rw [HL2.out]; exact Nat.le_refl _)] at hrr
        have HR6 := Lib.hid hrr
        have HM6 := Lib.hid (show m ≤ 22 by have := HB16.out; have := HMK.out; omega)
        clear hrr HR hm
        go_wp2_with fail
        go_loopw [3, 42] (fun s i wr => ∃ (j m : Nat) (B : Option Addr) (e : Nat), j ≤ n3 ∧ m ≤ 22 + j * 10920 ∧ s = .slice B m e ∧ i = .int .i64 j ∧ TR wr W1.heap.size B m e ([hw, bl p.id, bl x2] ++ tgW p.tg ++ [bl ⟨#[123]⟩] ++ p.rules.map rulT ++ ((p.kids.take j).map (polW d)).flatten) ∧ Below W1.heap.size W1 wr) (fun _ i _ => n3 - (intOf i).toNat)
        case atStart => exact ⟨0, m, B, e, Nat.zero_le _, by have := HM6.out; omega, rfl, rfl, by rw [List.take_zero, List.map_nil, List.flatten_nil, List.append_nil]; exact HR6.out, HB.out⟩
        case round =>
          clear HR6 HB HM6 HMK q5
          obtain ⟨j, m', B', e', hj, hm', rfl, rfl, hr', hb'⟩ := hrel
          have HRJ := Lib.hid hr'
          have HBJ := Lib.hid hb'
          have HMJ := Lib.hid hm'
          clear hr' hb' hm'
          by_cases hlt : j < n3
          · obtain ⟨b, o, q, dd', E1, m1, e1, E2, m2, e2, E3, m3, e3, E4, m4, e4, rfl, hRb, hbl, hx, rfl, hid', ⟨z0, z1, z2, z3, z4, z5, z6⟩, t1, t2, t3, t4⟩ := (H3.out.keep (Kept.all (UP.out _ HBJ.out) R) (fun _ h _ => h)).at_ hlt
            have HX := Lib.hid hx
            have hmem := List.mem_of_getElem? hx
            obtain ⟨sa, sb, hsq⟩ := HKF.out q hmem
            have HC := Lib.hid (fun (W : World) (hb : Below wr.heap.size wr W) => ih (R := R) hsq (HK3.out q hmem) (t1.keep (Kept.all hb R) (fun _ h _ => h)) (t2.keep (Kept.all hb R) (fun _ h _ => h)) (t3.keep (Kept.all hb R) (fun _ h _ => h)) (t4.keep (Kept.all hb R) (fun _ h _ => h)) (HT.out _ (UP.out _ (HBJ.out.trans (hb.mono HBJ.out.size)))))
            have HQL := Lib.hid (HKL.out q hmem)
            clear hx t1 t2 t3 t4 hsq hmem
            go_wp2_with (first
              | (go_at_call 22
                 refine (HC.out _ (al9' _ _)).mono ?_
                 rintro e w2 ⟨F1, fm, fc, rfl, htt, hb2⟩
                 have HB2 := Lib.hid (HBJ.out.trans ((show Below wr.heap.size wr w2 from Below.lit hb2).mono HBJ.out.size))
                 have hfm : fm ≤ 10920 := by have := htt.len; have := HQL.out; have := HND.out; omega
                 have HFM := Lib.hid hfm
                 obtain ⟨B5, d5, w5, hap, hr5, hb5⟩ := (HRJ.out.below (show Below wr.heap.size wr w2 from Below.lit hb2)).app htt.sl (by have := HB16.out; have := HMJ.out; omega) HB2.out.size 68
                 have HAP := Lib.hid hap
                 have HB5 := Lib.hid (HB2.out.trans hb5)
                 have HR5 := Lib.hid hr5
                 clear hap hr5 hb2 hb5 htt hfm)
              | (at_builtin; refine wpList_append_run rfl _ _ _ _ rfl rfl rfl HAP.out ?_))
            go_roundw
            case rel => exact ⟨j + 1, m' + fm, B5, d5, by omega, by have := HMJ.out; have := HFM.out; omega, rfl, by go_num, by rw [tail_flat HX.out, ← List.append_assoc]; exact HR5.out, HB5.out⟩
            case measure => simp [intOf]; omega
          · obtain rfl : j = n3 := by omega
            have hrr := HRJ.out
            rw [List.take_of_length_le (by rw [HL3.out]; exact Nat.le_refl _)] at hrr
            have HR7 := Lib.hid hrr
            have HM7 := Lib.hid (show m' ≤ 200000 by have := HB16.out; have := HMJ.out; omega)
            clear hrr HRJ
            go_upto_region 15 with fail
            refine wp_region_held_tail (fun w' => Below W1.heap.size W1 w') 6 (by kernel_rfl) (by kernel_rfl) ?_
            intro G
            change HeadW _ _ _ _ _ _ _ _ _ _ (wr.drewN 1)
            have S1 := Lib.hid (below_drewN HBJ.out 1)
            have HR8 := Lib.hid (HR7.out.below (below_drewN (Below.refl wr.heap.size wr) 1))
            generalize wr.drewN 1 = v1 at *
            refine HeadW_take (i := 0) (v := ?_) G rfl (by kernel_rfl) (by kernel_rfl) (by kernel_rfl) (fun _ _ _ h => h) (Or.inl ⟨by rfl, ?_⟩) S1.out ?_
            rotate_left
            · intro wz hS
              go_simp
              try with_reducible rfl
            refine HeadW_take (i := 3) (v := ?_) G rfl (by kernel_rfl) (by kernel_rfl) (by kernel_rfl) (fun _ _ _ h => h) (Or.inl ⟨by rfl, ?_⟩) S1.out ?_
            rotate_left
            · intro wz hS
              go_simp
              try with_reducible rfl
            refine HeadW_take (i := 4) (v := ?_) G rfl (by kernel_rfl) (by kernel_rfl) (by kernel_rfl) (fun _ _ _ h => h) (Or.inl ⟨by rfl, ?_⟩) S1.out ?_
            rotate_left
            · intro wz hS
              have hk1 := (KO.out _ hS).2.2.2.2.2.2
              go_simp
              try with_reducible rfl
            refine HeadW_ready (rs := [1]) (by kernel_rfl) rfl rfl ?_
            refine AllW.cons rfl (fun K hK => ?_) AllW.nil
            go_simp
            refine hK _ _ (S1.out.alloc S1.out.size _) ?_
            clear hK K
            refine HeadW_ready (rs := [2]) (by kernel_rfl) rfl rfl ?_
            refine AllW.cons rfl (fun K hK => ?_) AllW.nil
            obtain ⟨B5, d5, w5, hap, hr5, hb5⟩ := HR8.out.push ⟨#[125]⟩ (by have := HM7.out; omega) S1.out.size 68
            refine step_append_run rfl (.tmp 51) (.tmp 52) _ _ rfl (by first | rfl | simp [Act.eval]) (by first | rfl | simp [Act.eval]) hap ?_
            have S2 := Lib.hid (S1.out.trans hb5)
            have HR9 := Lib.hid hr5
            refine hK _ _ S2.out ?_
            clear hK K hap hb5 hr5
            refine HeadW_ready (rs := [5]) (by kernel_rfl) rfl rfl ?_
            refine AllW.cons rfl (fun K hK => ?_) AllW.nil
            go_simp
            refine (CD.out _ (UP.out _ S2.out)).mono ?_
            rintro e w6 ⟨F1, fc, rfl, htt, hb6⟩
            have S3 := Lib.hid (S2.out.trans (hb6.mono S2.out.size))
            have HRA := Lib.hid (HR9.out.below hb6)
            have HTT := Lib.hid htt.sl
            refine hK _ _ S3.out ?_
            clear hK K hb6 htt
            intro _
            refine ⟨by kernel_rfl, ?_⟩
            simp only [List.drop_succ_cons, List.drop_zero]
            obtain ⟨B7, d7, w7, hap, hr7, hb7⟩ := HRA.out.app HTT.out (by have := HM7.out; have := HB16.out; omega) S3.out.size 68
            have HAP := Lib.hid hap
            have HRB := Lib.hid hr7
            have HBB := Lib.hid (S3.out.trans hb7)
            clear hap hr7 hb7
            go_wp2_with (at_builtin; refine wpList_append_run rfl _ _ _ _ rfl rfl rfl HAP.out ?_)
            go_ret
            exact ⟨_, _, _, rfl, by rw [HW.out]; exact HRB.out.less B0.out.size, UP.out _ HBB.out⟩
theorem words_all : ∀ d, d ≤ 4 → WdOk d
 | 0, _ => fun h => by simp [polS] at h
 | d + 1, hd => words_step d (by omega) (words_all d (by omega))
end Go.Proofs.YtmoglaknmlhpgaaGreatDoor
/- A policy's text (the project's). -/
namespace Go.Proofs.YtmoglaknmlhpgaaGreatDoor
set_option linter.unusedVariables false
open Go.RowKit Go.Sort

theorem showP_right {p : Pol} (h : rightE p = 0) : showP p = polT p := by unfold showP; rw [if_pos h]
theorem showP_wrong {p : Pol} (h : rightE p ≠ 0) : showP p = [] := by unfold showP; rw [if_neg h]
theorem PolIn.oks {w : World} {R : Nat → Prop} {p : Pol} {A1 A2 A3 A4 : Option Addr} {n1 k1 n2 k2 n3 k3 n4 k4 : Nat} (h : PolIn w R p A1 n1 k1 A2 n2 k2 A3 n3 k3 A4 n4 k4) : ∀ d, polOks d p
 | 0 => trivial
 | d + 1 => by
  obtain ⟨_, h1, h2, ⟨m, h3⟩, _⟩ := h
  exact ⟨Tg.oks' h1, Rus.oks' h2, pls_oks d h3⟩
set_option maxHeartbeats 1600000 in
theorem show_pol {w : World} {R : Nat → Prop} {p : Pol} {A1 A2 A3 A4 : Option Addr} {n1 k1 n2 k2 n3 k3 n4 k4 : Nat} (h : PolIn w R p A1 n1 k1 A2 n2 k2 A3 n3 k3 A4 n4 k4) (ht : Tbl w) :
    Calls Tryz.prog 10 #[.agg #[.string p.id, .bool p.set, .int .i64 p.alg, .slice A1 n1 k1, .slice A2 n2 k2, .slice A3 n3 k3, .slice A4 n4 k4]] w
      fun e w' => e = .returned (.string ⟨(showP p).toArray⟩) ∧ Below w.heap.size w w' := by
  have hb0 : Below w.heap.size w (w.alloc (.cells #[.string p.id, .bool p.set, .int .i64 p.alg, .slice A1 n1 k1, .slice A2 n2 k2, .slice A3 n3 k3, .slice A4 n4 k4] 28)) := al9' _ _
  have h' := h.then_ hb0
  have ht' := ht.then_ hb0
  have hcon := right_pol h'
  have OB := Lib.hid (Ob.made w 28 #[.string p.id, .bool p.set, .int .i64 p.alg, .slice A1 n1 k1, .slice A2 n2 k2, .slice A3 n3 k3, .slice A4 n4 k4])
  have B0 := Lib.hid hb0
  by_cases hr : rightE p = 0
  · have e0 : polS 4 p ⟨[], 0⟩ = (0, (polS 4 p ⟨[], 0⟩).2) := by unfold rightE at hr; rw [← hr]
    have hok := h.oks 4
    have hlen := polT_len hr hok
    have hwl := (polW_len 4 e0 hok).1
    rw [wordsN_4] at hwl
    have CW : Hid (∀ W, Below (w.alloc (.cells #[.string p.id, .bool p.set, .int .i64 p.alg, .slice A1 n1 k1, .slice A2 n2 k2, .slice A3 n3 k3, .slice A4 n4 k4] 28)).heap.size (w.alloc (.cells #[.string p.id, .bool p.set, .int .i64 p.alg, .slice A1 n1 k1, .slice A2 n2 k2, .slice A3 n3 k3, .slice A4 n4 k4] 28)) W → Calls Tryz.prog 22 #[.agg #[.string p.id, .bool p.set, .int .i64 p.alg, .slice A1 n1 k1, .slice A2 n2 k2, .slice A3 n3 k3, .slice A4 n4 k4]] W fun e w' => ∃ B n c, e = .returned (.slice B n c) ∧ TR w' W.heap.size B n c (polW 4 p) ∧ Below W.heap.size W w') := fun W hb => by
      obtain ⟨_, h1, h2, ⟨m, h3⟩, h4⟩ := h'.then_ hb
      exact words_all 4 (Nat.le_refl _) e0 hok h1 h2 h3 h4 (ht'.then_ hb)
    have HWL := Lib.hid hwl
    have HJL : Hid ((Lib.join (polW 4 p) (bl ⟨#[32]⟩)).length ≤ 140737488355328) := Nat.le_trans hlen (by omega)
    have HE : Hid (showP p = Lib.join (polW 4 p) (bl ⟨#[32]⟩)) := showP_right hr
    rw [hr] at hcon
    have HC := Lib.hid hcon
    generalize polW 4 p = pw at *
    generalize showP p = sp at *
    clear hcon h h' ht ht' hb0 e0 hok hlen hwl hr
    go_enter Tryz.func10, Tryz.ntmps10
    go_wp2_with (first
      | (go_at_call 7; refine HC.out.mono ?_; rintro e w1 ⟨rfl, hb1⟩; have B1 := Lib.hid hb1; have O1 := Lib.hid (OB.out.below hb1 OB.out.lt); have c0 := O1.out.cell 0; have c1 := O1.out.cell 1; have c2 := O1.out.cell 2; have c3 := O1.out.cell 3; have c4 := O1.out.cell 4; have c5 := O1.out.cell 5; have c6 := O1.out.cell 6; clear hb1)
      | (go_at_call 22
         refine (CW.out _ B1.out).mono ?_
         rintro e w2 ⟨B, m, d, rfl, hr2, hb2⟩
         have B2 := Lib.hid (below_step B1.out hb2)
         have hm : m ≤ 1000000 := by have := hr2.len; have := HWL.out; omega
         have HJ := Lib.hid (join_row hr2.sl (Nat.le_refl _) hm ⟨#[32]⟩ HJL.out)
         clear hr2 hb2 hm)
      | (go_at_call 21; refine HJ.out.mono ?_; rintro e w3 ⟨rfl, hb3⟩; have B3 := Lib.hid (below_step B2.out hb3)))
    go_ret
    exact ⟨by rw [HE.out]; rfl, B0.out.trans (B3.out.mono B0.out.size)⟩
  · have HE : Hid (showP p = []) := showP_wrong hr
    obtain ⟨q, hq⟩ : ∃ q, q = rightE p := ⟨_, rfl⟩
    rw [← hq] at hcon hr
    have hne : (q != 0) = true := by simpa using hr
    have HC := Lib.hid hcon
    generalize showP p = sp at *
    clear hcon h h' ht ht' hb0 hr hq
    go_enter Tryz.func10, Tryz.ntmps10
    go_wp2_with (go_at_call 7; refine HC.out.mono ?_; rintro e w1 ⟨rfl, hb1⟩; have B1 := Lib.hid hb1)
    go_ret
    exact ⟨ret_text (by rw [HE.out]; rfl), B0.out.trans (B1.out.mono B0.out.size)⟩
end Go.Proofs.YtmoglaknmlhpgaaGreatDoor
/- bailiffkeep: how much of a target may be gone through. -/
namespace Go.Proofs.YtmoglaknmlhpgaaGreatDoor
set_option linter.unusedVariables false
open Go.RowKit

theorem takes1_any {w : World} {g m n : Nat} (hl : Lf w g m) (hm : m ≤ 3000) (hn : n < maxLen) :
  Calls Tryz.prog 14 #[.pointer (some ⟨g, 0, none⟩), .int .i64 (1 + (n : Int))] w fun e w' => e = .returned (.bool (decide (1 + n ≤ m))) ∧ Only g w w' ∧ (1 + n ≤ m → Lf w' g (m - (1 + n))) := by
 have := takes_any (n := 1 + n) hl hm (by omega)
 unfold Taking at this
 rwa [show ((1 + n : Nat) : Int) = 1 + (n : Int) by omega] at this

set_option maxRecDepth 100000 in
set_option maxHeartbeats 1600000 in
theorem ktarget_any {w : World} {R : Nat → Prop} {g m n c : Nat} {A : Option Addr} {l : Tgt} (hl : Lf w g m) (hm : m ≤ 3000) (hR : ∀ b, R b → b ≠ g) (h : Tg w R A n c l) :
  Taking 26 #[.pointer (some ⟨g, 0, none⟩), .slice A n c] w g m (tgC l) := by
 have hle := Rw.le h
 have hcap := Rw.cap h
 have HL := Lib.hid (Rw.len h)
 have hbig := Rw.big h
 have HT := Lib.hid (takes1_any (n := n) hl hm (by unfold maxLen; omega))
 have H := Lib.hid h
 have HR := Lib.hid hR
 have HM := Lib.hid hm
 unfold maxLen at hcap
 unfold Taking
 have HC : Hid (tgC l = 1 + n + sumC anyC l) := by show tgC l = _; unfold tgC; rw [HL.out]
 generalize hcc : tgC l = cc at *
 clear hcc h hl hR hm
 by_cases h1 : 1 + n ≤ m
 ·rw [decide_eq_true h1] at HT
  have H1 := Lib.hid h1
  clear h1
  go_enter Tryz.func26, Tryz.ntmps26
  go_wp2_with (go_at_call 14; refine HT.out.mono ?_; rintro e w1 ⟨rfl, hb, hw⟩; have B1 := Lib.hid hb; have W1 := Lib.hid (hw H1.out); clear hb hw)
  go_loopw [19] (fun i wr => ∃ k mk : Nat, k ≤ n ∧ i = .int .i64 k ∧ sumC anyC (l.take k) + mk = m - (1 + n) ∧ Lf wr g mk ∧ Only g w wr) (fun i _ => n - (intOf i).toNat)
  case atStart => exact ⟨0, m - (1 + n), Nat.zero_le _, rfl, by rw [sumC_zero]; omega, W1.out, B1.out⟩
  case round =>
   obtain ⟨wo, hwo⟩ : ∃ wo, wo = wr := ⟨wr, rfl⟩
   subst hwo
   obtain ⟨k, mk, hk, rfl, hs, hlf, hb⟩ := hrel
   have HS := Lib.hid hs
   have HB := Lib.hid hb
   have HF := Lib.hid hlf
   clear hs hb hlf
   by_cases hlt : k < n
   ·obtain ⟨b, o, x, A', n', c', rfl, hRb, hbl, hx, c0, hin⟩ := (H.out.keep (HB.out.kept HR.out) (fun _ h _ => h)).at_ hlt
    have HX := Lib.hid hx
    have hle' := Rw.le hin
    have hcap' := Rw.cap hin
    have hbig' := Rw.big hin
    have HL' := Lib.hid (Rw.len hin)
    have HIN := Lib.hid hin
    have hsx := sumC_le (f := anyC) hx
    have hex : anyC x = 1 + n' + sumC allC x := by unfold anyC; rw [Rw.len hin]
    have HSX := Lib.hid hsx
    have HEX := Lib.hid hex
    clear hx hin hsx hex
    by_cases h2 : 1 + n' ≤ mk
    ·have HT2 := Lib.hid (takes1_any (n := n') HF.out (by have := HS.out; have := HM.out; omega) (by unfold maxLen; omega))
     rw [decide_eq_true h2] at HT2
     unfold maxLen at hcap'
     have H2 := Lib.hid h2
     clear h2
     go_wp2_with (go_at_call 14; refine HT2.out.mono ?_; rintro e w2 ⟨rfl, hb, hw⟩; have B2 := Lib.hid hb; have W2 := Lib.hid (hw H2.out); clear hb hw)
     go_loopw [31] (fun i wq => ∃ k2 m2 : Nat, k2 ≤ n' ∧ i = .int .i64 k2 ∧ sumC allC (x.take k2) + m2 = mk - (1 + n') ∧ Lf wq g m2 ∧ Only g wo wq) (fun i _ => n' - (intOf i).toNat)
     case atStart => exact ⟨0, mk - (1 + n'), Nat.zero_le _, rfl, by rw [sumC_zero]; omega, W2.out, B2.out⟩
     case round =>
      obtain ⟨wq, hwq⟩ : ∃ wq, wq = wr := ⟨wr, rfl⟩
      subst hwq
      obtain ⟨k2, m2, hk2, rfl, hs, hlf, hb⟩ := hrel
      have HS2 := Lib.hid hs
      have HB2 := Lib.hid hb
      have HF2 := Lib.hid hlf
      clear hs hb hlf
      by_cases hlt2 : k2 < n'
      ·obtain ⟨b2, o2, y, A2, n2, c2, rfl, hRb2, hbl2, hy, d0, hin2⟩ := (HIN.out.keep (HB2.out.kept HR.out) (fun _ h _ => h)).at_ hlt2
       have HY := Lib.hid hy
       have hle2 := Rw.le hin2
       have hcap2 := Rw.cap hin2
       have hbig2 := Rw.big hin2
       have HL2 := Lib.hid (Rw.len hin2)
       have HIN2 := Lib.hid hin2
       have hsy := sumC_le (f := allC) hy
       have hey : allC y = 1 + n2 + sumC matC y := by unfold allC; rw [Rw.len hin2]
       have HSY := Lib.hid hsy
       have HEY := Lib.hid hey
       clear hy hin2 hsy hey
       by_cases h3 : 1 + n2 ≤ m2
       ·have HT3 := Lib.hid (takes1_any (n := n2) HF2.out (by have := HS2.out; have := HS.out; have := HM.out; omega) (by unfold maxLen; omega))
        rw [decide_eq_true h3] at HT3
        unfold maxLen at hcap2
        have H3 := Lib.hid h3
        clear h3
        go_wp2_with (go_at_call 14; refine HT3.out.mono ?_; rintro e w3 ⟨rfl, hb, hw⟩; have B3 := Lib.hid hb; have W3 := Lib.hid (hw H3.out); clear hb hw)
        go_loopw [43] (fun i wz => ∃ k3 m3 : Nat, k3 ≤ n2 ∧ i = .int .i64 k3 ∧ sumC matC (y.take k3) + m3 = m2 - (1 + n2) ∧ Lf wz g m3 ∧ Only g wq wz) (fun i _ => n2 - (intOf i).toNat)
        case atStart => exact ⟨0, m2 - (1 + n2), Nat.zero_le _, rfl, by rw [sumC_zero]; omega, W3.out, B3.out⟩
        case round =>
         obtain ⟨wz, hwz⟩ : ∃ wz, wz = wr := ⟨wr, rfl⟩
         subst hwz
         obtain ⟨k3, m3, hk3, rfl, hs, hlf, hb⟩ := hrel
         have HS3 := Lib.hid hs
         have HB3 := Lib.hid hb
         have HF3 := Lib.hid hlf
         clear hs hb hlf
         by_cases hlt3 : k3 < n2
         ·obtain ⟨b3, o3, z, rfl, hRb3, hbl3, hz, hok, f0, f1, f2, f3, f4, f5, f6⟩ := (HIN2.out.keep (HB3.out.kept HR.out) (fun _ h _ => h)).at_ hlt3
          have HZ := Lib.hid hz
          have HSZ := Lib.hid (sumC_le (f := matC) hz)
          have HEZ : Hid (matC z = textC z.a.name + textC z.v.s) := rfl
          have HXT := Lib.hid (ktext_any z.a.name (HF3.out.alloc (.cells #[.int .i64 z.a.cat, .string z.a.name, .bool z.a.must, .int .i64 z.op, .int .i64 z.v.k, .int .i64 z.v.n, .string z.v.s] 116)) (by have := HS3.out; have := HS2.out; have := HS.out; have := HM.out; omega) hok.1.2)
          unfold Taking at HXT
          have HOK := Lib.hid hok
          have HLT : Hid (g < wz.heap.size) := HF3.out.lt
          clear hz hok
          by_cases h4 : textC z.a.name ≤ m3
          ·rw [decide_eq_true h4] at HXT
           have H4 := Lib.hid h4
           have hne : wz.heap.size ≠ g := by have := HLT.out; omega
           clear h4
           by_cases h5 : textC z.v.s ≤ m3 - textC z.a.name
           ·have H5 := Lib.hid h5
            have d5 := decide_eq_true h5
            clear h5
            go_wp2_with (first
             | (go_at_call 15; (with_reducible refine HXT.out.mono ?_); rintro e w4 ⟨rfl, hb, hw⟩; have B4 := Lib.hid hb; have W4 := Lib.hid (hw H4.out); have BX := Lib.hid ((Ob.made wz 116 #[.int .i64 z.a.cat, .string z.a.name, .bool z.a.must, .int .i64 z.op, .int .i64 z.v.k, .int .i64 z.v.n, .string z.v.s]).keep (hb.heap (by simp) hne)); have g6 := BX.out.cell 6; have HXT2 := Lib.hid (ktext_any z.v.s W4.out (by have := HS3.out; have := HS2.out; have := HS.out; have := HM.out; omega) HOK.out.2.2.2.2); unfold Taking at HXT2; rw [d5] at HXT2; clear hb hw)
             | (go_at_call 15; (with_reducible refine HXT2.out.mono ?_); rintro e w5 ⟨rfl, hb, hw⟩; have B5 := Lib.hid hb; have W5 := Lib.hid (hw H5.out); clear hb hw))
            go_roundw
            case rel => exact ⟨k3 + 1, m3 - textC z.a.name - textC z.v.s, by omega, by go_num, by rw [sumC_take HZ.out, HEZ.out]; have := HS3.out; have := H4.out; have := H5.out; omega, W5.out, HB3.out.trans ((Only.alloc _ _ _).trans (B4.out.trans B5.out))⟩
            case measure => simp [intOf]; omega
           ·have H5 := Lib.hid h5
            have d5 := decide_eq_false h5
            clear h5
            go_wp2_with (first
             | (go_at_call 15; (with_reducible refine HXT.out.mono ?_); rintro e w4 ⟨rfl, hb, hw⟩; have B4 := Lib.hid hb; have W4 := Lib.hid (hw H4.out); have BX := Lib.hid ((Ob.made wz 116 #[.int .i64 z.a.cat, .string z.a.name, .bool z.a.must, .int .i64 z.op, .int .i64 z.v.k, .int .i64 z.v.n, .string z.v.s]).keep (hb.heap (by simp) hne)); have g6 := BX.out.cell 6; have HXT2 := Lib.hid (ktext_any z.v.s W4.out (by have := HS3.out; have := HS2.out; have := HS.out; have := HM.out; omega) HOK.out.2.2.2.2); unfold Taking at HXT2; rw [d5] at HXT2; clear hb hw)
             | (go_at_call 15; (with_reducible refine HXT2.out.mono ?_); rintro e w5 ⟨rfl, hb, hw⟩; have B5 := Lib.hid hb; clear hb hw))
            go_ret
            have hbad : ¬ cc ≤ m := by
             have := HC.out; have := HS.out; have := H1.out; have := HSX.out; have := HEX.out; have := HS2.out; have := H2.out; have := HSY.out; have := HEY.out; have := HS3.out; have := H3.out; have := HSZ.out; have := HEZ.out; have := H4.out; have := H5.out
             omega
            exact ⟨ret_bool (decide_eq_false hbad).symm, HB.out.trans (HB2.out.trans (HB3.out.trans ((Only.alloc _ _ _).trans (B4.out.trans B5.out)))), fun h => absurd h hbad⟩
          ·rw [decide_eq_false h4] at HXT
           have H4 := Lib.hid h4
           clear h4
           go_wp2_with (go_at_call 15; refine HXT.out.mono ?_; rintro e w4 ⟨rfl, hb, hw⟩; have B4 := Lib.hid hb; clear hb hw)
           go_ret
           have hbad : ¬ cc ≤ m := by
            have := HC.out; have := HS.out; have := H1.out; have := HSX.out; have := HEX.out; have := HS2.out; have := H2.out; have := HSY.out; have := HEY.out; have := HS3.out; have := H3.out; have := HSZ.out; have := HEZ.out; have := H4.out
            omega
           exact ⟨ret_bool (decide_eq_false hbad).symm, HB.out.trans (HB2.out.trans (HB3.out.trans ((Only.alloc _ _ _).trans B4.out))), fun h => absurd h hbad⟩
         ·obtain rfl : k3 = n2 := by omega
          go_wp2
          go_roundw
          case rel =>
           have hs := HS3.out
           rw [sumC_all HL2.out] at hs
           exact ⟨k2 + 1, m3, by omega, by go_num, by rw [sumC_take HY.out, HEY.out]; have := HS2.out; have := H3.out; omega, HF3.out, HB2.out.trans HB3.out⟩
          case measure => simp [intOf]; omega
       ·have HT3 := Lib.hid (takes1_any (n := n2) HF2.out (by have := HS2.out; have := HS.out; have := HM.out; omega) (by unfold maxLen; omega))
        rw [decide_eq_false h3] at HT3
        unfold maxLen at hcap2
        have H3 := Lib.hid h3
        clear h3
        go_wp2_with (go_at_call 14; refine HT3.out.mono ?_; rintro e w3 ⟨rfl, hb, hw⟩; have B3 := Lib.hid hb; clear hb hw)
        go_ret
        have hbad : ¬ cc ≤ m := by
         have := HC.out; have := HS.out; have := H1.out; have := HSX.out; have := HEX.out; have := HS2.out; have := H2.out; have := HSY.out; have := HEY.out; have := H3.out
         omega
        exact ⟨ret_bool (decide_eq_false hbad).symm, HB.out.trans (HB2.out.trans B3.out), fun h => absurd h hbad⟩
      ·obtain rfl : k2 = n' := by omega
       go_wp2
       go_roundw
       case rel =>
        have hs := HS2.out
        rw [sumC_all HL'.out] at hs
        exact ⟨k + 1, m2, by omega, by go_num, by rw [sumC_take HX.out, HEX.out]; have := HS.out; have := H2.out; omega, HF2.out, HB.out.trans HB2.out⟩
       case measure => simp [intOf]; omega
    ·have HT2 := Lib.hid (takes1_any (n := n') HF.out (by have := HS.out; have := HM.out; omega) (by unfold maxLen; omega))
     rw [decide_eq_false h2] at HT2
     unfold maxLen at hcap'
     have H2 := Lib.hid h2
     clear h2
     go_wp2_with (go_at_call 14; refine HT2.out.mono ?_; rintro e w2 ⟨rfl, hb, hw⟩; have B2 := Lib.hid hb; clear hb hw)
     go_ret
     have hbad : ¬ cc ≤ m := by
      have := HC.out; have := HS.out; have := H1.out; have := HSX.out; have := HEX.out; have := H2.out
      omega
     exact ⟨ret_bool (decide_eq_false hbad).symm, HB.out.trans B2.out, fun h => absurd h hbad⟩
   ·obtain rfl : k = n := by omega
    go_wp2
    go_ret
    have hs := HS.out
    rw [sumC_all HL.out] at hs
    have := HC.out
    have := H1.out
    exact ⟨ret_bool (decide_eq_true (by omega)).symm, HB.out, fun _ => by rw [show m - cc = mk by omega]; exact HF.out⟩
 ·rw [decide_eq_false h1] at HT
  have H1 := Lib.hid h1
  clear h1
  go_enter Tryz.func26, Tryz.ntmps26
  go_wp2_with (go_at_call 14; refine HT.out.mono ?_; rintro e w1 ⟨rfl, hb, hw⟩; have B1 := Lib.hid hb; clear hb hw)
  go_ret
  have hbad : ¬ cc ≤ m := by have := HC.out; have := H1.out; omega
  exact ⟨ret_bool (decide_eq_false hbad).symm, B1.out, fun h => absurd h hbad⟩
end Go.Proofs.YtmoglaknmlhpgaaGreatDoor
