/- TargetOrder: the walk. -/
import Derived.Test.YtjpkemamfccfdaaTgtC
import Derived.Test.YtjpkemamfccfdaaTargetGrows
import Derived.Test.YtjpkemamfccfdaaTgtB
namespace Go.Proofs.Ytjpkemamfccfdaa
set_option linter.unusedVariables false
open Go.RowKit Go.Sort

/-- The same elements, as often and in whatever order they stand. -/
def SetR {α β : Type} (R : α → β → Prop) (l : List α) (m : List β) : Prop := (∀ x ∈ l, ∃ y ∈ m, R x y) ∧ ∀ y ∈ m, ∃ x ∈ l, R x y
theorem SetR.nil {α β : Type} (R : α → β → Prop) {m : List β} {n : Nat} (h : m.length = n) : SetR R ([] : List α) (m.drop n) := by
  rw [List.drop_of_length_le (by omega)]
  exact ⟨fun _ h => by simp at h, fun _ h => by simp at h⟩
theorem SetR.step {α β : Type} {R : α → β → Prop} {l : List α} {m : List β} {k : Nat} {x : β} {ys : List α} (h : SetR R l (m.drop (k + 1))) (hx : m[k]? = some x) (hy : ∀ y ∈ ys, R y x) (hne : ys ≠ []) : SetR R (l ++ ys) (m.drop k) := by
  obtain ⟨hk, rfl⟩ := List.getElem?_eq_some_iff.1 hx
  rw [List.drop_eq_getElem_cons hk]
  refine ⟨fun z hz => ?_, fun z hz => ?_⟩
  · rcases List.mem_append.1 hz with hz | hz
    · obtain ⟨y, a, b⟩ := h.1 z hz
      exact ⟨y, List.mem_cons_of_mem _ a, b⟩
    · exact ⟨m[k], List.mem_cons_self, hy z hz⟩
  · rcases List.mem_cons.1 hz with rfl | hz
    · obtain ⟨y, r, rfl⟩ := List.exists_cons_of_ne_nil hne
      exact ⟨y, by simp, hy y (by simp)⟩
    · obtain ⟨y, a, b⟩ := h.2 z hz
      exact ⟨y, List.mem_append_left _ a, b⟩
theorem most_set {α β : Type} {f : α → Int} {g : β → Int} {R : α → β → Prop} (hR : ∀ x y, R x y → f x = g y) {l : List α} {m : List β} (h : SetR R l m) : most f l = most g m :=
  Int.le_antisymm (most_sub fun x hx => by obtain ⟨y, a, b⟩ := h.1 x hx; exact ⟨y, a, Int.le_of_eq (hR _ _ b)⟩) (most_sub fun y hy => by obtain ⟨x, a, b⟩ := h.2 y hy; exact ⟨x, a, Int.le_of_eq (hR _ _ b).symm⟩)
theorem least_set {α β : Type} {f : α → Int} {g : β → Int} {R : α → β → Prop} (hR : ∀ x y, R x y → f x = g y) {l : List α} {m : List β} (h : SetR R l m) : least f l = least g m :=
  Int.le_antisymm (least_sub fun y hy => by obtain ⟨x, a, b⟩ := h.2 y hy; exact ⟨x, a, Int.le_of_eq (hR _ _ b)⟩) (least_sub fun x hx => by obtain ⟨y, a, b⟩ := h.1 x hx; exact ⟨y, a, Int.le_of_eq (hR _ _ b).symm⟩)
def SameAl (a b : List Mat) : Prop := SetR (fun x y => x = y) a b
def SameAn (a b : List (List Mat)) : Prop := SetR SameAl a b
def SameTg (a b : Tgt) : Prop := SetR SameAn a b
theorem met_set {ask : List Giv} {a b : Tgt} (h : SameTg a b) : metI ask a = metI ask b :=
  least_set (fun x y hxy => most_set (f := allI ask) (g := allI ask) (fun x y hxy => least_set (f := matchI ask) (g := matchI ask) (fun x y e => by rw [e]) hxy) hxy) h
theorem met_twice (ask : List Giv) (t : Tgt) : metI ask (t ++ t) = metI ask t := by rw [met_both]; omega
theorem met_nil (ask : List Giv) : metI ask [] = 2 := rfl
theorem met_hollow (ask : List Giv) : metI ask [[]] = 0 := rfl
theorem all_nil (ask : List Giv) : allI ask [] = 2 := rfl
theorem all_len {t : Tgt} {x : List (List Mat)} {y : List Mat} (h : tgC t ≤ 3000) (hx : x ∈ t) (hy : y ∈ x) : y.length ≤ 3000 := by
  have h1 := sumC_mem (f := anyC) hx
  have h2 := sumC_mem (f := allC) hy
  have e : y.length ≤ allC y := by unfold allC; omega
  have e2 : sumC allC x ≤ anyC x := by unfold anyC; omega
  unfold tgC at h
  omega
/-- append(all, m, m). -/
theorem push_two {w : World} {base n c : Nat} {A : Option Addr} {l : List Mat} {m : Mat} (h : w.ownsRow base 28 7 (.slice A n c) n (l.flatMap Mat.cells)) (hm : m.ok) (hn : n + 2 ≤ 1000000) (hb : base ≤ w.heap.size) :
    ∃ A' c' w', (Builtin.append_ #[36, 36] 36 #[.slice A n c, .slice (some ⟨w.heap.size, 0, none⟩) 2 2]).run Try.prog (w.alloc (.cells (m.cells ++ m.cells).toArray 28)) = .ok (.slice A' (n + 2) c') w' ∧
      w'.ownsRow base 28 7 (.slice A' (n + 2) c') (n + 2) ((l ++ [m, m]).flatMap Mat.cells) ∧ Below base w w' := by
  have e1 : Below w.heap.size w (w.alloc (.cells (m.cells ++ m.cells).toArray 28)) := (Below.refl _ _).alloc (Nat.le_refl _) _
  obtain ⟨i, hi, hz, hs, hbb⟩ := info_of matinfo
  have hlit : Ms (w.alloc (.cells (m.cells ++ m.cells).toArray 28)) (fun _ => True) (some ⟨w.heap.size, 0, none⟩) 2 2 [m, m] := by
    have := Rw.lit (k := 7) (P := fun vs (m : Mat) => vs = m.cells ∧ m.ok) (R := fun _ => True) w 28 Mat.cells [m, m] (n := 2) rfl (by omega) trivial (fun _ _ => rfl) (fun x hx => by simp at hx; subst hx; exact ⟨rfl, hm⟩)
    rw [show [m, m].flatMap Mat.cells = m.cells ++ m.cells by simp] at this
    exact this
  obtain ⟨A', c', w', r, o, b, _, _⟩ := append_rows (ty := 36) (c2 := 2) (m := 2) Try.underlying36 hi hz hs hbb rfl (by omega) (by omega) (h.alloc (.cells (m.cells ++ m.cells).toArray 28)) (Ms.fl hlit) hn (by rw [size_al]; omega)
  refine ⟨A', c', w', r, ?_, (e1.mono hb).trans b⟩
  rw [flatMap_app]
  exact o

set_option maxRecDepth 100000 in
set_option maxHeartbeats 12800000 in
theorem targetOrder_walk (w : World) (A0 : Option Addr) (n0 c0 : Nat) (h0 : ∃ l, Tg w (fun _ => True) A0 n0 c0 l) (A2 : Option Addr) (n2 c2 : Nat) (h2 : ∃ l, Gvs w (fun _ => True) A2 n2 c2 l) :
    Calls Try.prog 8 #[.slice A0 n0 c0, .slice A2 n2 c2] w fun e w' => e = .returned (.bool true) ∧ Below w.heap.size w w' := by
  obtain ⟨t, h0⟩ := h0
  obtain ⟨ask, h2⟩ := h2
  have hle0 := Rw.le h0
  have hcap0 := Rw.cap h0
  unfold maxLen at hcap0
  have HL0 := Lib.hid (Rw.len h0)
  have T0 := Lib.hid h0
  have G0 := Lib.hid h2
  clear h0 h2
  go_enter Try.func8, Try.ntmps8
  by_cases s0 : tgS t ≤ 3000
  rotate_left
  · have S0 := Lib.hid (fun V (hV : Below w.heap.size w V) => tgsmall_is (decide_eq_false s0) (T0.out.up' hV))
    clear s0
    go_wp2_with (first
      | (go_at_call 14; (with_reducible refine (S0.out w (Below.refl _ _)).mono ?_); rintro e u1 ⟨rfl, hb⟩; have G1 := Lib.hid hb; clear hb)
      | (go_at_call 3; refine (tgruns_any _).mono ?_; rintro e u9 ⟨rfl, hb⟩; have G9 := Lib.hid (below_step G1.out hb); clear hb))
    go_ret
    exact ⟨rfl, G9.out⟩
  have S0 := Lib.hid (fun V (hV : Below w.heap.size w V) => tgsmall_is (decide_eq_true s0) (T0.out.up' hV))
  by_cases s2 : fewC ask ≤ 1200
  rotate_left
  · have F0 := Lib.hid (fun V (hV : Below w.heap.size w V) => tgfew_is (decide_eq_false s2) (G0.out.up' hV))
    clear s0 s2
    go_wp2_with (first
      | (go_at_call 14; (with_reducible refine (S0.out w (Below.refl _ _)).mono ?_); rintro e u1 ⟨rfl, hb⟩; have G1 := Lib.hid hb; clear hb)
      | (go_at_call 15; (with_reducible refine (F0.out _ G1.out).mono ?_); rintro e u2 ⟨rfl, hb⟩; have G2 := Lib.hid (below_step G1.out hb); clear hb)
      | (go_at_call 3; refine (tgruns_any _).mono ?_; rintro e u9 ⟨rfl, hb⟩; have G9 := Lib.hid (below_step G2.out hb); clear hb))
    go_ret
    exact ⟨rfl, G9.out⟩
  have F0 := Lib.hid (fun V (hV : Below w.heap.size w V) => tgfew_is (decide_eq_true s2) (G0.out.up' hV))
  have HS := Lib.hid (few_short s2)
  have HT0 := Lib.hid (tgS_tg s0)
  have HN0 : Hid (n0 ≤ 3000) := by show _ ≤ _; have := tgS_len s0; have := HL0.out; omega
  clear s0 s2
  go_upto_region 5 with (first
      | (go_at_call 14; (with_reducible refine (S0.out w (Below.refl _ _)).mono ?_); rintro e u1 ⟨rfl, hb⟩; have G1 := Lib.hid hb; clear hb)
      | (go_at_call 15; (with_reducible refine (F0.out _ G1.out).mono ?_); rintro e u2 ⟨rfl, hb⟩; have G2 := Lib.hid (below_step G1.out hb); clear hb))
  clear S0 F0 G1
  have SN : Hid (SameTg [] (t.drop n0)) := SetR.nil _ HL0.out
  have GN : Hid (Gr 1 AnP u2 u2.heap.size 37 none 0 0 []) := Gr.nil _ _ (Nat.le_refl _)
  have hn03 := HN0.out
  have hw0 : IntKind.i64.wrap ((n0 : Int) - 1) = (n0 : Int) - 1 := by rw [IntKind.wrap_i64]; omega
  go_loopw [5, 6] (fun o i wr => ∃ (k m : Nat) (z : Int) (A' : Option Addr) (c' : Nat) (L : Tgt), k ≤ n0 ∧ z + 1 = k ∧ i = .int .i64 z ∧ o = .slice A' m c' ∧ m + k ≤ 3000 ∧ SameTg L (t.drop k) ∧ Gr 1 AnP wr u2.heap.size 37 A' m c' L ∧ Below u2.heap.size u2 wr) (fun _ i _ => (intOf i + 1).toNat)
  case atStart => exact ⟨n0, 0, (n0 : Int) - 1, none, 0, [], Nat.le_refl _, by omega, by first | rfl | rw [hw0], rfl, by omega, SN.out, GN.out, Below.refl _ _⟩
  case round =>
    clear SN GN hw0
    obtain ⟨k, m, z, A', c', L, hk, hz, rfl, rfl, hmk, hs, hg, hb⟩ := hrel
    have HSB := Lib.hid hs
    have HGB := Lib.hid hg
    have HB := Lib.hid (below_step G2.out hb)
    have HBU := Lib.hid hb
    clear hs hg hb
    by_cases hk0 : k = 0
    · subst hk0
      obtain rfl : z = -1 := by omega
      have BACK := Lib.hid (Tg.up' (Gr.rw keeps_anp HGB.out (by omega)) (Below.refl _ _))
      have HMB : Hid (metI ask L = metI ask t) := met_set HSB.out
      obtain ⟨rm, hrm⟩ : ∃ r, metI ask t = r := ⟨_, rfl⟩
      rw [hrm] at HMB
      have HMT := Lib.hid ((met_twice ask t).trans hrm)
      have C0 := Lib.hid (fun V (hV : Below w.heap.size w V) => tgmet_is hrm (T0.out.up' hV) (G0.out.up' hV) HS.out)
      have CB := Lib.hid (fun V (hV : Below wr.heap.size wr V) => tgmet_is HMB.out (BACK.out.up' hV) (G0.out.up' (below_step HB.out hV)) HS.out)
      have CN := Lib.hid (fun V (hV : Below w.heap.size w V) => tgmet_is (met_nil ask) (Rw.nil_ 1 _ V (fun _ => True)) (G0.out.up' hV) HS.out)
      have CA := Lib.hid (fun V (hV : Below w.heap.size w V) => tgall_is (all_nil ask) (Rw.nil_ 7 _ V (fun _ => True)) (G0.out.up' hV) HS.out)
      have hq : ∃ q, q = n0 + n0 := ⟨_, rfl⟩
      obtain ⟨q, hq⟩ := hq
      have HQ := Lib.hid hq
      clear hrm hq HMB
      go_wp2_with (first
        | (go_at_call 17; (with_reducible refine (C0.out _ HB.out).mono ?_); rintro e v1 ⟨rfl, hb⟩; have E1 := Lib.hid hb; have E10 := Lib.hid (below_step HB.out hb); clear hb)
        | (go_at_call 17; (with_reducible refine (CB.out _ E1.out).mono ?_); rintro e v2 ⟨rfl, hb⟩; have E2 := Lib.hid (below_step E10.out hb); obtain ⟨B5, k5, w5, B6, k6, w6, r5, r6, e6, hbo⟩ := both_tg (w := v2) (T0.out.up' E2.out) (T0.out.up' E2.out) (by omega) HQ.out; have R5 := Lib.hid r5; have R6 := Lib.hid r6; have E3 := Lib.hid (below_step E2.out e6); have HBO := Lib.hid (tgmet_is (l := ask) HMT.out hbo (G0.out.up' (below_step E2.out e6)) HS.out); clear r5 r6 e6 hbo hb)
        | (at_builtin; refine wpList_append_want (o := ⟨some 93, _, _, _, _, _⟩) rfl _ _ _ _ rfl rfl rfl R5.out ?_)
        | (at_builtin; refine wpList_append_want (o := ⟨some 95, _, _, _, _, _⟩) rfl _ _ _ _ rfl rfl rfl R6.out ?_)
        | (go_at_call 17; (with_reducible refine HBO.out.mono ?_); rintro e v3 ⟨rfl, hb⟩; have E4 := Lib.hid (below_step E3.out hb); clear hb)
        | (go_at_call 17; (with_reducible refine (CN.out _ E4.out).mono ?_); rintro e v4 ⟨rfl, hb⟩; have E5 := Lib.hid (below_step E4.out hb); have HO := Lib.hid (tgmet_is (l := ask) (met_hollow ask) (tg_one v4 (Rw.nil_ 1 _ v4 (fun _ => True))) (G0.out.up' (E5.out.alloc E5.out.size _)) HS.out); clear hb)
        | (go_at_call 17; (with_reducible refine HO.out.mono ?_); rintro e v5 ⟨rfl, hb⟩; have E6 := Lib.hid (below_step E5.out (Below.lit hb)); clear hb)
        | (go_at_call 19; (with_reducible refine (CA.out _ E6.out).mono ?_); rintro e v6 ⟨rfl, hb⟩; have E7 := Lib.hid (below_step E6.out hb); clear hb)
        | (go_at_call 3; refine (tgruns_any _).mono ?_; rintro e u9 ⟨rfl, hb⟩; have E9 := Lib.hid (below_step E7.out hb); clear hb))
      go_ret
      exact ⟨rfl, E9.out⟩
    obtain ⟨q0, rfl⟩ : ∃ q : Nat, z = (q : Int) := ⟨z.toNat, by omega⟩
    obtain rfl : k = q0 + 1 := by omega
    have k0 : (0 : Int) ≤ (q0 : Int) := by omega
    have k1 : (q0 : Int) < (n0 : Int) := by omega
    have k2 : q0 < n0 := by omega
    obtain ⟨b0, o0, x, A4, n4, c4, rfl, _, hbl0, hx, x0, hA⟩ := (T0.out.up' HB.out).at_ k2
    have HX := Lib.hid hx
    have HL1 := Lib.hid (Rw.len hA)
    have HN1 : Hid (n4 ≤ 3000) := by show _ ≤ _; have := any_len HT0.out (List.mem_of_getElem? hx); have := HL1.out; omega
    have HA := Lib.hid hA
    have CX := Lib.hid (fun V (hV : Below wr.heap.size wr V) => (World.cell?_of_block (hV.block _ hbl0)).trans x0)
    have hn13 := HN1.out
    have hw1 : IntKind.i64.wrap ((n4 : Int) - 1) = (n4 : Int) - 1 := by rw [IntKind.wrap_i64]; omega
    have hwq0 : IntKind.i64.wrap ((q0 : Int) - 1) = (q0 : Int) - 1 := by rw [IntKind.wrap_i64]; omega
    clear hx hA hbl0 hz hk0
    obtain ⟨w1, hw1e⟩ : ∃ w1, w1 = wr := ⟨wr, rfl⟩
    subst hw1e
    have SN : Hid (SameAn [] (x.drop n4)) := SetR.nil _ HL1.out
    have GN : Hid (Gr 1 AlP w1 w1.heap.size 36 none 0 0 []) := Gr.nil _ _ (Nat.le_refl _)
    go_upto_region 9 with fail
    go_loopw [7, 8] (fun o i wq => ∃ (k m : Nat) (z : Int) (A' : Option Addr) (c' : Nat) (L : List (List Mat)), k ≤ n4 ∧ z + 1 = k ∧ i = .int .i64 z ∧ o = .slice A' m c' ∧ m + k ≤ 3000 ∧ SameAn L (x.drop k) ∧ Gr 1 AlP wq w1.heap.size 36 A' m c' L ∧ Below w1.heap.size w1 wq) (fun _ i _ => (intOf i + 1).toNat)
    case atStart => exact ⟨n4, 0, (n4 : Int) - 1, none, 0, [], Nat.le_refl _, by omega, by first | rfl | rw [hw1], rfl, by omega, SN.out, GN.out, Below.refl _ _⟩
    case round =>
      clear SN GN hw1 x0
      obtain ⟨kb, mb, zb, Ab, cb, Lb, hkb, hzb, rfl, rfl, hmkb, hsb, hgb, hbb⟩ := hrel
      have HSB1 := Lib.hid hsb
      have HGB1 := Lib.hid hgb
      have HB1 := Lib.hid (below_step HB.out hbb)
      have HBU1 := Lib.hid hbb
      clear hsb hgb hbb
      by_cases hkb0 : kb = 0
      · subst hkb0
        obtain rfl : zb = -1 := by omega
        obtain ⟨A6, c6, w6, r6, g6, b6⟩ := push_any (w := wr) (base := u2.heap.size) (l := L) (x := Lb) (Gr.below keeps_anp HGB.out HBU1.out) (Als.keep (Gr.rw keeps_alp HGB1.out (by omega)) (Kept.refl _ _) (fun b hb _ => Gr.apart HGB.out b hb)) (by omega)
        have R6 := Lib.hid r6
        have G6 := Lib.hid g6
        have B6 := Lib.hid (HBU.out.trans ((HBU1.out.mono HBU.out.size).trans b6))
        have SS : Hid (SameTg (L ++ [Lb]) (t.drop q0)) := HSB.out.step HX.out (fun y hy => by simp at hy; subst hy; exact HSB1.out) (by simp)
        clear r6 g6 b6
        go_wp2_with (at_builtin; refine wpList_append_run (o := ⟨some 81, _, _, _, _, _⟩) rfl _ _ _ _ rfl rfl rfl R6.out ?_)
        go_roundw
        case rel => exact ⟨q0, m + 1, (q0 : Int) - 1, A6, c6, L ++ [Lb], by omega, by omega, by first | rfl | rw [hwq0], rfl, by omega, SS.out, G6.out, B6.out⟩
        case measure => simp [intOf] <;> omega
      obtain ⟨q1, rfl⟩ : ∃ q : Nat, zb = (q : Int) := ⟨zb.toNat, by omega⟩
      obtain rfl : kb = q1 + 1 := by omega
      have j0 : (0 : Int) ≤ (q1 : Int) := by omega
      have j1 : (q1 : Int) < (n4 : Int) := by omega
      have j2 : q1 < n4 := by omega
      obtain ⟨b1, o1, y, A5, n5, c5, rfl, _, hbl1, hy, y0, hM⟩ := (HA.out.up' HBU1.out).at_ j2
      have x0 := CX.out _ HBU1.out
      have HY := Lib.hid hy
      have HL2 := Lib.hid (Rw.len hM)
      have HN2 : Hid (n5 ≤ 3000) := by show _ ≤ _; have := all_len HT0.out (List.mem_of_getElem? HX.out) (List.mem_of_getElem? hy); have := HL2.out; omega
      have HM := Lib.hid hM
      have CY := Lib.hid (fun V (hV : Below wr.heap.size wr V) => (World.cell?_of_block (hV.block _ hbl1)).trans y0)
      have hn23 := HN2.out
      have hw2 : IntKind.i64.wrap ((n5 : Int) - 1) = (n5 : Int) - 1 := by rw [IntKind.wrap_i64]; omega
      have hwq1 : IntKind.i64.wrap ((q1 : Int) - 1) = (q1 : Int) - 1 := by rw [IntKind.wrap_i64]; omega
      clear hy hM hbl1 hzb hkb0
      obtain ⟨w2, hw2e⟩ : ∃ w2, w2 = wr := ⟨wr, rfl⟩
      subst hw2e
      have SN : Hid (SameAl [] (y.drop n5)) := SetR.nil _ HL2.out
      have GN : Hid (w2.ownsRow w2.heap.size 28 7 (.slice none 0 0) 0 (([] : List Mat).flatMap Mat.cells)) := World.ownsRow_nil w2 w2.heap.size 28 7
      go_upto_region 13 with fail
      go_loopw [9, 10] (fun o i wq => ∃ (k m : Nat) (z : Int) (A' : Option Addr) (c' : Nat) (L : List Mat), k ≤ n5 ∧ z + 1 = k ∧ i = .int .i64 z ∧ o = .slice A' m c' ∧ (m + 2 * k ≤ 6000 ∧ L.length = m ∧ ∀ x ∈ L, x.ok) ∧ SameAl L (y.drop k) ∧ wq.ownsRow w2.heap.size 28 7 (.slice A' m c') m (L.flatMap Mat.cells) ∧ Below w2.heap.size w2 wq) (fun _ i _ => (intOf i + 1).toNat)
      case atStart => exact ⟨n5, 0, (n5 : Int) - 1, none, 0, [], Nat.le_refl _, by omega, by first | rfl | rw [hw2], rfl, ⟨by omega, rfl, fun _ h => by cases h⟩, SN.out, GN.out, Below.refl _ _⟩
      case round =>
        clear SN GN hw2 x0 y0
        obtain ⟨kc, mc, zc, Ac, cc, Lc, hkc, hzc, rfl, rfl, ⟨hmkc, hlc, hokc⟩, hsc, hgc, hbc⟩ := hrel
        have HSB2 := Lib.hid hsc
        have HGB2 := Lib.hid hgc
        have HB2 := Lib.hid (below_step HB1.out hbc)
        have HBU2 := Lib.hid hbc
        have HLC := Lib.hid hlc
        have HOKC := Lib.hid hokc
        clear hsc hgc hbc hlc hokc
        by_cases hkc0 : kc = 0
        · subst hkc0
          obtain rfl : zc = -1 := by omega
          have MC : Hid (Ms wr (Nb w1.heap.size (.slice Ab mb cb)) Ac mc cc Lc) := Rw.flat_own HGB2.out (by omega) HLC.out (fun _ => rfl) HOKC.out (fun ad _ hb => Gr.apart HGB1.out _ hb)
          obtain ⟨A6, c6, w6, r6, g6, b6⟩ := push_all (w := wr) (base := w1.heap.size) (l := Lb) (x := Lc) (Gr.below keeps_alp HGB1.out HBU2.out) MC.out (by omega)
          have R6 := Lib.hid r6
          have G6 := Lib.hid g6
          have B6 := Lib.hid (HBU1.out.trans ((HBU2.out.mono HBU1.out.size).trans b6))
          have SS : Hid (SameAn (Lb ++ [Lc]) (x.drop q1)) := HSB1.out.step HY.out (fun y hy => by simp at hy; subst hy; exact HSB2.out) (by simp)
          clear r6 g6 b6
          go_wp2_with (at_builtin; refine wpList_append_run (o := ⟨some 77, _, _, _, _, _⟩) rfl _ _ _ _ rfl rfl rfl R6.out ?_)
          go_roundw
          case rel => exact ⟨q1, mb + 1, (q1 : Int) - 1, A6, c6, Lb ++ [Lc], by omega, by omega, by first | rfl | rw [hwq1], rfl, by omega, SS.out, G6.out, B6.out⟩
          case measure => simp [intOf] <;> omega
        obtain ⟨q2, rfl⟩ : ∃ q : Nat, zc = (q : Int) := ⟨zc.toNat, by omega⟩
        obtain rfl : kc = q2 + 1 := by omega
        have l0 : (0 : Int) ≤ (q2 : Int) := by omega
        have l1 : (q2 : Int) < (n5 : Int) := by omega
        have l2 : q2 < n5 := by omega
        obtain ⟨b2, o2, e, rfl, _, hbl2, he, heok, e0, e1, e2, e3, e4, e5, e6⟩ := (HM.out.up' HBU2.out).at_ l2
        have HE := Lib.hid he
        have HEOK := Lib.hid heok
        have CE := Lib.hid (fun V (hV : Below wr.heap.size wr V) => (⟨(World.cell?_of_block (hV.block _ hbl2)).trans e0, (World.cell?_of_block (hV.block _ hbl2)).trans e1, (World.cell?_of_block (hV.block _ hbl2)).trans e2, (World.cell?_of_block (hV.block _ hbl2)).trans e3, (World.cell?_of_block (hV.block _ hbl2)).trans e4, (World.cell?_of_block (hV.block _ hbl2)).trans e5, (World.cell?_of_block (hV.block _ hbl2)).trans e6⟩ : _ ∧ _ ∧ _ ∧ _ ∧ _ ∧ _ ∧ _))
        have hwq2 : IntKind.i64.wrap ((q2 : Int) - 1) = (q2 : Int) - 1 := by rw [IntKind.wrap_i64]; omega
        have CXQ := Lib.hid (fun V (hV : Below wr.heap.size wr V) => CX.out V (below_step HBU1.out (below_step HBU2.out hV)))
        have CYQ := Lib.hid (fun V (hV : Below wr.heap.size wr V) => CY.out V (below_step HBU2.out hV))
        clear he heok e0 e1 e2 e3 e4 e5 e6 hbl2 hzc hkc0
        obtain ⟨⟨xc, xn, xu⟩, xo, ⟨xk, xnn, xs⟩⟩ := e
        simp only at CE
        go_upto_region 15 with fail
        have S0 : Hid (Below wr.heap.size wr wr) := Below.refl _ _
        refine wp_region_held_tail (fun w' => Below wr.heap.size wr w') 22 (by kernel_rfl) (by kernel_rfl) ?_
        intro G
        change HeadW _ _ _ _ _ _ _ _ _ _ (wr.drewN 1)
        have S := Lib.hid (below_drewN S0.out 1)
        generalize wr.drewN 1 = y0 at *
        refine HeadW_take (i := 0) (v := ?_) G rfl (by kernel_rfl) (by kernel_rfl) (by kernel_rfl) (fun _ _ _ h => h) (Or.inl ⟨by rfl, ?_⟩) S.out ?_
        rotate_left
        · intro wz hS
          go_simp
          try with_reducible rfl
        refine HeadW_take (i := 1) (v := ?_) G rfl (by kernel_rfl) (by kernel_rfl) (by kernel_rfl) (fun _ _ _ h => h) (Or.inl ⟨by rfl, ?_⟩) S.out ?_
        rotate_left
        · intro wz hS
          go_simp
          try with_reducible rfl
        refine HeadW_take (i := 2) (v := ?_) G rfl (by kernel_rfl) (by kernel_rfl) (by kernel_rfl) (fun _ _ _ h => h) (Or.inl ⟨by rfl, ?_⟩) S.out ?_
        rotate_left
        · intro wz hS
          go_simp
          try with_reducible rfl
        refine HeadW_take (i := 3) (v := ?_) G rfl (by kernel_rfl) (by kernel_rfl) (by kernel_rfl) (fun _ _ _ h => h) (Or.inl ⟨by rfl, ?_⟩) S.out ?_
        rotate_left
        · intro wz hS
          go_simp
          try with_reducible rfl
        refine HeadW_take (i := 4) (v := ?_) G rfl (by kernel_rfl) (by kernel_rfl) (by kernel_rfl) (fun _ _ _ h => h) (Or.inl ⟨by rfl, ?_⟩) S.out ?_
        rotate_left
        · intro wz hS
          have hk := CXQ.out _ hS
          go_simp
          try with_reducible rfl
        refine HeadW_take (i := 5) (v := ?_) G rfl (by kernel_rfl) (by kernel_rfl) (by kernel_rfl) (fun _ _ _ h => h) (Or.inl ⟨by rfl, ?_⟩) S.out ?_
        rotate_left
        · intro wz hS
          go_simp
          try with_reducible rfl
        refine HeadW_take (i := 6) (v := ?_) G rfl (by kernel_rfl) (by kernel_rfl) (by kernel_rfl) (fun _ _ _ h => h) (Or.inl ⟨by rfl, ?_⟩) S.out ?_
        rotate_left
        · intro wz hS
          go_simp
          try with_reducible rfl
        refine HeadW_take (i := 7) (v := ?_) G rfl (by kernel_rfl) (by kernel_rfl) (by kernel_rfl) (fun _ _ _ h => h) (Or.inl ⟨by rfl, ?_⟩) S.out ?_
        rotate_left
        · intro wz hS
          have hk := CYQ.out _ hS
          go_simp
          try with_reducible rfl
        refine HeadW_take (i := 8) (v := ?_) G rfl (by kernel_rfl) (by kernel_rfl) (by kernel_rfl) (fun _ _ _ h => h) (Or.inl ⟨by rfl, ?_⟩) S.out ?_
        rotate_left
        · intro wz hS
          go_simp
          try with_reducible rfl
        refine HeadW_take (i := 9) (v := ?_) G rfl (by kernel_rfl) (by kernel_rfl) (by kernel_rfl) (fun _ _ _ h => h) (Or.inl ⟨by rfl, ?_⟩) S.out ?_
        rotate_left
        · intro wz hS
          go_simp
          try with_reducible rfl
        refine HeadW_take (i := 10) (v := ?_) G rfl (by kernel_rfl) (by kernel_rfl) (by kernel_rfl) (fun _ _ _ h => h) (Or.inl ⟨by rfl, ?_⟩) S.out ?_
        rotate_left
        · intro wz hS
          obtain ⟨f0, f1, f2, f3, f4, f5, f6⟩ := CE.out _ hS
          go_simp
          try with_reducible rfl
        refine HeadW_take (i := 11) (v := ?_) G rfl (by kernel_rfl) (by kernel_rfl) (by kernel_rfl) (fun _ _ _ h => h) (Or.inl ⟨by rfl, ?_⟩) S.out ?_
        rotate_left
        · intro wz hS
          go_simp
          try with_reducible rfl
        refine HeadW_take (i := 12) (v := ?_) G rfl (by kernel_rfl) (by kernel_rfl) (by kernel_rfl) (fun _ _ _ h => h) (Or.inl ⟨by rfl, ?_⟩) S.out ?_
        rotate_left
        · intro wz hS
          go_simp
          try with_reducible rfl
        refine HeadW_take (i := 13) (v := ?_) G rfl (by kernel_rfl) (by kernel_rfl) (by kernel_rfl) (fun _ _ _ h => h) (Or.inl ⟨by rfl, ?_⟩) S.out ?_
        rotate_left
        · intro wz hS
          go_simp
          try with_reducible rfl
        refine HeadW_take (i := 14) (v := ?_) G rfl (by kernel_rfl) (by kernel_rfl) (by kernel_rfl) (fun _ _ _ h => h) (Or.inl ⟨by rfl, ?_⟩) S.out ?_
        rotate_left
        · intro wz hS
          have hk := CXQ.out _ hS
          go_simp
          try with_reducible rfl
        refine HeadW_take (i := 15) (v := ?_) G rfl (by kernel_rfl) (by kernel_rfl) (by kernel_rfl) (fun _ _ _ h => h) (Or.inl ⟨by rfl, ?_⟩) S.out ?_
        rotate_left
        · intro wz hS
          go_simp
          try with_reducible rfl
        refine HeadW_take (i := 16) (v := ?_) G rfl (by kernel_rfl) (by kernel_rfl) (by kernel_rfl) (fun _ _ _ h => h) (Or.inl ⟨by rfl, ?_⟩) S.out ?_
        rotate_left
        · intro wz hS
          go_simp
          try with_reducible rfl
        refine HeadW_take (i := 17) (v := ?_) G rfl (by kernel_rfl) (by kernel_rfl) (by kernel_rfl) (fun _ _ _ h => h) (Or.inl ⟨by rfl, ?_⟩) S.out ?_
        rotate_left
        · intro wz hS
          have hk := CYQ.out _ hS
          go_simp
          try with_reducible rfl
        refine HeadW_take (i := 18) (v := ?_) G rfl (by kernel_rfl) (by kernel_rfl) (by kernel_rfl) (fun _ _ _ h => h) (Or.inl ⟨by rfl, ?_⟩) S.out ?_
        rotate_left
        · intro wz hS
          go_simp
          try with_reducible rfl
        refine HeadW_take (i := 19) (v := ?_) G rfl (by kernel_rfl) (by kernel_rfl) (by kernel_rfl) (fun _ _ _ h => h) (Or.inl ⟨by rfl, ?_⟩) S.out ?_
        rotate_left
        · intro wz hS
          go_simp
          try with_reducible rfl
        refine HeadW_take (i := 20) (v := ?_) G rfl (by kernel_rfl) (by kernel_rfl) (by kernel_rfl) (fun _ _ _ h => h) (Or.inl ⟨by rfl, ?_⟩) S.out ?_
        rotate_left
        · intro wz hS
          obtain ⟨f0, f1, f2, f3, f4, f5, f6⟩ := CE.out _ hS
          go_simp
          try with_reducible rfl
        obtain ⟨A6, c6, w6, r6, o6, b6⟩ := push_two (w := y0) (m := ⟨⟨xc, xn, xu⟩, xo, ⟨xk, xnn, xs⟩⟩) (own_then HGB2.out S.out) HEOK.out (by omega) (Nat.le_trans HBU2.out.size S.out.size)
        have R6 := Lib.hid r6
        have O6 := Lib.hid o6
        have B6 := Lib.hid (HBU2.out.trans ((S.out.mono HBU2.out.size).trans b6))
        clear r6 o6 b6
        have SS : Hid (SameAl (Lc ++ [⟨⟨xc, xn, xu⟩, xo, ⟨xk, xnn, xs⟩⟩, ⟨⟨xc, xn, xu⟩, xo, ⟨xk, xnn, xs⟩⟩]) (y.drop q2)) := HSB2.out.step HE.out (fun y hy => by simp at hy; exact hy) (by simp)
        refine HeadW_ready (rs := [21]) (by kernel_rfl) rfl rfl ?_
        refine AllW.cons rfl (fun K hK => ?_) AllW.nil
        go_simp
        refine hK _ _ (S.out.alloc S.out.size _) ?_
        clear hK K
        intro _
        refine ⟨by kernel_rfl, ?_⟩
        simp only [List.drop_succ_cons, List.drop_zero]
        go_wp2_with (at_builtin; refine wpList_append_run (o := ⟨some 73, _, _, _, _, _⟩) rfl _ _ _ _ rfl rfl rfl R6.out ?_)
        go_roundw
        case rel => exact ⟨q2, mc + 2, (q2 : Int) - 1, A6, c6, Lc ++ [⟨⟨xc, xn, xu⟩, xo, ⟨xk, xnn, xs⟩⟩, ⟨⟨xc, xn, xu⟩, xo, ⟨xk, xnn, xs⟩⟩], by omega, by omega, by first | rfl | rw [hwq2], rfl, ⟨by omega, by rw [List.length_append, HLC.out]; rfl, fun v hv => by
          rcases List.mem_append.1 hv with hv | hv
          · exact HOKC.out v hv
          · simp at hv; subst hv; exact HEOK.out⟩, SS.out, O6.out, B6.out⟩
        case measure => simp [intOf] <;> omega
end Go.Proofs.Ytjpkemamfccfdaa
