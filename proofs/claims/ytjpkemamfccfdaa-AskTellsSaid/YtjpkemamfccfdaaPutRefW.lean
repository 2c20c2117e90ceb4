/- The reference's Put, walked. -/
import Derived.Test.YtjpkemamfccfdaaPutRefM
import Derived.Test.YtjpkemamfccfdaaVPutK
import Derived.Lib.QuietBelow
import Derived.Deep.CutRange
namespace Go.Proofs.Ytjpkemamfccfdaa
set_option linter.unusedVariables false
open Go.RowKit Go.Sort

def bb (f : List Bool) : Array Value := (f.map Value.bool).toArray
theorem boolinfo : (Try.prog.info? 4).map (fun i => (i.zero, i.size, i.bytes)) = some (some (.bool false), 1, 1) := by kernel_rfl
theorem madeBools (n : Nat) : madeCells (Value.bool false).cells (n * 1) = bb (List.replicate n false) := by
  unfold bb
  apply Array.ext
  · simp [madeCells]
  · intro i h1 h2; simp [madeCells, Value.cells, Nat.mod_one]
theorem make_bools (n : Nat) (h : n ≤ 100000) (W : World) :
    (Instr.makeSlice 91 (.int .i64 (n : Int)) (.int .i64 (n : Int))).run Try.prog W = .ok (.slice (some ⟨W.heap.size, 0, none⟩) n n) (W.alloc (.cells (bb (List.replicate n false)) 4)) := by
  obtain ⟨i, hi, hz0, hz1, hz2⟩ := info_parts boolinfo
  have hr := run_make (P := Try.prog) W 91 4 i _ Try.underlying91 hi hz0 .i64 .i64 n n (by omega) (by omega) (by rw [hz2]; omega) (by omega)
  rw [hz1] at hr
  simp only [Int.toNat_natCast, madeBools] at hr
  exact hr
theorem bb_at {w : World} {g : Nat} {f : List Bool} (h : Ob w g 4 (bb f)) {j : Nat} {b : Bool} (hf : f[j]? = some b) : w.cell? ⟨g, j, none⟩ = some (.bool b) := by
  rw [Ob.cell h j]
  unfold bb
  rw [List.getElem?_toArray, List.getElem?_map, hf]
  rfl
theorem bb_put {w : World} {g : Nat} {f : List Bool} (h : Ob w g 4 (bb f)) (j : Nat) : Ob (w.setCell ⟨g, j, none⟩ (.bool true)) g 4 (bb (f.set j true)) := by
  have := Ob.put h j (.bool true)
  unfold bb at this ⊢
  rw [List.map_set]
  simpa using this
theorem own_apart {w : World} {base n size : Nat} {E t : TypeId} {v : Value} {xs : List Value} {cs : Array Value} {g : Nat} (h : w.ownsRow base E size v n xs) (ho : Ob w g t cs) (ht : t ≠ E) : v.ownBlock ≠ some g := fun e => by
  rcases h.2 with ⟨rfl, _⟩ | ⟨g', cap, cur, rfl, _, hb, _⟩
  · simp [Value.ownBlock] at e
  · simp only [Value.ownBlock, Option.some.injEq] at e
    subst e
    unfold Ob at ho
    rw [hb] at ho
    injection ho with ho
    injection ho with _ h2 _
    exact ht h2.symm
theorem own_put {w : World} {base n g j : Nat} {A : Option Addr} {c : Nat} {f : List Bool} {l : List Value} {v : Value} (h : w.ownsRow base 5 1 (.slice A n c) n l) (ho : Ob w g 4 (bb f)) : (w.setCell ⟨g, j, none⟩ v).ownsRow base 5 1 (.slice A n c) n l := by
  have on : Only g w (w.setCell ⟨g, j, none⟩ v) := Only.refl.setCell rfl _
  exact h.kept (row := some g) on (.inr (own_apart h ho (by decide)))
theorem flat_bound {js : List Nat} {l : List Giv} (hf : FitsL l) (hok : ∀ g ∈ l, g.ok ∧ ∀ v ∈ g.bag, v.ok) (hj : ∀ i ∈ js, i < l.length) (hl : js.length ≤ 100000) : ((js.map (lsF l)).flatMap givB).length ≤ 90000000000 := by
  have h1 : ∀ js : List Nat, (∀ i ∈ js, i < l.length) → ((js.map (lsF l)).flatMap givB).length ≤ js.length * 900000 := by
    intro js
    induction js with
    | nil => intro _; simp
    | cons i r ih =>
      intro h
      have h2 := ih (fun k hk => h k (by simp [hk]))
      have hm : lsF l i ∈ l := List.mem_of_getElem? (lsF_get (h i (by simp)))
      have h3 := givB_few (lsF l i) (hok _ hm).1 (hf.each _ hm).1 (hf.each _ hm).2.1 (fun v hv => ⟨(hok _ hm).2 v hv, (hf.each _ hm).2.2 v hv⟩)
      have h4 := sumC_mem (f := givC) hm
      have h5 := hf.few
      simp only [List.map_cons, List.flatMap_cons, List.length_append, List.length_cons]
      omega
  have := h1 js hj
  omega
theorem lsF_at {l : List Giv} {k : Nat} {x : Giv} (h : l[k]? = some x) : lsF l k = x := by
  rw [lsF_get?, h]
  rfl

set_option maxRecDepth 100000 in
set_option maxHeartbeats 32000000 in
theorem rput_any {w : World} {R : Nat → Prop} {A : Option Addr} {n c : Nat} {l : List Giv} (h : Gvs w R A n c l) (hf : FitsL l) :
    Calls Try.prog 30 #[.slice A n c] w fun e w' => ∃ A' n' c' bs, e = .returned (.slice A' n' c') ∧ Below w.heap.size w w' ∧ PutOf l bs ∧ Sl w' w'.heap.size A' n' c' (bv bs) := by
  have hle := Rw.le h
  have hcap := Rw.cap h
  have HL := Lib.hid (Rw.len h)
  unfold maxLen at hcap
  have HOKS := Lib.hid h.oks
  have HK := Lib.hid (fun W (hW : Below w.heap.size w W) => Gvs.keep h (Kept.all hW R) (R' := fun b => b < w.heap.size) (fun _ _ h => h))
  have HF := Lib.hid hf
  have hn5 : n ≤ 100000 := by have := hf.len; have := Rw.len h; omega
  have hmk := make_bools n hn5
  clear h hf
  go_enter Try.func30, Try.ntmps30
  go_wp2_with fail
  refine (refnum_keep (base := w.heap.size) (l := []) (k := (n : Int)) (World.ownsRow_nil w w.heap.size 5 1) (Nat.le_refl _) (by omega) (by omega) (by omega)).mono ?_
  rintro e w1 ⟨A1, n1, c1, rfl, ho1, hb1, hk1⟩
  have O1 := Lib.hid (ho1.alloc (.cells (bb (List.replicate n false)) 4))
  have B1 := Lib.hid (hb1.alloc hb1.size (.cells (bb (List.replicate n false)) 4))
  have D1 := Lib.hid (Ob.made w1 4 (bb (List.replicate n false)))
  have HGD : Hid (w.heap.size ≤ w1.heap.size) := hb1.size
  clear ho1 hb1 hk1
  go_wp2_with fail
  obtain ⟨w2, hw2⟩ : ∃ w2, w1.alloc (.cells (bb (List.replicate n false)) 4) = w2 := ⟨_, rfl⟩
  rw [hw2] at O1 B1 D1
  rw [hw2]
  obtain ⟨gd, hgd⟩ : ∃ gd, w1.heap.size = gd := ⟨_, rfl⟩
  rw [hgd] at D1 HGD
  rw [hgd]
  clear hw2 hgd hmk
  have S1 : Hid (Sel l (List.replicate n false) []) := by show Sel _ _ _; rw [← HL.out]; exact Sel.nil l
  go_loopw [3, 18] (fun o i wr => ∃ (p : Nat) (A' : Option Addr) (n' c' : Nat) (f : List Bool) (js : List Nat), p ≤ n ∧ i = .int .i64 p ∧ o = .slice A' n' c' ∧ js.length = p ∧ Sel l f js ∧ wr.ownsRow w.heap.size 5 1 (.slice A' n' c') n' (bv (numB (n : Int) ++ (js.map (lsF l)).flatMap givB)) ∧ Ob wr gd 4 (bb f) ∧ Below w.heap.size w wr) (fun _ i _ => n - (intOf i).toNat)
  case atStart => exact ⟨0, A1, n1, c1, List.replicate n false, [], Nat.zero_le _, rfl, rfl, rfl, S1.out, by have := O1.out; simpa using this, D1.out, B1.out⟩
  case round =>
    clear S1 O1 D1 B1
    obtain ⟨p, A', n', c', f, js, hp, rfl, rfl, hjs, hsel, ho, hd, hb⟩ := hrel
    have HSEL := Lib.hid hsel
    have HO := Lib.hid ho
    have HD := Lib.hid hd
    have HB := Lib.hid hb
    have HJS := Lib.hid hjs
    clear hsel ho hd hb hjs
    by_cases hpn : p < n
    case neg =>
      obtain rfl : p = n := by omega
      have HPUT : Hid (PutOf l (numB (p : Int) ++ (js.map (lsF l)).flatMap givB)) := by
        have := HSEL.out.put (by have := HJS.out; have := HL.out; omega)
        unfold reqB at this
        rw [List.length_map, HJS.out] at this
        exact this
      go_wp2_with fail
      go_ret
      exact ⟨A', n', c', _, rfl, HB.out, HPUT.out, Sl.of_own HO.out⟩
    obtain ⟨wo, hwo⟩ : ∃ wo, wo = wr := ⟨wr, rfl⟩
    subst hwo
    go_upto_region 7 with fail
    go_loopw [5, 22] (fun kk i wi => ∃ (j : Nat) (z : Int), j ≤ n ∧ i = .int .i64 j ∧ kk = .int .i64 z ∧ Least l f j z ∧ Below wo.heap.size wo wi) (fun _ i _ => n - (intOf i).toNat)
    case atStart => exact ⟨0, -1, Nat.zero_le _, rfl, rfl, Least.zero _ _, Below.refl _ _⟩
    case round =>
      obtain ⟨j, z, hj, rfl, rfl, hlz, hbi⟩ := hrel
      have HLZ0 := Lib.hid hlz
      have BI := Lib.hid hbi
      have BIW := Lib.hid (below_step HB.out hbi)
      clear hlz hbi
      by_cases hjn : j < n
      case neg =>
        obtain rfl : j = n := by omega
        obtain ⟨q, rfl, hq, hfq, hsel2⟩ := HLZ0.out.done HSEL.out (by have := HJS.out; have := HL.out; omega) HL.out
        have HSEL2 := Lib.hid hsel2
        have DW := Lib.hid (HD.out.below BI.out HD.out.lt)
        have cd := bb_at DW.out hfq
        have fd := DW.out.frozen q
        have q0 : (0 : Int) ≤ (q : Int) := by omega
        have q1 : (q : Int) < (j : Int) := by omega
        have HQ := Lib.hid hq
        have OW := Lib.hid (own_put (v := .bool true) (j := q) (own_then HO.out BI.out) DW.out)
        have D2 := Lib.hid (bb_put DW.out q)
        have B2 := Lib.hid (BIW.out.setCell (p := ⟨gd, q, none⟩) HGD.out (.bool true))
        clear hfq hsel2 DW HLZ0
        go_upto_region 13 with fail
        generalize hW3 : wr.setCell ⟨gd, q, none⟩ (.bool true) = W3 at *
        clear hW3 cd fd
        obtain ⟨bl0, ol0, x, Ax, nx, cx, rfl, hRb, _, hx, hxok, ⟨x0, x1, x2⟩, hin⟩ := (HK.out _ B2.out).at_ hq
        have hfit := HF.out.each x (List.mem_of_getElem? hx)
        have hvo := (HOKS.out x (List.mem_of_getElem? hx)).2
        have hok := (HOKS.out x (List.mem_of_getElem? hx)).1
        have HLX := Lib.hid (Rw.len hin)
        have HLQ := Lib.hid (lsF_at hx)
        have HGB := Lib.hid (givB_few x hok hfit.1 hfit.2.1 (fun v hv => ⟨hvo v hv, hfit.2.2 v hv⟩))
        have HGC := Lib.hid (Nat.le_trans (sumC_mem (f := givC) (List.mem_of_getElem? hx)) HF.out.few)
        have hcx := Rw.cap hin
        have hlx := Rw.le hin
        unfold maxLen at hcx
        have HFJ := Lib.hid (flat_bound HF.out HOKS.out (js := js) (fun i hi => HSEL.out.lt hi) (by have := HJS.out; omega))
        have HNL := Lib.hid (numB_len (n := (j : Int)) (by omega) (by omega))
        have HGE : Hid (givB x = numB x.cat ++ (textB (bl x.name) ++ (numB (x.bag.length : Int) ++ x.bag.flatMap putB))) := rfl
        have KX := Lib.hid (fun V (hV : Below w.heap.size W3 V) => (⟨(World.cell?_of_block (hV.block _ hRb)).trans x0, (World.cell?_of_block (hV.block _ hRb)).trans x1, (World.cell?_of_block (hV.block _ hRb)).trans x2⟩ : _ ∧ _ ∧ _))
        have KB := Lib.hid (fun V (hV : Below w.heap.size W3 V) => Vls.keep hin (Kept.below hV (fun b hb _ => hb)) (R' := fun _ => True) (fun _ _ _ => trivial))
        have HPRE : Hid ((numB (j : Int) ++ (js.map (lsF l)).flatMap givB).length ≤ 90000000010) := by show _ ≤ _; rw [List.length_append]; have := HFJ.out; have := HNL.out; omega
        have HAPP : Hid (numB (j : Int) ++ ((js ++ [q]).map (lsF l)).flatMap givB = (numB (j : Int) ++ (js.map (lsF l)).flatMap givB) ++ givB x) := by show _ = _; rw [List.map_append, List.flatMap_append]; simp [HLQ.out]
        generalize numB (j : Int) ++ (js.map (lsF l)).flatMap givB = pre at *
        have HMB := Lib.hid hfit.2.1
        have HVS := Lib.hid hfit.2.2
        have HVO := Lib.hid hvo
        have hnm := hfit.1
        have hxc := hok.1
        have HFL := Lib.hid (flat_few (f := putB) (c := valC) (l := x.bag) (fun v hv => putB_few v (hvo v hv) (hfit.2.2 v hv)))
        have HVC : Hid (sumC valC x.bag ≤ 9000) := by show _ ≤ _; have := HGC.out; have e : givC x = textC x.name + x.bag.length + sumC valC x.bag := rfl; omega
        have HLG : Hid (x.bag.length ≤ 9000) := by show _ ≤ _; have := HGC.out; have e : givC x = textC x.name + x.bag.length + sumC valC x.bag := rfl; omega
        clear hx hxok hfit hvo hok
        obtain ⟨xc, xn, xb⟩ := x
        simp only at x0 x1 x2 hin KX KB HGE HAPP HMB HVS HVO hnm hxc HLX HFL HVC HLG
        clear hin
        have N1 : Hid (n' ≤ 90000000010) := by show n' ≤ _; have h1 := OW.out.1; rw [bv_len] at h1; have := HPRE.out; omega
        unfold InI at hxc
        go_wp2_with fail
        refine (refnum_keep (k := xc) OW.out (by have := B2.out.size; omega) (by have := N1.out; omega) hxc.1 hxc.2).mono ?_
        rintro e v1 ⟨Aa, na, ca, rfl, ho, hb, hk⟩
        have N2 : Hid (na ≤ 90000000020) := by show na ≤ _; have h1 := ho.1; rw [bv_len, List.length_append] at h1; have := HPRE.out; have := numB_len hxc.1 hxc.2; omega
        have OA := Lib.hid ho
        have DA := Lib.hid (hk gd _ _ (by decide) D2.out)
        have CA := Lib.hid hb
        have BA := Lib.hid (B2.out.trans hb)
        obtain ⟨x0, x1, x2⟩ := KX.out _ CA.out
        clear ho hb hk
        go_wp2_with fail
        refine (reftext_keep (s := xn) OA.out (by have := BA.out.size; omega) (by have := N2.out; omega) (by omega)).mono ?_
        rintro e v2 ⟨Ab, nb, cb, rfl, ho, hb, hk⟩
        have N3 : Hid (nb ≤ 90000200040) := by
          show nb ≤ _
          have h1 := ho.1
          rw [bv_len, List.length_append] at h1
          have h2 := OA.out.1
          rw [bv_len] at h2
          have h3 : (textB xn.data.toList).length ≤ 10 + xn.size := by
            unfold textB
            rw [List.length_append]
            have d : xn.data.toList.length = xn.size := by simp
            have := numB_len (n := ((xn.data.toList).length : Int)) (by omega) (by omega)
            omega
          have := N2.out
          omega
        have OB := Lib.hid ho
        have DB := Lib.hid (hk gd _ _ (by decide) DA.out)
        have CB := Lib.hid (CA.out.trans hb)
        have BB := Lib.hid (BA.out.trans hb)
        obtain ⟨x0, x1, x2⟩ := KX.out _ CB.out
        clear ho hb hk
        go_wp2_with fail
        refine (refnum_keep (k := (nx : Int)) OB.out (by have := BB.out.size; omega) (by have := N3.out; omega) (by omega) (by omega)).mono ?_
        rintro e v3 ⟨Ac, nc, cc, rfl, ho, hb, hk⟩
        have N4 : Hid (nc ≤ 90000200050) := by show nc ≤ _; have h1 := ho.1; rw [bv_len, List.length_append] at h1; have h2 := OB.out.1; rw [bv_len] at h2; have := N3.out; have := numB_len (n := (nx : Int)) (by omega) (by omega); omega
        have OC := Lib.hid ho
        have DC := Lib.hid (hk gd _ _ (by decide) DB.out)
        have CC := Lib.hid (CB.out.trans hb)
        have BC := Lib.hid (BB.out.trans hb)
        obtain ⟨x0, x1, x2⟩ := KX.out _ CC.out
        clear ho hb hk OW D2 B2 OA DA CA BA OB DB CB BB N1 N2 N3
        have hpre : pre ++ numB xc ++ textB xn.data.toList ++ numB (nx : Int) = pre ++ (numB xc ++ (textB (bl xn) ++ numB (nx : Int))) := by simp [bl, List.append_assoc]
        rw [hpre] at OC
        clear hpre
        go_upto_region 17 with fail
        go_loopw [3, 99] (fun o i wv => ∃ (jv : Nat) (A' : Option Addr) (n' c' : Nat), jv ≤ nx ∧ i = .int .i64 jv ∧ o = .slice A' n' c' ∧ wv.ownsRow w.heap.size 5 1 (.slice A' n' c') n' (bv ((pre ++ (numB xc ++ (textB (bl xn) ++ numB (nx : Int)))) ++ (xb.take jv).flatMap putB)) ∧ Ob wv gd 4 (bb (f.set q true)) ∧ Below w.heap.size W3 wv ∧ Below w.heap.size w wv) (fun _ i _ => nx - (intOf i).toNat)
        case atStart => exact ⟨0, Ac, nc, cc, Nat.zero_le _, rfl, rfl, by have := OC.out; simpa using this, DC.out, CC.out, BC.out⟩
        case round =>
          clear x0 x1 x2
          obtain ⟨jv, Av, nv', cv, hjv, rfl, rfl, ho, hd, hc, hb⟩ := hrel
          have OV := Lib.hid ho
          have DV := Lib.hid hd
          have CV := Lib.hid hc
          have BV := Lib.hid hb
          clear ho hd hc hb
          by_cases hlt : jv < nx
          · obtain ⟨b9, o9, v, rfl, _, _, hv, hvok, v0, v1, v2⟩ := (KB.out _ CV.out).at_ hlt
            have HV := Lib.hid hv
            have hvs := HVS.out v (List.mem_of_getElem? hv)
            have HNV : Hid (nv' ≤ 90010000000) := by
              show nv' ≤ _
              have h1 := OV.out.1
              rw [bv_len, List.length_append] at h1
              have h2 := OC.out.1
              rw [bv_len] at h2
              have h3 : ((xb.take jv).flatMap putB).length ≤ (xb.flatMap putB).length := by
                have e : xb.flatMap putB = (xb.take jv).flatMap putB ++ (xb.drop jv).flatMap putB := by rw [← List.flatMap_append, List.take_append_drop]
                rw [e, List.length_append]
                omega
              have := HFL.out
              have := HVC.out
              have := N4.out
              omega
            have HTK : Hid ((xb.take (jv + 1)).flatMap putB = (xb.take jv).flatMap putB ++ putB v) := by
              show _ = _
              obtain ⟨hk, rfl⟩ := List.getElem?_eq_some_iff.1 hv
              rw [List.take_succ_eq_append_getElem hk, List.flatMap_append]
              simp
            obtain ⟨vk, vn, vs⟩ := v
            simp only at v0 v1 v2 hvs
            have HVK := Lib.hid hvok
            have OV2 := Lib.hid (OV.out.alloc (.cells #[.int .i64 vk, .int .i64 vn, .string vs] 25))
            have DV2 := Lib.hid (DV.out.keep (w' := wr.alloc (.cells #[.int .i64 vk, .int .i64 vn, .string vs] 25)) (Below.heap_alloc _ _ _ DV.out.lt))
            have CV2 := Lib.hid (CV.out.alloc (by have := BV.out.size; omega) (.cells #[.int .i64 vk, .int .i64 vn, .string vs] 25))
            have BV2 := Lib.hid (BV.out.alloc BV.out.size (.cells #[.int .i64 vk, .int .i64 vn, .string vs] 25))
            clear hv hvok
            go_wp2_with fail
            refine (vrefput_keep (k := vk) (m := vn) (s := vs) OV2.out (by have := BV2.out.size; omega) (by have := HNV.out; omega) HVK.out.1 HVK.out.2.1 (by omega)).mono ?_
            rintro e v4 ⟨Ad, nd, cd, rfl, ho, hb, hk⟩
            have OV3 : Hid (v4.ownsRow w.heap.size 5 1 (.slice Ad nd cd) nd (bv ((pre ++ (numB xc ++ (textB (bl xn) ++ numB (nx : Int)))) ++ (xb.take (jv + 1)).flatMap putB))) := by
              show World.ownsRow _ _ _ _ _ _ _
              rw [HTK.out, ← List.append_assoc]
              exact ho
            have DV3 := Lib.hid (hk gd _ _ (by decide) DV2.out)
            have CV3 := Lib.hid (CV2.out.trans hb)
            have BV3 := Lib.hid (BV2.out.trans hb)
            clear ho hb hk OV2 DV2 CV2 BV2
            go_wp2_with fail
            go_roundw
            case rel => exact ⟨jv + 1, Ad, nd, cd, by omega, by go_num, rfl, OV3.out, DV3.out, CV3.out, BV3.out⟩
            case measure => simp [intOf]; omega
          · obtain rfl : jv = nx := by omega
            have HEND : Hid (wr.ownsRow w.heap.size 5 1 (.slice Av nv' cv) nv' (bv (numB (j : Int) ++ ((js ++ [q]).map (lsF l)).flatMap givB))) := by
              show World.ownsRow _ _ _ _ _ _ _
              have h1 := OV.out
              rw [List.take_of_length_le (by have := HLX.out; omega)] at h1
              rw [HAPP.out, HGE.out, HLX.out]
              simpa [List.append_assoc] using h1
            go_wp2_with fail
            go_roundw
            case rel => exact ⟨p + 1, Av, nv', cv, f.set q true, js ++ [q], by omega, by go_num, rfl, by rw [List.length_append, HJS.out]; rfl, HSEL2.out, HEND.out, DV.out, BV.out⟩
            case measure => simp [intOf]; omega
      obtain ⟨b0, o0, x, Ax, nx, cx, rfl, _, _, hx, _, ⟨x0, x1, x2⟩, _⟩ := (HK.out _ BIW.out).at_ hjn
      have HLQ := Lib.hid (lsF_at hx)
      have BV : Hid (Below wo.heap.size wo (wr.alloc (.cells #[.int .i64 x.cat, .string x.name, .slice Ax nx cx] 48))) := BI.out.alloc BI.out.size _
      have BVW : Hid (Below w.heap.size w (wr.alloc (.cells #[.int .i64 x.cat, .string x.name, .slice Ax nx cx] 48))) := BIW.out.alloc BIW.out.size _
      have OX := Lib.hid (Ob.made wr 48 #[.int .i64 x.cat, .string x.name, .slice Ax nx cx])
      have hfl : j < f.length := by have := HSEL.out.len; have := HL.out; omega
      have HFJ := Lib.hid (List.getElem?_eq_getElem hfl)
      have DX := Lib.hid (HD.out.below BV.out HD.out.lt)
      have AHD : Hid (∀ y, aheadG (lsF l j) y ↔ (x.cat < y.cat ∨ x.cat = y.cat ∧ Op.bytesLess (bl x.name) (bl y.name) = true)) := fun y => by rw [HLQ.out]; exact Iff.rfl
      obtain ⟨xc, xn, xb⟩ := x
      simp only at x0 x1 x2 BV BVW OX DX AHD
      have jn0 : (0 : Int) ≤ (j : Int) := by omega
      have jn1 : (j : Int) < (n : Int) := by omega
      clear hx
      go_upto_region 9 with fail
      generalize hV1 : wr.alloc (.cells #[.int .i64 xc, .string xn, .slice Ax nx cx] 48) = V1 at *
      generalize hg7 : wr.heap.size = g7 at *
      clear hV1 hg7 x0 x1 x2
      have d0 := fun d os => cell_regrown (bb_at DX.out HFJ.out) d os
      generalize f[j] = fj at *
      have p0 := fun d os => cell_regrown (OX.out.cell 0) d os
      have p1 := fun d os => cell_regrown (OX.out.cell 1) d os
      have p2 := fun d os => cell_regrown (OX.out.cell 2) d os
      cases fj
      rotate_left
      · have hfj : True := trivial
        refine wp_region_quiet_below (by kernel_rfl) (by kernel_rfl) ?_
        repeat (go_big_quiet_step (fail))
        refine wpQuiet_nil ?_
        intro _ hw'
        obtain ⟨⟨dq, osq⟩, hw''⟩ := hw'
        subst hw''
        have BQ := Lib.hid (below_step BV.out (below_regrown V1 dq osq))
        clear p0 p1 p2 d0
        generalize hwZ : grow (redrawn V1 ({ d := dq, os := osq } : Regrown).d) ({ d := dq, os := osq } : Regrown).os = wZ at *
        clear hwZ
        have HLZ : Hid (Least l f (j + 1) z) := HLZ0.out.skip HFJ.out
        go_wp2_with fail
        go_roundw
        case rel => exact ⟨j + 1, z, by omega, by go_num, rfl, HLZ.out, BQ.out⟩
        case measure => simp [intOf]; omega
      rcases HLZ0.out with ⟨hz1, _⟩ | ⟨q, hz1, hqj, hfq, _⟩
      · subst hz1
        refine wp_region_quiet_below (by kernel_rfl) (by kernel_rfl) ?_
        repeat (go_big_quiet_step (fail))
        refine wpQuiet_nil ?_
        intro _ hw'
        obtain ⟨⟨dq, osq⟩, hw''⟩ := hw'
        subst hw''
        have BQ := Lib.hid (below_step BV.out (below_regrown V1 dq osq))
        clear p0 p1 p2 d0
        generalize hwZ : grow (redrawn V1 ({ d := dq, os := osq } : Regrown).d) ({ d := dq, os := osq } : Regrown).os = wZ at *
        clear hwZ
        have HLZ : Hid (Least l f (j + 1) (j : Int)) := HLZ0.out.first HFJ.out
        go_wp2_with fail
        go_roundw
        case rel => exact ⟨j + 1, (j : Int), by omega, by go_num, rfl, HLZ.out, BQ.out⟩
        case measure => simp [intOf]; omega
      subst hz1
      obtain ⟨b1, o1, y, Ay, ny, cy, hA, _, _, hy, _, ⟨y0, y1, y2⟩, _⟩ := (HK.out _ BVW.out).at_ (show q < n by omega)
      injection hA with hA
      injection hA with hA1 hA2
      subst hA1 hA2
      have HLY := Lib.hid (lsF_at hy)
      have AHY : Hid (aheadG (lsF l j) (lsF l q) ↔ (xc < y.cat ∨ xc = y.cat ∧ Op.bytesLess (bl xn) (bl y.name) = true)) := by show _ ↔ _; rw [HLY.out]; exact AHD.out y
      obtain ⟨yc, yn, yb⟩ := y
      simp only at y0 y1 y2 AHY
      have EX : Hid (xn.toList = bl xn) := ByteArray.toList_eq xn
      have EY : Hid (yn.toList = bl yn) := ByteArray.toList_eq yn
      have y0 := fun d os => cell_regrown y0 d os
      have y1 := fun d os => cell_regrown y1 d os
      have qn0 : (0 : Int) ≤ (q : Int) := by omega
      have qn1 : (q : Int) < (n : Int) := by omega
      have qz : ¬ (q : Int) < 0 := by omega
      clear hy y2
      by_cases c1 : xc < yc
      · have HAH : Hid (aheadG (lsF l j) (lsF l q)) := AHY.out.2 (.inl c1)
        have c1t : (xc < yc) = True := eq_true c1
        have c1d : decide (xc < yc) = true := decide_eq_true c1
        refine wp_region_quiet_below (by kernel_rfl) (by kernel_rfl) ?_
        repeat (go_big_quiet_step (fail))
        refine wpQuiet_nil ?_
        intro _ hw'
        obtain ⟨⟨dq, osq⟩, hw''⟩ := hw'
        subst hw''
        have BQ := Lib.hid (below_step BV.out (below_regrown V1 dq osq))
        clear p0 p1 p2 d0 y0 y1 c1t c1d c1
        generalize hwZ : grow (redrawn V1 ({ d := dq, os := osq } : Regrown).d) ({ d := dq, os := osq } : Regrown).os = wZ at *
        clear hwZ
        have HLZ : Hid (Least l f (j + 1) (j : Int)) := HLZ0.out.take HFJ.out HAH.out
        go_wp2_with fail
        go_roundw
        case rel => exact ⟨j + 1, (j : Int), by omega, by go_num, rfl, HLZ.out, BQ.out⟩
        case measure => simp [intOf]; omega
      have c1f : (xc < yc) = False := eq_false c1
      have c1d : decide (xc < yc) = false := decide_eq_false c1
      by_cases c2 : xc = yc
      rotate_left
      · have HAH : Hid (¬ aheadG (lsF l j) (lsF l q)) := fun hh => by rcases AHY.out.1 hh with h | h; exact c1 h; exact c2 h.1
        have c2b : (xc == yc) = false := by rw [beq_eq_false_iff_ne]; exact c2
        refine wp_region_quiet_below (by kernel_rfl) (by kernel_rfl) ?_
        repeat (go_big_quiet_step (fail))
        refine wpQuiet_nil ?_
        intro _ hw'
        obtain ⟨⟨dq, osq⟩, hw''⟩ := hw'
        subst hw''
        have BQ := Lib.hid (below_step BV.out (below_regrown V1 dq osq))
        clear p0 p1 p2 d0 y0 y1 c1f c1d c2b
        generalize hwZ : grow (redrawn V1 ({ d := dq, os := osq } : Regrown).d) ({ d := dq, os := osq } : Regrown).os = wZ at *
        clear hwZ
        have HLZ : Hid (Least l f (j + 1) (q : Int)) := HLZ0.out.keep HAH.out
        go_wp2_with fail
        go_roundw
        case rel => exact ⟨j + 1, (q : Int), by omega, by go_num, rfl, HLZ.out, BQ.out⟩
        case measure => simp [intOf]; omega
      have c2b : (xc == yc) = true := by rw [beq_iff_eq]; exact c2
      cases c3 : Op.bytesLess xn.toList yn.toList
      · have HAH : Hid (¬ aheadG (lsF l j) (lsF l q)) := fun hh => by rcases AHY.out.1 hh with h | h; exact c1 h; rw [← EX.out, ← EY.out, c3] at h; cases h.2
        refine wp_region_quiet_below (by kernel_rfl) (by kernel_rfl) ?_
        repeat (go_big_quiet_step (fail))
        refine wpQuiet_nil ?_
        intro _ hw'
        obtain ⟨⟨dq, osq⟩, hw''⟩ := hw'
        subst hw''
        have BQ := Lib.hid (below_step BV.out (below_regrown V1 dq osq))
        clear p0 p1 p2 d0 y0 y1 c1f c1d c2b c3
        generalize hwZ : grow (redrawn V1 ({ d := dq, os := osq } : Regrown).d) ({ d := dq, os := osq } : Regrown).os = wZ at *
        clear hwZ
        have HLZ : Hid (Least l f (j + 1) (q : Int)) := HLZ0.out.keep HAH.out
        go_wp2_with fail
        go_roundw
        case rel => exact ⟨j + 1, (q : Int), by omega, by go_num, rfl, HLZ.out, BQ.out⟩
        case measure => simp [intOf]; omega
      · have HAH : Hid (aheadG (lsF l j) (lsF l q)) := AHY.out.2 (.inr ⟨c2, by rw [← EX.out, ← EY.out]; exact c3⟩)
        refine wp_region_quiet_below (by kernel_rfl) (by kernel_rfl) ?_
        repeat (go_big_quiet_step (fail))
        refine wpQuiet_nil ?_
        intro _ hw'
        obtain ⟨⟨dq, osq⟩, hw''⟩ := hw'
        subst hw''
        have BQ := Lib.hid (below_step BV.out (below_regrown V1 dq osq))
        clear p0 p1 p2 d0 y0 y1 c1f c1d c2b c3
        generalize hwZ : grow (redrawn V1 ({ d := dq, os := osq } : Regrown).d) ({ d := dq, os := osq } : Regrown).os = wZ at *
        clear hwZ
        have HLZ : Hid (Least l f (j + 1) (j : Int)) := HLZ0.out.take HFJ.out HAH.out
        go_wp2_with fail
        go_roundw
        case rel => exact ⟨j + 1, (j : Int), by omega, by go_num, rfl, HLZ.out, BQ.out⟩
        case measure => simp [intOf]; omega
end Go.Proofs.Ytjpkemamfccfdaa
