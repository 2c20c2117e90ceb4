/- The reference's With. -/
import Derived.Test.YtjpkemamfccfdaaPushCopy
import Derived.Test.YtjpkemamfccfdaaAskC
import Derived.Test.YtjpkemamfccfdaaRefGetA
namespace Go.Proofs.Ytjpkemamfccfdaa
set_option linter.unusedVariables false
open Go.RowKit Go.Sort

/-- With, but for one more behind. -/
def inM (l : List Giv) (g : Giv) : List Giv := if idxA l g.cat g.name < l.length then l.set (idxA l g.cat g.name) g else l
theorem inM_len (l : List Giv) (g : Giv) : (inM l g).length = l.length := by unfold inM; split <;> simp
theorem inM_at {l : List Giv} {g : Giv} {k : Nat} (h : idxA l g.cat g.name = k) (hk : k < l.length) : (inM l g)[k]? = some g := by
  unfold inM
  rw [h, if_pos hk, List.getElem?_set_self hk]
theorem inM_other {l : List Giv} {g x : Giv} {k : Nat} (h : idxA l g.cat g.name ≠ k) (hx : l[k]? = some x) : (inM l g)[k]? = some x := by
  unfold inM
  split
  · rw [List.getElem?_set_ne h]; exact hx
  · exact hx
set_option maxRecDepth 100000 in
set_option maxHeartbeats 12800000 in
theorem rwith_any {w : World} {R R1 : Nat → Prop} {A A1 : Option Addr} {n c n1 c1 : Nat} {l : List Giv} (g : Giv) (h : Gvs w R A n c l) (hs : ShortG l) (hn : n ≤ 100000) (hok : g.ok) (hg : Vls w R1 A1 n1 c1 g.bag) (hgn : n1 ≤ 100000) :
    Calls Try.prog 33 #[.slice A n c, .agg #[.int .i64 g.cat, .string g.name, .slice A1 n1 c1]] w fun e w' => ∃ A' n' c', e = .returned (.slice A' n' c') ∧ Below w.heap.size w w' ∧ Gvs w' (fun _ => True) A' n' c' (withA l g) := by
  have HGI := Lib.hid (isG_beq g.cat g.name)
  have HWI : Hid (withA l g = if idxA l g.cat g.name < l.length then l.set (idxA l g.cat g.name) g else l ++ [g]) := rfl
  have HMI : Hid (inM l g = if idxA l g.cat g.name < l.length then l.set (idxA l g.cat g.name) g else l) := rfl
  have HML := Lib.hid (inM_len l g)
  have HMA := Lib.hid (fun k (h : idxA l g.cat g.name = k) (hk : k < l.length) => inM_at h hk)
  have HMO := Lib.hid (fun k x (h : idxA l g.cat g.name ≠ k) (hx : l[k]? = some x) => inM_other h hx)
  have HBEF := Lib.hid (fun j x (hx : l[j]? = some x) (h : j < idxA l g.cat g.name) => idx_before hx h)
  have HIAT := Lib.hid (fun k x (hx : l[k]? = some x) (hg : isG g.cat g.name x = true) (hle : k ≤ idxA l g.cat g.name) => idx_at hx hg (fun j y hy hj => idx_before hy (by omega)))
  have HHIT := Lib.hid (fun (h : idxA l g.cat g.name < l.length) => idx_hit h)
  obtain ⟨gc, gn, gb⟩ := g
  simp only at HGI HWI HMI HML HMA HMO HBEF HIAT HHIT hg
  generalize withA l _ = WL at *
  generalize inM l _ = M at *
  obtain ⟨ix, hix⟩ : ∃ ix, idxA l gc gn = ix := ⟨_, rfl⟩
  rw [hix] at HWI HMI HMA HMO HBEF HIAT HHIT
  clear hix
  have hle := Rw.le h
  have hcap := Rw.cap h
  have HL := Lib.hid (Rw.len h)
  unfold maxLen at hcap
  have HAL := Lib.hid ((Below.refl w.heap.size w).alloc (Nat.le_refl _) (.cells #[.int .i64 gc, .string gn, .slice A1 n1 c1] 48))
  have HOB := Lib.hid (Ob.made w 48 #[.int .i64 gc, .string gn, .slice A1 n1 c1])
  have HK := Lib.hid (fun W (hW : Below w.heap.size w W) => Gvs.keep h (Kept.all hW R) (R' := fun _ => True) (fun _ _ _ => trivial))
  have HVG := Lib.hid hg
  have HOKG : Hid (Giv.ok ⟨gc, gn, gb⟩) := hok
  have HS := Lib.hid hs
  have HGN := Lib.hid hgn
  clear h hs hok hg hgn
  simp only
  go_enter Try.func33, Try.ntmps33
  go_wp2
  go_loopw [5, 6, 12] (fun out dn i wr => ∃ (k : Nat) (A' : Option Addr) (c' : Nat), k ≤ n ∧ i = .int .i64 k ∧ out = .slice A' k c' ∧ dn = .bool (decide (ix < k)) ∧ Gr 3 GivAt wr (w.heap.size + 1) 48 A' k c' (M.take k) ∧ Below (w.heap.size + 1) (w.alloc (.cells #[.int .i64 gc, .string gn, .slice A1 n1 c1] 48)) wr) (fun _ _ i _ => n - (intOf i).toNat)
  case atStart => exact ⟨0, none, 0, Nat.zero_le _, rfl, rfl, by rw [decide_eq_false (by omega)], Gr.nil _ _ (by rw [size_al]; omega), Below.refl _ _⟩
  case round =>
    obtain ⟨k, A', c', hk, rfl, rfl, rfl, ho, hb⟩ := hrel
    have HO := Lib.hid ho
    have HB := Lib.hid hb
    have HW := Lib.hid (HAL.out.trans (hb.mono (Nat.le_succ _)))
    have OBr := Lib.hid (HOB.out.below hb (Nat.lt_succ_self _))
    have b0 := OBr.out.cell 0
    have b1 := OBr.out.cell 1
    have b2 := OBr.out.cell 2
    clear ho hb
    by_cases hlt : k < n
    case neg =>
      obtain rfl : k = n := by omega
      have HT : Hid (M.take k = M) := List.take_of_length_le (by have := HL.out; have := HML.out; omega)
      rw [HT.out] at HO
      by_cases hi : ix < k
      · have HWE : Hid (WL = M) := by show _ = _; rw [HWI.out, HMI.out, if_pos (by have := HL.out; omega), if_pos (by have := HL.out; omega)]
        rw [decide_eq_true hi]
        go_wp2_with fail
        go_ret
        exact ⟨A', k, c', rfl, HW.out, by rw [HWE.out]; exact Gvs.keep (Gr.gvs HO.out (by omega)) (Kept.refl _ _) (fun _ _ _ => trivial)⟩
      · have HWE : Hid (WL = M ++ [⟨gc, gn, gb⟩]) := by show _ = _; rw [HWI.out, HMI.out, if_neg (by have := HL.out; omega), if_neg (by have := HL.out; omega)]
        rw [decide_eq_false hi]
        obtain ⟨A5, c5, w5, A2, c2, w2, r5, ⟨k0, k1, k2, k3⟩, b5, r2, g2, b7⟩ := push_copy (base0 := w.heap.size) (yb := gb) HO.out (Below.refl _ _) OBr.out (.inr (Nat.lt_succ_self _)) (Nat.le_succ _) (Nat.le_refl _) HOKG.out (Vls.keep HVG.out (Kept.all HW.out _) (R' := fun _ => True) (fun _ _ _ => trivial)) HGN.out (by omega)
        have R5 := Lib.hid r5
        have R2 := Lib.hid r2
        have G2 := Lib.hid g2
        have B2 := Lib.hid (HW.out.trans b7)
        clear r5 b5 r2 g2 b7 hi
        have z0 := (OBr.out.keep (w' := wr.alloc (.cells #[] 25)) (Below.heap_alloc _ _ _ OBr.out.lt)).cell 2
        go_wp2_with (first
          | (at_builtin; refine wpList_append_run (o := ⟨some 49, _, _, _, _, _⟩) rfl _ _ _ _ rfl rfl rfl R5.out ?_)
          | (at_builtin; refine wpList_append_run (o := ⟨some 54, _, _, _, _, _⟩) rfl _ _ _ _ rfl rfl rfl R2.out ?_))
        go_ret
        exact ⟨A2, k + 1, c2, rfl, B2.out, by rw [HWE.out]; exact Gvs.keep (Gr.gvs G2.out (by omega)) (Kept.refl _ _) (fun _ _ _ => trivial)⟩
    obtain ⟨b, o, x, Ax, nx, cx, rfl, _, hbl, hx, hok, ⟨x0, x1, x2⟩, hin⟩ := (HK.out wr HW.out).at_ hlt
    have HX := Lib.hid hx
    have HOKX := Lib.hid hok
    have hlim : nx ≤ 100000 := by have := (HS.out x (List.mem_of_getElem? hx)).2; have := Rw.len hin; omega
    have HIX := Lib.hid (HGI.out x)
    obtain ⟨xc, xn, xb⟩ := x
    simp only at x0 x1 x2 hin HIX
    have HIN := Lib.hid hin
    have BXX := Lib.hid (((Below.refl wr.heap.size wr).alloc (Nat.le_refl _) (.cells #[.int .i64 xc, .string xn, .slice Ax nx cx] 48)).alloc (by rw [size_al]; omega) (.cells #[.int .i64 xc, .string xn, .slice Ax nx cx] 48))
    have OG2 := OBr.out.below BXX.out OBr.out.lt
    have d0 := OG2.cell 0
    have d1 := OG2.cell 1
    have d2 := OG2.cell 2
    clear hx hok hin OG2
    by_cases hdn : ix < k
    · rw [decide_eq_true hdn]
      have BV : Hid (Below wr.heap.size wr ((wr.alloc (.cells #[.int .i64 xc, .string xn, .slice Ax nx cx] 48)).alloc (.cells #[.int .i64 xc, .string xn, .slice Ax nx cx] 48))) := ((Below.refl _ _).alloc (Nat.le_refl _) _).alloc (by rw [size_al]; omega) _
      have OY : Hid (Ob ((wr.alloc (.cells #[.int .i64 xc, .string xn, .slice Ax nx cx] 48)).alloc (.cells #[.int .i64 xc, .string xn, .slice Ax nx cx] 48)) (wr.heap.size + 1) 48 #[.int .i64 xc, .string xn, .slice Ax nx cx]) := by have := Ob.made (wr.alloc (.cells #[.int .i64 xc, .string xn, .slice Ax nx cx] 48)) 48 #[.int .i64 xc, .string xn, .slice Ax nx cx]; rwa [size_al] at this
      obtain ⟨A5, c5, w5, A2, c2, w2, r5, ⟨k0, k1, k2, k3⟩, b5, r2, g2, b2⟩ := push_copy (base0 := w.heap.size + 1) (yb := xb) HO.out BV.out OY.out (.inl (Nat.le_succ _)) (Nat.le_refl _) (Nat.le_trans HO.out.2 (Nat.le_succ _)) HOKX.out (Vls.keep HIN.out (Kept.all BV.out _) (R' := fun _ => True) (fun _ _ _ => trivial)) hlim (by omega)
      rw [size_al, size_al] at r5
      have R5 := Lib.hid r5
      have R2 := Lib.hid r2
      have G2 := Lib.hid g2
      have B2 := Lib.hid (HB.out.trans ((BV.out.mono HO.out.2).trans b2))
      have HM := Lib.hid (HMO.out k _ (by omega) HX.out)
      clear r5 b5 r2 g2 b2
      go_wp2_with (first
        | (at_builtin; refine wpList_append_run (o := ⟨some 37, _, _, _, _, _⟩) rfl _ _ _ _ rfl rfl rfl R5.out ?_)
        | (at_builtin; refine wpList_append_run (o := ⟨some 42, _, _, _, _, _⟩) rfl _ _ _ _ rfl rfl rfl R2.out ?_))
      go_roundw
      case rel => exact ⟨k + 1, A2, c2, by omega, by go_num, rfl, by rw [decide_eq_true (by omega)], by rw [take_one HM.out]; exact G2.out, B2.out⟩
      case measure => simp [intOf]; omega
    rw [decide_eq_false hdn]
    by_cases h1 : xc = gc
    rotate_left
    · have e1 : (xc == gc) = false := by rw [beq_eq_false_iff_ne]; exact h1
      have HNE : Hid (ix ≠ k) := fun e => by
        obtain ⟨y, hy, hyg, _⟩ := HHIT.out (by have := HL.out; omega)
        rw [e, HX.out] at hy
        injection hy with hy
        subst hy
        rw [HIX.out, e1] at hyg
        cases hyg
      have hnk := HNE.out
      clear h1
      have BV : Hid (Below wr.heap.size wr ((wr.alloc (.cells #[.int .i64 xc, .string xn, .slice Ax nx cx] 48)).alloc (.cells #[.int .i64 xc, .string xn, .slice Ax nx cx] 48))) := ((Below.refl _ _).alloc (Nat.le_refl _) _).alloc (by rw [size_al]; omega) _
      have OY : Hid (Ob ((wr.alloc (.cells #[.int .i64 xc, .string xn, .slice Ax nx cx] 48)).alloc (.cells #[.int .i64 xc, .string xn, .slice Ax nx cx] 48)) (wr.heap.size + 1) 48 #[.int .i64 xc, .string xn, .slice Ax nx cx]) := by have := Ob.made (wr.alloc (.cells #[.int .i64 xc, .string xn, .slice Ax nx cx] 48)) 48 #[.int .i64 xc, .string xn, .slice Ax nx cx]; rwa [size_al] at this
      obtain ⟨A5, c5, w5, A2, c2, w2, r5, ⟨k0, k1, k2, k3⟩, b5, r2, g2, b2⟩ := push_copy (base0 := w.heap.size + 1) (yb := xb) HO.out BV.out OY.out (.inl (Nat.le_succ _)) (Nat.le_refl _) (Nat.le_trans HO.out.2 (Nat.le_succ _)) HOKX.out (Vls.keep HIN.out (Kept.all BV.out _) (R' := fun _ => True) (fun _ _ _ => trivial)) hlim (by omega)
      rw [size_al, size_al] at r5
      have R5 := Lib.hid r5
      have R2 := Lib.hid r2
      have G2 := Lib.hid g2
      have B2 := Lib.hid (HB.out.trans ((BV.out.mono HO.out.2).trans b2))
      have HM := Lib.hid (HMO.out k _ HNE.out HX.out)
      clear r5 b5 r2 g2 b2
      go_wp2_with (first
        | (at_builtin; refine wpList_append_run (o := ⟨some 37, _, _, _, _, _⟩) rfl _ _ _ _ rfl rfl rfl R5.out ?_)
        | (at_builtin; refine wpList_append_run (o := ⟨some 42, _, _, _, _, _⟩) rfl _ _ _ _ rfl rfl rfl R2.out ?_))
      go_roundw
      case rel => exact ⟨k + 1, A2, c2, by omega, by go_num, rfl, by rw [decide_eq_false (by omega)], by rw [take_one HM.out]; exact G2.out, B2.out⟩
      case measure => simp [intOf]; omega
    subst h1
    have e1 : (xc == xc) = true := by simp
    cases e2 : (xn.toList == gn.toList)
    · have HNE : Hid (ix ≠ k) := fun e => by
        obtain ⟨y, hy, hyg, _⟩ := HHIT.out (by have := HL.out; omega)
        rw [e, HX.out] at hy
        injection hy with hy
        subst hy
        rw [HIX.out, e1, e2] at hyg
        cases hyg
      have hnk := HNE.out
      have BV : Hid (Below wr.heap.size wr ((wr.alloc (.cells #[.int .i64 xc, .string xn, .slice Ax nx cx] 48)).alloc (.cells #[.int .i64 xc, .string xn, .slice Ax nx cx] 48))) := ((Below.refl _ _).alloc (Nat.le_refl _) _).alloc (by rw [size_al]; omega) _
      have OY : Hid (Ob ((wr.alloc (.cells #[.int .i64 xc, .string xn, .slice Ax nx cx] 48)).alloc (.cells #[.int .i64 xc, .string xn, .slice Ax nx cx] 48)) (wr.heap.size + 1) 48 #[.int .i64 xc, .string xn, .slice Ax nx cx]) := by have := Ob.made (wr.alloc (.cells #[.int .i64 xc, .string xn, .slice Ax nx cx] 48)) 48 #[.int .i64 xc, .string xn, .slice Ax nx cx]; rwa [size_al] at this
      obtain ⟨A5, c5, w5, A2, c2, w2, r5, ⟨k0, k1, k2, k3⟩, b5, r2, g2, b2⟩ := push_copy (base0 := w.heap.size + 1) (yb := xb) HO.out BV.out OY.out (.inl (Nat.le_succ _)) (Nat.le_refl _) (Nat.le_trans HO.out.2 (Nat.le_succ _)) HOKX.out (Vls.keep HIN.out (Kept.all BV.out _) (R' := fun _ => True) (fun _ _ _ => trivial)) hlim (by omega)
      rw [size_al, size_al] at r5
      have R5 := Lib.hid r5
      have R2 := Lib.hid r2
      have G2 := Lib.hid g2
      have B2 := Lib.hid (HB.out.trans ((BV.out.mono HO.out.2).trans b2))
      have HM := Lib.hid (HMO.out k _ HNE.out HX.out)
      clear r5 b5 r2 g2 b2
      go_wp2_with (first
        | (at_builtin; refine wpList_append_run (o := ⟨some 37, _, _, _, _, _⟩) rfl _ _ _ _ rfl rfl rfl R5.out ?_)
        | (at_builtin; refine wpList_append_run (o := ⟨some 42, _, _, _, _, _⟩) rfl _ _ _ _ rfl rfl rfl R2.out ?_))
      go_roundw
      case rel => exact ⟨k + 1, A2, c2, by omega, by go_num, rfl, by rw [decide_eq_false (by omega)], by rw [take_one HM.out]; exact G2.out, B2.out⟩
      case measure => simp [intOf]; omega
    · have HEQ : Hid (ix = k) := HIAT.out k _ HX.out (by rw [HIX.out, e1, e2]; rfl) (by omega)
      have hnk := HEQ.out
      have BV : Hid (Below wr.heap.size wr ((wr.alloc (.cells #[.int .i64 xc, .string xn, .slice Ax nx cx] 48)).alloc (.cells #[.int .i64 xc, .string gn, .slice A1 n1 c1] 48))) := ((Below.refl _ _).alloc (Nat.le_refl _) _).alloc (by rw [size_al]; omega) _
      have OY : Hid (Ob ((wr.alloc (.cells #[.int .i64 xc, .string xn, .slice Ax nx cx] 48)).alloc (.cells #[.int .i64 xc, .string gn, .slice A1 n1 c1] 48)) (wr.heap.size + 1) 48 #[.int .i64 xc, .string gn, .slice A1 n1 c1]) := by have := Ob.made (wr.alloc (.cells #[.int .i64 xc, .string xn, .slice Ax nx cx] 48)) 48 #[.int .i64 xc, .string gn, .slice A1 n1 c1]; rwa [size_al] at this
      obtain ⟨A5, c5, w5, A2, c2, w2, r5, ⟨k0, k1, k2, k3⟩, b5, r2, g2, b2⟩ := push_copy (base0 := w.heap.size + 1) (yb := gb) HO.out BV.out OY.out (.inl (Nat.le_succ _)) (Nat.le_refl _) (Nat.le_trans HO.out.2 (Nat.le_succ _)) HOKG.out (Vls.keep HVG.out (Kept.all (below_step HW.out BV.out) _) (R' := fun _ => True) (fun _ _ _ => trivial)) HGN.out (by omega)
      rw [size_al, size_al] at r5
      have R5 := Lib.hid r5
      have R2 := Lib.hid r2
      have G2 := Lib.hid g2
      have B2 := Lib.hid (HB.out.trans ((BV.out.mono HO.out.2).trans b2))
      have HM := Lib.hid (HMA.out k HEQ.out (by have := HL.out; omega))
      clear r5 b5 r2 g2 b2
      go_wp2_with (first
        | (at_builtin; refine wpList_append_run (o := ⟨some 37, _, _, _, _, _⟩) rfl _ _ _ _ rfl rfl rfl R5.out ?_)
        | (at_builtin; refine wpList_append_run (o := ⟨some 42, _, _, _, _, _⟩) rfl _ _ _ _ rfl rfl rfl R2.out ?_))
      go_roundw
      case rel => exact ⟨k + 1, A2, c2, by omega, by go_num, rfl, by rw [decide_eq_true (by omega)], by rw [take_one HM.out]; exact G2.out, B2.out⟩
      case measure => simp [intOf]; omega
end Go.Proofs.Ytjpkemamfccfdaa
