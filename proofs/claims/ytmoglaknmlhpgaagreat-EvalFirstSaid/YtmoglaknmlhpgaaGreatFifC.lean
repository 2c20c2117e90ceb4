/- Several texts in one: AskGet, TgtW, TgtMet, ExprMem, FunNum, FunCall, ExprSmall, ExprLaws, ExprDec, FunJudge, FunCalls, VHas, ExprReck, ExprMade, ExprOk, HTail, ExprVal, ExprCond, MarkIndets, EvalRule, CombAll. -/
import Derived.Test.YtmoglaknmlhpgaaGreatFifB
import Derived.Lib.MinMax
import Derived.Test.YtmoglaknmlhpgaaGreatFifA
import Derived.Laws.ResultCell
import Derived.StillTail
import Derived.OrdersHeld
import Derived.RegionTactic
import Derived.Deep.CutRange
/- Get: what is there, in new memory. -/
namespace Go.Proofs.YtmoglaknmlhpgaaGreat
set_option linter.unusedVariables false
open Go.RowKit

def ShortG (l : List Giv) : Prop := ∀ g ∈ l, Shorts g.bag ∧ g.bag.length ≤ 100000
theorem aget_any {w : World} {R : Nat → Prop} {A : Option Addr} {n c : Nat} {l : List Giv} (a : Atr) (h : Gvs w R A n c l) (hs : ShortG l) :
    Calls Tryz.prog 106 #[.slice A n c, .agg #[.int .i64 a.cat, .string a.name, .bool a.must]] w fun e w' => ∃ A' n' c', e = .returned (.tuple #[.slice A' n' c', .int .i64 (getE l a)]) ∧ Below w.heap.size w w' ∧ Vls w' (fun b => w.heap.size ≤ b) A' n' c' (getR l a) := by
  obtain ⟨ac, an, am⟩ := a
  have hle := Rw.le h
  have hcap := Rw.cap h
  have HL := Lib.hid (Rw.len h)
  unfold maxLen at hcap
  have H := Lib.hid h
  have HS := Lib.hid hs
  have HP := Lib.hid (fun W (hW : Below w.heap.size w W) => place_any ac an (h.keep (Kept.all hW R) (fun _ h _ => h)))
  clear h hs
  by_cases hi : idxA l ac an < l.length
  · obtain ⟨g, hg, hgg, hb⟩ := idx_hit hi
    have hp : placeI l ac an = (idxA l ac an : Int) := place_pos hi
    rw [hp] at HP
    have hin : idxA l ac an < n := by have := HL.out; omega
    have HB : Hid (getB l ⟨ac, an, am⟩ = g.bag) := hb
    have HG := Lib.hid hg
    generalize idxA l ac an = k at *
    obtain ⟨hsh, hln⟩ := HS.out g (List.mem_of_getElem? hg)
    have HSH := Lib.hid hsh
    have HLN := Lib.hid hln
    clear hi hp hg hgg hb hsh hln
    have atW := fun W (hW : Below w.heap.size w W) => (H.out.keep (Kept.all hW R) (fun _ h _ => h)).at_ hin
    have AW := Lib.hid atW
    clear atW
    obtain ⟨b, o, g0, A', n', c', rfl, _, hbl, hx, _, ⟨_, _, c2⟩, hin0⟩ := AW.out w (Below.refl _ _)
    have hgx := HG.out
    rw [hx] at hgx
    injection hgx with hgx
    subst hgx
    have HIN := Lib.hid hin0
    have hn' : n' ≤ 100000 := by have := Rw.len hin0; have := HLN.out; omega
    have hlen' : g0.bag.length = n' := Rw.len hin0
    have C2 := Lib.hid c2
    have HBL := Lib.hid hbl
    have HE : Hid (getE l ⟨ac, an, am⟩ = if am = true ∧ n' = 0 then 4 else 0) := by
      show getE l ⟨ac, an, am⟩ = _
      unfold getE
      have e0 : (g0.bag = []) = (n' = 0) := by rw [← hlen', List.length_eq_zero_iff]
      rw [HB.out]
      simp only [e0]
    have HR : Hid (getR l ⟨ac, an, am⟩ = if am = true ∧ n' = 0 then [] else g0.bag) := by
      show getR l ⟨ac, an, am⟩ = _
      unfold getR
      rw [HB.out, HE.out]
      by_cases e : am = true ∧ n' = 0 <;> simp [e]
    have HNN := Lib.hid hlen'
    clear hx c2 hin0 hbl AW hlen'
    generalize getE l ⟨ac, an, am⟩ = ee at *
    generalize getR l ⟨ac, an, am⟩ = rr at *
    rcases Nat.eq_zero_or_pos n' with rfl | hpos
    · cases am
      · have HE2 : Hid (ee = 0) := by show ee = 0; rw [HE.out]; simp
        have HR2 : Hid (rr = g0.bag) := by show rr = _; rw [HR.out]; simp
        clear HE HR
        go_enter Tryz.func106, Tryz.ntmps106
        go_wp2_with (first
          | (go_at_call 130; refine (HP.out _ ((Below.refl _ _).alloc (Nat.le_refl _) _)).mono ?_; rintro e w1 ⟨rfl, hb1⟩
             have OB1 := Lib.hid (Ob.below (Ob.made _ _ _) hb1 (by simp))
             have B1 := Lib.hid (Below.lit hb1)
             have q2 := (World.cell?_of_block (B1.out.block _ HBL.out)).trans C2.out
             have CP := Lib.hid (copied_any (HIN.out.keep (Kept.all B1.out R) (fun _ h _ => h)) HSH.out hn')
             clear hb1)
          | (go_at_call 131; refine CP.out.mono ?_; rintro e w2 ⟨A2, k2, rfl, hb2, hi2⟩
             have c9 := (Ob.below OB1.out hb2 (Ob.lt OB1.out)).cell 2
             have B2 := Lib.hid (below_step B1.out hb2)
             have I2 := Lib.hid (hi2.keep (Kept.refl _ _) (R' := fun b => w.heap.size ≤ b) (fun b h _ => Nat.le_trans B1.out.size h))
             clear hb2 hi2))
        go_ret2
        exact ⟨A2, 0, k2, by rw [HE2.out]; rfl, B2.out, by rw [HR2.out]; exact I2.out⟩
      · have HE2 : Hid (ee = 4) := by show ee = 4; rw [HE.out]; simp
        have HR2 : Hid (rr = []) := by show rr = _; rw [HR.out]; simp
        clear HE HR
        go_enter Tryz.func106, Tryz.ntmps106
        go_wp2_with (first
          | (go_at_call 130; refine (HP.out _ ((Below.refl _ _).alloc (Nat.le_refl _) _)).mono ?_; rintro e w1 ⟨rfl, hb1⟩
             have OB1 := Lib.hid (Ob.below (Ob.made _ _ _) hb1 (by simp))
             have B1 := Lib.hid (Below.lit hb1)
             have q2 := (World.cell?_of_block (B1.out.block _ HBL.out)).trans C2.out
             have CP := Lib.hid (copied_any (HIN.out.keep (Kept.all B1.out R) (fun _ h _ => h)) HSH.out hn')
             clear hb1)
          | (go_at_call 131; refine CP.out.mono ?_; rintro e w2 ⟨A2, k2, rfl, hb2, hi2⟩
             have c9 := (Ob.below OB1.out hb2 (Ob.lt OB1.out)).cell 2
             have B2 := Lib.hid (below_step B1.out hb2)
             have I2 := Lib.hid (hi2.keep (Kept.refl _ _) (R' := fun b => w.heap.size ≤ b) (fun b h _ => Nat.le_trans B1.out.size h))
             clear hb2 hi2))
        go_ret2
        exact ⟨none, 0, 0, by rw [HE2.out]; rfl, B2.out, by rw [HR2.out]; exact Rw.nil_ _ _ _ _⟩
    · have hne : ¬ (n' : Int) = 0 := by omega
      have hne2 : ((n' : Int) == 0) = false := by simpa using hne
      have HE2 : Hid (ee = 0) := by show ee = 0; rw [HE.out, if_neg (by omega)]
      have HR2 : Hid (rr = g0.bag) := by show rr = _; rw [HR.out, if_neg (by omega)]
      clear HE HR
      cases am
      all_goals
        go_enter Tryz.func106, Tryz.ntmps106
        go_wp2_with (first
          | (go_at_call 130; refine (HP.out _ ((Below.refl _ _).alloc (Nat.le_refl _) _)).mono ?_; rintro e w1 ⟨rfl, hb1⟩
             have OB1 := Lib.hid (Ob.below (Ob.made _ _ _) hb1 (by simp))
             have B1 := Lib.hid (Below.lit hb1)
             have q2 := (World.cell?_of_block (B1.out.block _ HBL.out)).trans C2.out
             have CP := Lib.hid (copied_any (HIN.out.keep (Kept.all B1.out R) (fun _ h _ => h)) HSH.out hn')
             clear hb1)
          | (go_at_call 131; refine CP.out.mono ?_; rintro e w2 ⟨A2, k2, rfl, hb2, hi2⟩
             have c9 := (Ob.below OB1.out hb2 (Ob.lt OB1.out)).cell 2
             have B2 := Lib.hid (below_step B1.out hb2)
             have I2 := Lib.hid (hi2.keep (Kept.refl _ _) (R' := fun b => w.heap.size ≤ b) (fun b h _ => Nat.le_trans B1.out.size h))
             clear hb2 hi2))
        go_ret2
        exact ⟨A2, n', k2, by rw [HE2.out]; rfl, B2.out, by rw [HR2.out]; exact I2.out⟩
  · have HB : Hid (getB l ⟨ac, an, am⟩ = []) := bag_none hi
    have hp : placeI l ac an = -1 := place_neg hi
    rw [hp] at HP
    clear hp hi
    have HE : Hid (getE l ⟨ac, an, am⟩ = if am = true then 4 else 0) := by show getE l ⟨ac, an, am⟩ = _; unfold getE; rw [HB.out]; simp
    have HR : Hid (getR l ⟨ac, an, am⟩ = []) := by show getR l ⟨ac, an, am⟩ = _; unfold getR; rw [HB.out]; simp
    generalize getE l ⟨ac, an, am⟩ = ee at *
    generalize getR l ⟨ac, an, am⟩ = rr at *
    cases am
    all_goals
      go_enter Tryz.func106, Tryz.ntmps106
      go_wp2_with (go_at_call 130; refine (HP.out _ ((Below.refl _ _).alloc (Nat.le_refl _) _)).mono ?_; rintro e w1 ⟨rfl, hb1⟩; have c0 := (Ob.below (Ob.made _ _ _) hb1 (by simp)).cell 2)
      go_ret2
      refine ⟨none, 0, 0, by rw [HE.out]; rfl, Below.lit hb1, by rw [HR.out]; exact Rw.nil_ _ _ _ _⟩
end Go.Proofs.YtmoglaknmlhpgaaGreat
/- Package target, walked: truth, same, less, held, Match, All, one, Met. -/
namespace Go.Proofs.YtmoglaknmlhpgaaGreat
set_option linter.unusedVariables false
open Go.RowKit

theorem tgtruth_any (b : Bool) (w : World) :
    Calls Tryz.prog 152 #[.bool b] w fun e w' => e = .returned (.int .i64 (trI b)) ∧ Below w.heap.size w w' := by
  cases b
  all_goals
    go_enter Tryz.func152, Tryz.ntmps152
    go_wp2_with fail
    go_ret
    exact ⟨rfl, Below.refl _ _⟩
theorem tgalloc2 (w : World) (x y : Obj) : Below w.heap.size w ((w.alloc x).alloc y) := ((Below.refl _ _).alloc (Nat.le_refl _) _).alloc (by rw [size_al]; omega) _
set_option maxHeartbeats 1600000 in
theorem tgsame_any (a b : Vl) (w : World) :
    Calls Tryz.prog 135 #[a.val, b.val] w fun e w' => e = .returned (.int .i64 (sameI a b)) ∧ Below w.heap.size w w' := by
  obtain ⟨k, n, s⟩ := a
  obtain ⟨k', n', s'⟩ := b
  show Calls _ _ #[.agg #[.int .i64 k, .int .i64 n, .string s], .agg #[.int .i64 k', .int .i64 n', .string s']] w _
  have HT := Lib.hid tgtruth_any
  have HS : Hid (sameI ⟨k, n, s⟩ ⟨k', n', s'⟩ = if k = k' then trI (veq ⟨k, n, s⟩ ⟨k', n', s'⟩) else 1) := rfl
  have e1 := fun W => val_eq k n k' n' s s' W
  generalize veq ⟨k, n, s⟩ ⟨k', n', s'⟩ = q at *
  generalize sameI ⟨k, n, s⟩ ⟨k', n', s'⟩ = r at *
  by_cases h : k = k'
  · have h1 : (k != k') = false := by rw [bne_eq_false_iff_eq]; exact h
    have HR : Hid (r = trI q) := by show _ = _; rw [HS.out, if_pos h]
    clear h HS
    go_enter Tryz.func135, Tryz.ntmps135
    go_wp2_with (go_at_call 152; refine (HT.out _ _).mono ?_; rintro e w1 ⟨rfl, hb1⟩)
    go_ret
    exact ⟨by rw [HR.out]; rfl, Below.lit (Below.lit hb1)⟩
  · have h1 : (k != k') = true := by rw [bne_iff_ne]; exact h
    have HR : Hid (r = 1) := by show _ = _; rw [HS.out, if_neg h]
    clear h HS
    go_enter Tryz.func135, Tryz.ntmps135
    go_wp2_with fail
    go_ret
    exact ⟨by rw [HR.out]; rfl, tgalloc2 _ _ _⟩
set_option maxHeartbeats 1600000 in
theorem tgless_any (a b : Vl) (ha : a.s.size ≤ maxLen) (hb : b.s.size ≤ maxLen) (w : World) :
    Calls Tryz.prog 136 #[a.val, b.val] w fun e w' => e = .returned (.int .i64 (lessI a b)) ∧ Below w.heap.size w w' := by
  have HL := Lib.hid (less_any a b ha hb)
  clear ha hb
  have HS : Hid (lessI a b = if (lessOf a b).2 = 0 then trI (lessOf a b).1 else 1) := rfl
  generalize lessI a b = r at *
  generalize lessOf a b = lo at *
  obtain ⟨q, x⟩ := lo
  dsimp only at HL HS
  obtain ⟨k, n, s⟩ := a
  obtain ⟨k', n', s'⟩ := b
  show Calls _ _ #[.agg #[.int .i64 k, .int .i64 n, .string s], .agg #[.int .i64 k', .int .i64 n', .string s']] w _
  have HT := Lib.hid tgtruth_any
  by_cases h : x = 0
  · have h1 : (x != 0) = false := by rw [bne_eq_false_iff_eq]; exact h
    have HR : Hid (r = trI q) := by show _ = _; rw [HS.out, if_pos h]
    clear h HS
    go_enter Tryz.func136, Tryz.ntmps136
    go_wp2_with (first
      | (go_at_call 153; refine (HL.out _).mono ?_; rintro e w1 ⟨rfl, hb1⟩; have B1 := Lib.hid (Below.lit (Below.lit hb1)); clear hb1)
      | (go_at_call 152; refine (HT.out _ _).mono ?_; rintro e w2 ⟨rfl, hb1⟩))
    go_ret
    exact ⟨by rw [HR.out]; rfl, below_step B1.out hb1⟩
  · have h1 : (x != 0) = true := by rw [bne_iff_ne]; exact h
    have HR : Hid (r = 1) := by show _ = _; rw [HS.out, if_neg h]
    clear h HS
    go_enter Tryz.func136, Tryz.ntmps136
    go_wp2_with (go_at_call 153; refine (HL.out _).mono ?_; rintro e w1 ⟨rfl, hb1⟩; have B1 := Lib.hid (Below.lit (Below.lit hb1)); clear hb1)
    go_ret
    exact ⟨by rw [HR.out]; rfl, B1.out⟩
set_option maxHeartbeats 3200000 in
theorem tgheld_any (m : Mat) (v : Vl) (hm : m.v.s.size ≤ maxLen) (hv : v.s.size ≤ maxLen) (w : World) :
    Calls Tryz.prog 110 #[m.val, v.val] w fun e w' => e = .returned (.int .i64 (heldI m v)) ∧ Below w.heap.size w w' := by
  have C1 := Lib.hid (tgsame_any v m.v)
  have C2 := Lib.hid (tgless_any v m.v hv hm)
  have C3 := Lib.hid (tgless_any m.v v hm hv)
  clear hm hv
  have HS : Hid (heldI m v = if m.op = 1 then sameI v m.v else if m.op = 2 then lessI v m.v else lessI m.v v) := rfl
  generalize heldI m v = r at *
  obtain ⟨⟨mc, mn, mu⟩, op, ⟨k, n, s⟩⟩ := m
  obtain ⟨k', n', s'⟩ := v
  show Calls _ _ #[.agg #[.int .i64 mc, .string mn, .bool mu, .int .i64 op, .int .i64 k, .int .i64 n, .string s], .agg #[.int .i64 k', .int .i64 n', .string s']] w _
  simp only at C1 C2 C3 HS
  by_cases h : op = 1
  · subst h
    have HR : Hid (r = sameI ⟨k', n', s'⟩ ⟨k, n, s⟩) := by show _ = _; rw [HS.out, if_pos rfl]
    go_enter Tryz.func110, Tryz.ntmps110
    go_wp2_with (go_at_call 135; refine (C1.out _).mono ?_; rintro e w1 ⟨rfl, hb1⟩)
    go_ret
    exact ⟨by rw [HR.out]; rfl, Below.lit (Below.lit hb1)⟩
  · have h1 : (op == 1) = false := by rw [beq_eq_false_iff_ne]; exact h
    by_cases h' : op = 2
    · subst h'
      have HR : Hid (r = lessI ⟨k', n', s'⟩ ⟨k, n, s⟩) := by show _ = _; rw [HS.out, if_neg h, if_pos rfl]
      go_enter Tryz.func110, Tryz.ntmps110
      go_wp2_with (go_at_call 136; refine (C2.out _).mono ?_; rintro e w1 ⟨rfl, hb1⟩)
      go_ret
      exact ⟨by rw [HR.out]; rfl, Below.lit (Below.lit hb1)⟩
    · have h2 : (op == 2) = false := by rw [beq_eq_false_iff_ne]; exact h'
      have HR : Hid (r = lessI ⟨k, n, s⟩ ⟨k', n', s'⟩) := by show _ = _; rw [HS.out, if_neg h, if_neg h']
      clear h h'
      go_enter Tryz.func110, Tryz.ntmps110
      go_wp2_with (go_at_call 136; refine (C3.out _).mono ?_; rintro e w1 ⟨rfl, hb1⟩)
      go_ret
      exact ⟨by rw [HR.out]; rfl, Below.lit (Below.lit hb1)⟩
end Go.Proofs.YtmoglaknmlhpgaaGreat
/- Package target, walked: Match, All, one, Met. -/
namespace Go.Proofs.YtmoglaknmlhpgaaGreat
set_option linter.unusedVariables false
open Go.RowKit

set_option maxHeartbeats 3200000 in
theorem tgmatch_any {w : World} {R : Nat → Prop} {A : Option Addr} {n c : Nat} {l : List Giv} (m : Mat) (hm : m.v.s.size ≤ maxLen) (h : Gvs w R A n c l) (hs : ShortG l) :
    Calls Tryz.prog 83 #[m.val, .slice A n c] w fun e w' => e = .returned (.int .i64 (matchI l m)) ∧ Below w.heap.size w w' := by
  have HG := Lib.hid (fun W (hW : Below w.heap.size w W) => aget_any (w := W) m.a (h.keep (Kept.all hW R) (fun _ h _ => h)) hs)
  have HH := Lib.hid (fun v (hv : v.s.size ≤ maxLen) W => tgheld_any m v hm hv W)
  have HT := Lib.hid (tri_held m)
  have HE : Hid (matchI l m = if getE l m.a = 0 then most (heldI m) (getR l m.a) else 1) := rfl
  generalize matchI l m = r at *
  generalize heldI m = f at *
  obtain ⟨⟨mc, mn, mu⟩, op, ⟨k, nn, s⟩⟩ := m
  simp only at HG HE
  generalize getE l _ = ee at *
  generalize getR l _ = bag at *
  show Calls _ _ #[.agg #[.int .i64 mc, .string mn, .bool mu, .int .i64 op, .int .i64 k, .int .i64 nn, .string s], .slice A n c] w _
  have OM := Lib.hid (Ob.made w 64 #[.int .i64 mc, .string mn, .bool mu, .int .i64 op, .int .i64 k, .int .i64 nn, .string s])
  have BM := Lib.hid ((Below.refl w.heap.size w).alloc (Nat.le_refl _) (.cells #[.int .i64 mc, .string mn, .bool mu, .int .i64 op, .int .i64 k, .int .i64 nn, .string s] 64))
  clear h hs hm
  by_cases h : ee = 0
  rotate_left
  · have h1 : (ee != 0) = true := by rw [bne_iff_ne]; exact h
    have HR : Hid (r = 1) := by show _ = _; rw [HE.out, if_neg h]
    clear h HE
    go_enter Tryz.func83, Tryz.ntmps83
    go_wp2_with (go_at_call 106; refine (HG.out _ BM.out).mono ?_; rintro e w1 ⟨A', n', c', rfl, hb1, hbag⟩)
    go_ret
    exact ⟨by rw [HR.out]; rfl, below_step BM.out hb1⟩
  have h1 : (ee != 0) = false := by rw [bne_eq_false_iff_eq]; exact h
  have HR : Hid (r = most f bag) := by show _ = _; rw [HE.out, if_pos h]
  clear h HE
  go_enter Tryz.func83, Tryz.ntmps83
  go_wp2_with (go_at_call 106; refine (HG.out _ BM.out).mono ?_; rintro e w1 ⟨A', n', c', rfl, hb1, hbag⟩; have B1 := Lib.hid (below_step BM.out hb1); have O1 := Lib.hid (OM.out.below hb1 OM.out.lt); have V1 := Lib.hid (Vls.keep hbag (Kept.refl _ _) (R' := fun _ => True) (fun _ _ _ => trivial)); have hle := Rw.le hbag; have hcap := Rw.cap hbag; have HL := Lib.hid (Rw.len hbag); clear hb1 hbag)
  unfold maxLen at hcap
  go_loopw [7, 21] (fun x i wr => ∃ j : Nat, j ≤ n' ∧ i = .int .i64 j ∧ x = .int .i64 (most f (bag.take j)) ∧ Below w1.heap.size w1 wr) (fun _ i _ => n' - (intOf i).toNat)
  case atStart => exact ⟨0, Nat.zero_le _, rfl, rfl, Below.refl _ _⟩
  case round =>
    obtain ⟨j, hj, rfl, rfl, hb⟩ := hrel
    have HB := Lib.hid hb
    have BW := Lib.hid (below_step B1.out hb)
    have OW := O1.out.below hb O1.out.lt
    have q0 := OW.cell 0
    have q1 := OW.cell 1
    have q2 := OW.cell 2
    have q3 := OW.cell 3
    have q4 := OW.cell 4
    have q5 := OW.cell 5
    have q6 := OW.cell 6
    have OL := Lib.hid OW
    clear hb OW
    by_cases hlt : j < n'
    · obtain ⟨b, o, v, rfl, _, hbl, hx, hok, c0, c1, c2⟩ := (V1.out.keep (Kept.all HB.out _) (R' := fun _ => True) (fun _ _ _ => trivial)).at_ hlt
      have HS := Lib.hid (most_step hx (HT.out v).1)
      have HC := Lib.hid (HH.out v hok.2.2)
      obtain ⟨vk, vn, vs⟩ := v
      simp only at c0 c1 c2
      have HC2 : Hid (∀ W : World, Calls Tryz.prog 110 #[.agg #[.int .i64 mc, .string mn, .bool mu, .int .i64 op, .int .i64 k, .int .i64 nn, .string s], .agg #[.int .i64 vk, .int .i64 vn, .string vs]] W fun e w' => e = .returned (.int .i64 (f ⟨vk, vn, vs⟩)) ∧ Below W.heap.size W w') := HC.out
      clear HC hx hok
      generalize f ⟨vk, vn, vs⟩ = y at *
      generalize most f (bag.take j) = x at *
      generalize hz : most f (bag.take (j + 1)) = z at *
      have HZ := Lib.hid hz
      clear hz
      have OX := OL.out.keep (w' := wr.alloc (.cells #[.int .i64 vk, .int .i64 vn, .string vs] 40)) (Below.heap_alloc _ _ _ OL.out.lt)
      have p0 := OX.cell 0
      have p1 := OX.cell 1
      have p2 := OX.cell 2
      have p3 := OX.cell 3
      have p4 := OX.cell 4
      have p5 := OX.cell 5
      have p6 := OX.cell 6
      clear OX
      go_wp2_with (go_at_call 110; refine (HC2.out _).mono ?_; rintro e w2 ⟨rfl, hb2⟩; have B2 := Lib.hid (below_step HB.out (Below.lit hb2)); clear hb2)
      go_roundw
      case rel => exact ⟨j + 1, by omega, by go_num, by rw [HZ.out, HS.out], B2.out⟩
      case measure => simp [intOf]; omega
    · obtain rfl : j = n' := by omega
      go_wp2
      go_ret
      exact ⟨by rw [HR.out, List.take_of_length_le (by have := HL.out; omega)]; rfl, BW.out⟩
set_option maxHeartbeats 3200000 in
theorem tgall_any {w : World} {R R1 : Nat → Prop} {A A1 : Option Addr} {n c n1 c1 : Nat} {l : List Giv} {ms : List Mat} (h1 : Ms w R1 A1 n1 c1 ms) (h : Gvs w R A n c l) (hs : ShortG l) :
    Calls Tryz.prog 50 #[.slice A1 n1 c1, .slice A n c] w fun e w' => e = .returned (.int .i64 (allI l ms)) ∧ Below w.heap.size w w' := by
  have HM := Lib.hid (fun W (hW : Below w.heap.size w W) (m : Mat) (hm : m.v.s.size ≤ maxLen) => tgmatch_any (w := W) m hm (h.keep (Kept.all hW R) (fun _ h _ => h)) hs)
  have HT := Lib.hid (tri_match l)
  have HE : Hid (allI l ms = least (matchI l) ms) := rfl
  generalize allI l ms = r at *
  generalize matchI l = f at *
  have hle := Rw.le h1
  have hcap := Rw.cap h1
  have HL := Lib.hid (Rw.len h1)
  unfold maxLen at hcap
  have H1 := Lib.hid h1
  clear h h1 hs
  go_enter Tryz.func50, Tryz.ntmps50
  go_wp2
  go_loopw [5, 10] (fun x i wr => ∃ j : Nat, j ≤ n1 ∧ i = .int .i64 j ∧ x = .int .i64 (least f (ms.take j)) ∧ Below w.heap.size w wr) (fun _ i _ => n1 - (intOf i).toNat)
  case atStart => exact ⟨0, Nat.zero_le _, rfl, rfl, Below.refl _ _⟩
  case round =>
    obtain ⟨j, hj, rfl, rfl, hb⟩ := hrel
    have HB := Lib.hid hb
    clear hb
    by_cases hlt : j < n1
    · obtain ⟨b, o, m, rfl, _, hbl, hx, hok, c0, c1, c2, c3, c4, c5, c6⟩ := (H1.out.keep (Kept.all HB.out _) (R' := fun _ => True) (fun _ _ _ => trivial)).at_ hlt
      have HS := Lib.hid (least_step hx (HT.out m).2)
      have HC := Lib.hid (fun W hW => HM.out W hW m hok.2.2.2.2)
      obtain ⟨⟨mc, mn, mu⟩, op, ⟨k, nn, s⟩⟩ := m
      simp only at c0 c1 c2 c3 c4 c5 c6
      have HC2 : Hid (∀ W : World, Below w.heap.size w W → Calls Tryz.prog 83 #[.agg #[.int .i64 mc, .string mn, .bool mu, .int .i64 op, .int .i64 k, .int .i64 nn, .string s], .slice A n c] W fun e w' => e = .returned (.int .i64 (f ⟨⟨mc, mn, mu⟩, op, ⟨k, nn, s⟩⟩)) ∧ Below W.heap.size W w') := HC.out
      clear HC hx hok
      generalize f _ = y at *
      generalize least f (ms.take j) = x at *
      generalize hz : least f (ms.take (j + 1)) = z at *
      have HZ := Lib.hid hz
      clear hz
      go_wp2_with (go_at_call 83; refine (HC2.out _ (HB.out.alloc HB.out.size _)).mono ?_; rintro e w2 ⟨rfl, hb2⟩; have B2 := Lib.hid (below_step HB.out (Below.lit hb2)); clear hb2)
      go_roundw
      case rel => exact ⟨j + 1, by omega, by go_num, by rw [HZ.out, HS.out], B2.out⟩
      case measure => simp [intOf]; omega
    · obtain rfl : j = n1 := by omega
      go_wp2
      go_ret
      exact ⟨by rw [HE.out, List.take_of_length_le (by have := HL.out; omega)]; rfl, HB.out⟩
set_option maxHeartbeats 3200000 in
theorem tgone_any {w : World} {R R1 : Nat → Prop} {A A1 : Option Addr} {n c n1 c1 : Nat} {l : List Giv} {ms : List (List Mat)} (h1 : Als w R1 A1 n1 c1 ms) (h : Gvs w R A n c l) (hs : ShortG l) :
    Calls Tryz.prog 37 #[.slice A1 n1 c1, .slice A n c] w fun e w' => e = .returned (.int .i64 (oneI l ms)) ∧ Below w.heap.size w w' := by
  have HM := Lib.hid (fun W (hW : Below w.heap.size w W) (A2 : Option Addr) (n2 c2 : Nat) (m : List Mat) (hm : Ms W (fun _ => True) A2 n2 c2 m) => tgall_any (w := W) hm (h.keep (Kept.all hW R) (fun _ h _ => h)) hs)
  have HT := Lib.hid (tri_all l)
  have HE : Hid (oneI l ms = most (allI l) ms) := rfl
  generalize oneI l ms = r at *
  generalize allI l = f at *
  have hle := Rw.le h1
  have hcap := Rw.cap h1
  have HL := Lib.hid (Rw.len h1)
  unfold maxLen at hcap
  have H1 := Lib.hid h1
  clear h h1 hs
  go_enter Tryz.func37, Tryz.ntmps37
  go_wp2
  go_loopw [5, 10] (fun x i wr => ∃ j : Nat, j ≤ n1 ∧ i = .int .i64 j ∧ x = .int .i64 (most f (ms.take j)) ∧ Below w.heap.size w wr) (fun _ i _ => n1 - (intOf i).toNat)
  case atStart => exact ⟨0, Nat.zero_le _, rfl, rfl, Below.refl _ _⟩
  case round =>
    obtain ⟨j, hj, rfl, rfl, hb⟩ := hrel
    have HB := Lib.hid hb
    clear hb
    by_cases hlt : j < n1
    · obtain ⟨b, o, m, A2, n2, c2, rfl, _, hbl, hx, c0, hin⟩ := (H1.out.keep (Kept.all HB.out _) (R' := fun _ => True) (fun _ _ _ => trivial)).at_ hlt
      have HS := Lib.hid (most_step hx (HT.out m).1)
      have HC := Lib.hid (HM.out wr HB.out A2 n2 c2 m hin)
      clear hx hin
      generalize f m = y at *
      generalize most f (ms.take j) = x at *
      generalize hz : most f (ms.take (j + 1)) = z at *
      have HZ := Lib.hid hz
      clear hz
      go_wp2_with (go_at_call 50; refine HC.out.mono ?_; rintro e w2 ⟨rfl, hb2⟩; have B2 := Lib.hid (below_step HB.out hb2); clear hb2)
      go_roundw
      case rel => exact ⟨j + 1, by omega, by go_num, by rw [HZ.out, HS.out], B2.out⟩
      case measure => simp [intOf]; omega
    · obtain rfl : j = n1 := by omega
      go_wp2
      go_ret
      exact ⟨by rw [HE.out, List.take_of_length_le (by have := HL.out; omega)]; rfl, HB.out⟩
set_option maxHeartbeats 3200000 in
theorem tgmet_any {w : World} {R R1 : Nat → Prop} {A A1 : Option Addr} {n c n1 c1 : Nat} {l : List Giv} {ms : Tgt} (h1 : Tg w R1 A1 n1 c1 ms) (h : Gvs w R A n c l) (hs : ShortG l) :
    Calls Tryz.prog 24 #[.slice A1 n1 c1, .slice A n c] w fun e w' => e = .returned (.int .i64 (metI l ms)) ∧ Below w.heap.size w w' := by
  have HM := Lib.hid (fun W (hW : Below w.heap.size w W) (A2 : Option Addr) (n2 c2 : Nat) (m : List (List Mat)) (hm : Als W (fun _ => True) A2 n2 c2 m) => tgone_any (w := W) hm (h.keep (Kept.all hW R) (fun _ h _ => h)) hs)
  have HT := Lib.hid (tri_one l)
  have HE : Hid (metI l ms = least (oneI l) ms) := rfl
  generalize metI l ms = r at *
  generalize oneI l = f at *
  have hle := Rw.le h1
  have hcap := Rw.cap h1
  have HL := Lib.hid (Rw.len h1)
  unfold maxLen at hcap
  have H1 := Lib.hid h1
  clear h h1 hs
  go_enter Tryz.func24, Tryz.ntmps24
  go_wp2
  go_loopw [5, 10] (fun x i wr => ∃ j : Nat, j ≤ n1 ∧ i = .int .i64 j ∧ x = .int .i64 (least f (ms.take j)) ∧ Below w.heap.size w wr) (fun _ i _ => n1 - (intOf i).toNat)
  case atStart => exact ⟨0, Nat.zero_le _, rfl, rfl, Below.refl _ _⟩
  case round =>
    obtain ⟨j, hj, rfl, rfl, hb⟩ := hrel
    have HB := Lib.hid hb
    clear hb
    by_cases hlt : j < n1
    · obtain ⟨b, o, m, A2, n2, c2, rfl, _, hbl, hx, c0, hin⟩ := (H1.out.keep (Kept.all HB.out _) (R' := fun _ => True) (fun _ _ _ => trivial)).at_ hlt
      have HS := Lib.hid (least_step hx (HT.out m).2)
      have HC := Lib.hid (HM.out wr HB.out A2 n2 c2 m hin)
      clear hx hin
      generalize f m = y at *
      generalize least f (ms.take j) = x at *
      generalize hz : least f (ms.take (j + 1)) = z at *
      have HZ := Lib.hid hz
      clear hz
      go_wp2_with (go_at_call 37; refine HC.out.mono ?_; rintro e w2 ⟨rfl, hb2⟩; have B2 := Lib.hid (below_step HB.out hb2); clear hb2)
      go_roundw
      case rel => exact ⟨j + 1, by omega, by go_num, by rw [HZ.out, HS.out], B2.out⟩
      case measure => simp [intOf]; omega
    · obtain rfl : j = n1 := by omega
      go_wp2
      go_ret
      exact ⟨by rw [HE.out, List.take_of_length_le (by have := HL.out; omega)]; rfl, HB.out⟩
end Go.Proofs.YtmoglaknmlhpgaaGreat
/- What a node made, in memory; the stack, which is the call's own and is cut and grows. -/
namespace Go.Proofs.YtmoglaknmlhpgaaGreat
set_option linter.unusedVariables false
open Go.RowKit

def PartAt (w : World) (R : Nat → Prop) (vs : List Value) (p : Prt) : Prop := ∃ A n c, vs = [.slice A n c, .int .i64 p.v.k, .int .i64 p.v.n, .string p.v.s, .int .i64 p.e] ∧ (p.v.ok ∧ InI p.e) ∧ Vls w R A n c p.bag
def Prts (w : World) (R : Nat → Prop) := Rw 5 (PartAt w R) w R
section
variable {w w' : World} {R R' : Nat → Prop} {A : Option Addr} {n c : Nat}
theorem PartAt.keep {vs : List Value} {p : Prt} (h : PartAt w R vs p) (hk : Kept R w w') (hR : ∀ b, R b → b < w.heap.size → R' b) : PartAt w' R' vs p := by
  obtain ⟨A, n, c, e, h0, h1⟩ := h
  exact ⟨A, n, c, e, h0, h1.keep hk hR⟩
theorem keeps_part : Keeps PartAt := fun _ _ _ _ _ _ h hk hR => h.keep hk hR
theorem Prts.keep {l : List Prt} (h : Prts w R A n c l) (hk : Kept R w w') (hR : ∀ b, R b → b < w.heap.size → R' b) : Prts w' R' A n c l := Rw.keep h hk hR fun _ _ _ h => h.keep hk hR
theorem PartAt.one {w : World} {R : Nat → Prop} (vs : List Value) (p : Prt) (h : PartAt w R vs p) : ∀ v ∈ vs, v.oneCell' = true := by
  obtain ⟨A, n, c, rfl, _⟩ := h
  intro v hv
  simp at hv
  rcases hv with rfl | rfl | rfl | rfl | rfl <;> rfl
theorem Prts.at_ {l : List Prt} (h : Prts w R A n c l) {j : Nat} (hj : j < n) : ∃ b o p A' n' c', A = some ⟨b, o, none⟩ ∧ R b ∧ b < w.heap.size ∧ l[j]? = some p ∧ (p.v.ok ∧ InI p.e) ∧
    (w.cell? ⟨b, o + j * 5, none⟩ = some (.slice A' n' c') ∧ w.cell? ⟨b, o + j * 5 + 1, none⟩ = some (.int .i64 p.v.k) ∧ w.cell? ⟨b, o + j * 5 + 2, none⟩ = some (.int .i64 p.v.n) ∧ w.cell? ⟨b, o + j * 5 + 3, none⟩ = some (.string p.v.s) ∧ w.cell? ⟨b, o + j * 5 + 4, none⟩ = some (.int .i64 p.e)) ∧ Vls w R A' n' c' p.bag := by
  obtain ⟨b, o, g, vs, e, hb, hlt, hm, hl, hv, A', n', c', rfl, hok, hin⟩ := Rw.at_ h hj
  exact ⟨b, o, g, A', n', c', e, hb, hlt, hm, hok, ⟨hv 0 _ rfl, hv 1 _ rfl, hv 2 _ rfl, hv 3 _ rfl, hv 4 _ rfl⟩, hin⟩
end
theorem Rw.drop {α : Type} {k : Nat} {P : List Value → α → Prop} {w : World} {R : Nat → Prop} {A : Option Addr} {n c : Nat} {l : List α} (h : Rw k P w R A n c l) {m : Nat} (hm : m ≤ n) : Rw k P w R (if c = m then A else A.map (·.add (m * k))) (n - m) (c - m) (l.drop m) := by
  obtain ⟨h1, h2, h3, h4⟩ := h
  refine ⟨by rw [List.length_drop]; omega, by omega, ⟨by have := h3.1; omega, by have := h3.2; omega⟩, ?_⟩
  rcases h4 with h4 | ⟨b, o, e, hb, hlt, hc⟩
  · left; omega
  · by_cases hn : n = m
    · left; omega
    · right
      subst e
      rw [if_neg (by omega)]
      refine ⟨b, o + m * k, ?_, hb, hlt, fun j x hx => ?_⟩
      · by_cases hk0 : m * k = 0 <;> simp [Addr.add, hk0]
      · rw [List.getElem?_drop] at hx
        obtain ⟨vs, a1, a2, a3⟩ := hc (m + j) x hx
        refine ⟨vs, a1, fun i v hi => ?_, a3⟩
        rw [Nat.add_assoc o, ← Nat.add_mul]
        exact a2 i v hi
theorem flatten_take {k : Nat} : ∀ {raw : List (List Value)} {j : Nat}, (∀ y ∈ raw, y.length = k) → (raw.take j).flatten = raw.flatten.take (j * k)
  | [], j, _ => by simp
  | y :: raw, 0, _ => by simp
  | y :: raw, j + 1, h => by
    have hy := h y (by simp)
    rw [List.take_succ_cons, List.flatten_cons, List.flatten_cons, flatten_take fun z hz => h z (by simp [hz]), show (j + 1) * k = y.length + j * k by rw [hy, Nat.add_mul]; omega, List.take_length_add_append]
theorem own_block (A : Option Addr) (n n' c c' : Nat) : (Value.slice A n c).ownBlock = (Value.slice A n' c').ownBlock := by cases A <;> rfl
theorem Gr.take {α : Type} {k : Nat} {P : World → (Nat → Prop) → List Value → α → Prop} {w : World} {base : Nat} {E : TypeId} {A : Option Addr} {n c : Nat} {l : List α} (hP : Keeps P) (h : Gr k P w base E A n c l) {j : Nat} (hj : j ≤ n) : Gr k P w base E A j c (l.take j) := by
  obtain ⟨⟨raw, ⟨h0, h1⟩, h2, h3, h4, h5⟩, hb⟩ := h
  have hl : ∀ y ∈ raw.take j, y.length = k := fun y hy => h4 y (List.mem_of_mem_take hy)
  have hr : (raw.take j).length = j := by rw [List.length_take]; omega
  refine ⟨⟨raw.take j, ⟨by rw [flatten_len hl, hr], ?_⟩, hr, by rw [List.length_take]; omega, hl, fun i vs x a b => ?_⟩, hb⟩
  · rcases h1 with ⟨hv, hn⟩ | ⟨g, cap, cur, a, b, r1, r2, r3, r4, r5⟩
    · obtain rfl : j = 0 := by omega
      injection hv with e1 e2 e3
      subst e1 e3
      exact .inl ⟨rfl, rfl⟩
    · injection a with e1 e2 e3
      subst e1 e3
      refine .inr ⟨g, c, cur, rfl, b, r1, by omega, r3, r4, ?_⟩
      rw [flatten_take h4, ← r5, List.take_take]
      congr 1
      exact (Nat.min_eq_left (Nat.mul_le_mul_right k hj)).symm
  · have hij : i < j := by have := (List.getElem?_eq_some_iff.1 a).1; omega
    rw [List.getElem?_take, if_pos hij] at a b
    exact hP _ _ _ _ vs x (h5 i vs x a b) (Kept.refl _ _) (fun b hb _ => ⟨hb.1, by rw [own_block A j n c c]; exact hb.2⟩)
theorem partinfo : (Tryz.prog.info? 148).map (fun i => (i.zero, i.size, i.bytes)) = some (some (.agg #[.slice none 0 0, .int .i64 0, .int .i64 0, .string ⟨#[]⟩, .int .i64 0]), 5, 64) := by kernel_rfl
theorem push_part {w : World} {base n c : Nat} {A : Option Addr} {l : List Prt} {A1 : Option Addr} {n1 c1 : Nat} {p : Prt} (h : Gr 5 PartAt w base 148 A n c l) (hok : p.v.ok ∧ InI p.e) (hx : Vls w (Nb base (.slice A n c)) A1 n1 c1 p.bag) (hn : n < 1000000) :
    ∃ A' c' w', (Builtin.append_ #[145, 145] 145 #[.slice A n c, .slice (some ⟨w.heap.size, 0, none⟩) 1 1]).run Tryz.prog (w.alloc (.cells #[.slice A1 n1 c1, .int .i64 p.v.k, .int .i64 p.v.n, .string p.v.s, .int .i64 p.e] 148)) = .ok (.slice A' (n + 1) c') w' ∧ Gr 5 PartAt w' base 148 A' (n + 1) c' (l ++ [p]) ∧ Below base w w' := by
  obtain ⟨i, hi, hz, hs, hb⟩ := info_of partinfo
  exact Gr.push (vs := [.slice A1 n1 c1, .int .i64 p.v.k, .int .i64 p.v.n, .string p.v.s, .int .i64 p.e]) (x := p) Tryz.underlying145 hi hz hs hb rfl (by omega) (by omega) keeps_part h ⟨A1, n1, c1, rfl, hok, hx⟩ rfl (fun _ _ _ _ => PartAt.one _ _) hn
end Go.Proofs.YtmoglaknmlhpgaaGreat
/- Add, Sub, Mul: the project's and the reference's. -/
namespace Go.Proofs.YtmoglaknmlhpgaaGreat
set_option linter.unusedVariables false
open Go.RowKit

theorem ret_fits {a x : Int} {p : Int × Int} (h : p = (a, x)) : Ending.returned (.tuple #[.int .i64 a, .int .i64 x]) = .returned (.tuple #[.int .i64 p.1, .int .i64 p.2]) := by rw [h]

theorem add_any (a b : Int) (ha : In64 a) (hb : In64 b) (w : World) :
    Calls Tryz.prog 163 #[.int .i64 a, .int .i64 b] w fun e w' => e = .returned (.tuple #[.int .i64 (fits (a + b)).1, .int .i64 (fits (a + b)).2]) ∧ w = w' := by
  obtain ⟨c, hc⟩ : ∃ c, IntKind.i64.wrap (a + b) = c := ⟨_, rfl⟩
  have HC := Lib.hid hc
  go_enter Tryz.func163, Tryz.ntmps163
  go_wp2_with fail
  all_goals
    rename_i h
    have H := Lib.hid h
    clear h
    go_ret2
  · exact ⟨ret_fits (sum_no ha hb HC.out (bne_iff_yes H.out)), rfl⟩
  · exact ⟨ret_fits (sum_yes ha hb HC.out (bne_iff_no H.out)), rfl⟩
theorem sub_any (a b : Int) (ha : In64 a) (hb : In64 b) (w : World) :
    Calls Tryz.prog 164 #[.int .i64 a, .int .i64 b] w fun e w' => e = .returned (.tuple #[.int .i64 (fits (a - b)).1, .int .i64 (fits (a - b)).2]) ∧ w = w' := by
  obtain ⟨c, hc⟩ : ∃ c, IntKind.i64.wrap (a - b) = c := ⟨_, rfl⟩
  have HC := Lib.hid hc
  go_enter Tryz.func164, Tryz.ntmps164
  go_wp2_with fail
  all_goals
    rename_i h
    have H := Lib.hid h
    clear h
    go_ret2
  · exact ⟨ret_fits (rest_no ha hb HC.out (bne_iff_yes H.out)), rfl⟩
  · exact ⟨ret_fits (rest_yes ha hb HC.out (bne_iff_no H.out)), rfl⟩
theorem mul_any (a b : Int) (ha : In64 a) (hb : In64 b) (w : World) :
    Calls Tryz.prog 165 #[.int .i64 a, .int .i64 b] w fun e w' => e = .returned (.tuple #[.int .i64 (fits (a * b)).1, .int .i64 (fits (a * b)).2]) ∧ w = w' := by
  by_cases h0 : a = 0
  · subst h0
    go_enter Tryz.func165, Tryz.ntmps165
    go_wp2_with fail
    go_ret2
    exact ⟨ret_fits (by rw [Int.zero_mul]; rfl), rfl⟩
  · by_cases h1 : a = -1
    · subst h1
      have C := Lib.hid (sub_any 0 b (by decide) hb)
      go_enter Tryz.func165, Tryz.ntmps165
      go_wp2_with fail
      refine (C.out _).mono ?_
      rintro e w' ⟨rfl, rfl⟩
      go_wp2_with fail
      go_ret2
      exact ⟨ret_fits (a := (fits (-b)).1) (x := (fits (-b)).2) (by rw [← neg_one, Int.zero_sub]), rfl⟩
    · have H0 := Lib.hid h0
      have H1 := Lib.hid h1
      have b0 : (a == 0) = false := by rw [beq_eq_false_iff_ne]; exact h0
      have b1 : (a == -1) = false := by rw [beq_eq_false_iff_ne]; exact h1
      obtain ⟨c, hc⟩ : ∃ c, IntKind.i64.wrap (a * b) = c := ⟨_, rfl⟩
      have HC := Lib.hid hc
      go_enter Tryz.func165, Tryz.ntmps165
      go_wp2_with fail
      all_goals
        rename_i h
        have H := Lib.hid h
        clear h
        go_ret2
      · exact ⟨ret_fits (prod_no ha hb H0.out H1.out HC.out (ne_yes H.out)), rfl⟩
      · exact ⟨ret_fits (prod_yes ha H0.out H1.out HC.out (ne_no H.out)), rfl⟩

end Go.Proofs.YtmoglaknmlhpgaaGreat
/- Package fun's and the reference's functions of values. -/
namespace Go.Proofs.YtmoglaknmlhpgaaGreat
set_option linter.unusedVariables false
open Go.RowKit

theorem box_ret {fn : Func} {p : Tmp} {tmps : Array Value} {w : World} {g : Nat} {k n : Int} {s : ByteArray} (h : fn.results = #[.cell p 40]) (hp : tmps.getD p undef = .pointer (some ⟨g, 0, none⟩)) (hg : Bx w g k n s) :
    (results fn tmps).run Tryz.prog w = .ok (.agg #[.int .i64 k, .int .i64 n, .string s]) w :=
  results_cell_row h tmps w g _ _ (0, 0) _ hp hg Tryz.underlying40 rfl (by kernel_rfl)
theorem box_ret2 {fn : Func} {p u : Tmp} {tmps : Array Value} {w : World} {g : Nat} {k n : Int} {s : ByteArray} {v : Value} (h : fn.results = #[.cell p 40, .tmp u]) (hp : tmps.getD p undef = .pointer (some ⟨g, 0, none⟩)) (hu : tmps.getD u undef = v) (hg : Bx w g k n s) :
    (results fn tmps).run Tryz.prog w = .ok (.tuple #[.agg #[.int .i64 k, .int .i64 n, .string s], v]) w := by
  rw [results_cell_tmp h, hp, hu]
  have hl := run_loadVar_row (P := Tryz.prog) w g 40 _ _ (0, 0) _ hg Tryz.underlying40 rfl (by kernel_rfl)
  simp [asAddr, hl, Result.andThen]

theorem below1 (w : World) (x : Obj) : Below w.heap.size w (w.alloc x) := (Below.refl _ _).alloc (Nat.le_refl _) _
theorem below2 (w : World) (x y : Obj) : Below w.heap.size w ((w.alloc x).alloc y) := (below1 w x).alloc (by rw [size_al]; omega) _
theorem ftruth_any (b : Bool) (w : World) : Calls Tryz.prog 159 #[.bool b] w fun e w' => e = .returned (.agg #[.int .i64 1, .int .i64 (truthN b), .string ⟨#[]⟩]) ∧ Below w.heap.size w w' := by
  cases b
  all_goals
    go_enter Tryz.func159, Tryz.ntmps159
    go_wp2_with fail
    try simp only [Exit.inBlock, Exit.then]
    refine bodyPost_ret (box_ret rfl rfl ((Bx.made _ _ _ _).alloc _)) rfl ?_
    exact ⟨rfl, below2 _ _ _⟩
theorem known_any (op : Int) (w : World) : Calls Tryz.prog 146 #[.int .i64 op] w fun e w' => e = .returned (.bool (decide (6 ≤ op ∧ op ≤ 13))) ∧ w = w' := by
  by_cases h1 : 6 ≤ op <;> by_cases h2 : op ≤ 13
  all_goals
    go_enter Tryz.func146, Tryz.ntmps146
    go_wp2
    go_ret
    exact ⟨ret_bool (by simp [h1, h2]), rfl⟩
theorem ftakes_any (op : Int) (w : World) : Calls Tryz.prog 147 #[.int .i64 op] w fun e w' => e = .returned (.int .i64 (needs op : Int)) ∧ w = w' := by
  by_cases h : op = 11
  · subst h
    go_enter Tryz.func147, Tryz.ntmps147
    go_wp2
    go_ret
    exact ⟨rfl, rfl⟩
  · have hb : (op == 11) = false := by rw [beq_eq_false_iff_ne]; exact h
    have H : Hid (needs op = 2) := if_neg h
    go_enter Tryz.func147, Tryz.ntmps147
    go_wp2
    go_ret
    exact ⟨ret_int (by rw [H.out]; rfl), rfl⟩
theorem below3 {w w' : World} {x y z : Obj} (h : Below (((w.alloc x).alloc y).alloc z).heap.size (((w.alloc x).alloc y).alloc z) w') : Below w.heap.size w w' := Below.lit (Below.lit (Below.lit h))
theorem box3 (w : World) (x y : Obj) (k n : Int) (s : ByteArray) : Bx (((w.alloc x).alloc y).alloc (.cells #[.int .i64 k, .int .i64 n, .string s] 40)) (w.heap.size + 1 + 1) k n s := by
  have := Bx.made ((w.alloc x).alloc y) k n s
  rwa [size_al, size_al] at this
theorem ret_v {k n e : Int} {s : ByteArray} {p : Vl × Int} (h : p = (⟨k, n, s⟩, e)) : Ending.returned (.tuple #[.agg #[.int .i64 k, .int .i64 n, .string s], .int .i64 e]) = .returned (.tuple #[p.1.val, .int .i64 p.2]) := by rw [h]; rfl
theorem lt2 {n : Nat} : n ≤ n + 1 + 1 := by omega

set_option maxHeartbeats 1600000 in
theorem same_any (a b : Vl) (w : World) : Calls Tryz.prog 148 #[a.val, b.val] w fun e w' => e = .returned (.tuple #[(sameV a b).1.val, .int .i64 (sameV a b).2]) ∧ Below w.heap.size w w' := by
  obtain ⟨k, n, s⟩ := a
  obtain ⟨k', n', s'⟩ := b
  show Calls _ _ #[.agg #[.int .i64 k, .int .i64 n, .string s], .agg #[.int .i64 k', .int .i64 n', .string s']] w _
  by_cases h : k = k'
  · subst h
    have hve := val_eq k n k n' s s'
    have hb := ftruth_any (veq ⟨k, n, s⟩ ⟨k, n', s'⟩)
    have hs : sameV ⟨k, n, s⟩ ⟨k, n', s'⟩ = (truthV (veq ⟨k, n, s⟩ ⟨k, n', s'⟩), 0) := if_pos rfl
    generalize veq ⟨k, n, s⟩ ⟨k, n', s'⟩ = bb at *
    have HB := Lib.hid hb
    have HS := Lib.hid hs
    clear hb hs
    go_enter Tryz.func148, Tryz.ntmps148
    go_wp2_with fail
    refine (HB.out _).mono ?_
    rintro e w1 ⟨rfl, hb1⟩
    have R1 := Lib.hid ((box3 w _ _ 0 0 ⟨#[]⟩).then_ hb1)
    have D1 := Lib.hid (below3 hb1)
    have c := R1.out.c3
    have f := R1.out.fz
    clear hb1
    go_wp2_with fail
    try simp only [Exit.inBlock, Exit.then]
    refine bodyPost_ret (box_ret2 rfl rfl rfl (R1.out.put _ _ _)) rfl ?_
    exact ⟨ret_v HS.out, below_put D1.out lt2 _ _ _⟩
  · have hk : (k != k') = true := by rw [bne_iff_ne]; exact h
    have HK := Lib.hid h
    clear h
    go_enter Tryz.func148, Tryz.ntmps148
    go_wp2_with fail
    try simp only [Exit.inBlock, Exit.then]
    refine bodyPost_ret (box_ret2 rfl rfl rfl (box3 _ _ _ _ _ _)) rfl ?_
    exact ⟨ret_v (if_neg HK.out), below3 (Below.refl _ _)⟩

theorem fless_is (a b : Vl) (ha : a.s.size ≤ maxLen) (hb : b.s.size ≤ maxLen) (x : Bool) (e : Int) (h : lessOf a b = (x, e)) (w : World) :
    Calls Tryz.prog 153 #[.agg #[.int .i64 a.k, .int .i64 a.n, .string a.s], .agg #[.int .i64 b.k, .int .i64 b.n, .string b.s]] w fun z w' => z = .returned (.tuple #[.bool x, .int .i64 e]) ∧ Below w.heap.size w w' := by
  have := less_any a b ha hb w
  rwa [h] at this

set_option maxHeartbeats 1600000 in
theorem fless_any (a b : Vl) (ha : a.s.size ≤ maxLen) (hb : b.s.size ≤ maxLen) (w : World) : Calls Tryz.prog 149 #[a.val, b.val] w fun e w' => e = .returned (.tuple #[(lessV a b).1.val, .int .i64 (lessV a b).2]) ∧ Below w.heap.size w w' := by
  obtain ⟨x, e, hx⟩ : ∃ x e, lessOf a b = (x, e) := ⟨_, _, rfl⟩
  have hc := fless_is a b ha hb x e hx
  have hl : lessV a b = if e = 0 then (truthV x, 0) else (noneV, e) := by unfold lessV; rw [hx]
  generalize lessV a b = R at *
  obtain ⟨k, n, s⟩ := a
  obtain ⟨k', n', s'⟩ := b
  show Calls _ _ #[.agg #[.int .i64 k, .int .i64 n, .string s], .agg #[.int .i64 k', .int .i64 n', .string s']] w _
  have HC := Lib.hid hc
  clear hc hx
  by_cases h : e = 0
  · subst h
    rw [if_pos rfl] at hl
    have HL := Lib.hid hl
    have HB := Lib.hid (ftruth_any x)
    clear hl
    go_enter Tryz.func149, Tryz.ntmps149
    go_wp2_with fail
    refine (HC.out _).mono ?_
    rintro e w1 ⟨rfl, hb1⟩
    have R1 := Lib.hid ((box3 w _ _ 0 0 ⟨#[]⟩).then_ hb1)
    have D1 := Lib.hid (below3 hb1)
    clear hb1
    go_wp2_with fail
    refine (HB.out _).mono ?_
    rintro e w2 ⟨rfl, hb2⟩
    have R2 := Lib.hid (R1.out.then_ hb2)
    have D2 := Lib.hid (below_step D1.out hb2)
    have c := R2.out.c3
    have f := R2.out.fz
    clear hb2 R1 D1
    go_wp2_with fail
    try simp only [Exit.inBlock, Exit.then]
    refine bodyPost_ret (box_ret2 rfl rfl rfl (R2.out.put _ _ _)) rfl ?_
    exact ⟨ret_v HL.out, below_put D2.out lt2 _ _ _⟩
  · rw [if_neg h] at hl
    have HL := Lib.hid hl
    have he : (e != 0) = true := by rw [bne_iff_ne]; exact h
    clear hl h
    go_enter Tryz.func149, Tryz.ntmps149
    go_wp2_with fail
    refine (HC.out _).mono ?_
    rintro e' w1 ⟨rfl, hb1⟩
    have R1 := Lib.hid ((box3 w _ _ 0 0 ⟨#[]⟩).then_ hb1)
    have D1 := Lib.hid (below3 hb1)
    have c := R1.out.c3
    have f := R1.out.fz
    clear hb1
    go_wp2_with fail
    try simp only [Exit.inBlock, Exit.then]
    refine bodyPost_ret (box_ret2 rfl rfl rfl (R1.out.put _ _ _)) rfl ?_
    exact ⟨ret_v HL.out, below_put D1.out lt2 _ _ _⟩

set_option maxHeartbeats 1600000 in
theorem allright_any {w : World} {B n c : Nat} {A : Option Addr} {l : List Vl} (h : Vs w B A n c l) (hB : B ≤ w.heap.size) :
    Calls Tryz.prog 145 #[.slice A n c] w fun e w' => e = .returned (.bool (allR l)) ∧ Below w.heap.size w w' := by
  have hlen := h.1
  have hcap := h.2.2.1
  have hle := h.2.1
  unfold maxLen at hcap
  have HV := Lib.hid h
  have HL := Lib.hid hlen
  clear h hlen
  go_enter Tryz.func145, Tryz.ntmps145
  go_wp2_with fail
  go_loopw [7] (fun i wr => ∃ k : Nat, k ≤ n ∧ i = .int .i64 k ∧ RightTo l k ∧ Below w.heap.size w wr) (fun i _ => n - (intOf i).toNat)
  case atStart => exact ⟨0, Nat.zero_le _, rfl, fun j x _ hj => by omega, Below.refl _ _⟩
  case round =>
    obtain ⟨k, hk, rfl, ht, hb⟩ := hrel
    have HT := Lib.hid ht
    have HB := Lib.hid hb
    by_cases hlt : k < n
    · obtain ⟨b, o, x, rfl, hbB, hx, hok, x0, x1, x2⟩ := (HV.out.below (hb.mono hB)).at_ hlt
      obtain ⟨kx, nx, sx⟩ := x
      have HX := Lib.hid hx
      have qr := right_any kx nx sx hok.2.2
      have D1 := Lib.hid (hb.alloc hb.size (.cells #[.int .i64 kx, .int .i64 nx, .string sx] 40))
      clear ht hb hx hok
      by_cases hr : RightV kx nx sx.data.toList
      · have HR : Hid (Vl.right ⟨kx, nx, sx⟩) := hr
        rw [decide_eq_true hr] at qr
        have QR := Lib.hid qr
        clear qr hr
        go_wp2_with fail
        refine (QR.out _).mono ?_
        rintro e w2 ⟨rfl, hb2⟩
        have D2 := Lib.hid (below_step D1.out hb2)
        clear hb2
        go_wp2_with fail
        go_roundw
        case rel => exact ⟨k + 1, by omega, by go_num, HT.out.step HX.out HR.out, D2.out⟩
        case measure => simp [intOf]; omega
      · have HR : Hid (¬ Vl.right ⟨kx, nx, sx⟩) := hr
        rw [decide_eq_false hr] at qr
        have QR := Lib.hid qr
        clear qr hr
        go_wp2_with fail
        refine (QR.out _).mono ?_
        rintro e w2 ⟨rfl, hb2⟩
        have D2 := Lib.hid (below_step D1.out hb2)
        clear hb2
        go_wp2_with fail
        go_ret
        exact ⟨ret_bool (allR_bad HX.out HR.out).symm, D2.out⟩
    · obtain rfl : k = n := by omega
      clear ht hb
      go_wp2_with fail
      go_ret
      exact ⟨ret_bool (HT.out.all HL.out).symm, HB.out⟩
end Go.Proofs.YtmoglaknmlhpgaaGreat
/- Package expr's small functions: takes, truth, single, literal. -/
namespace Go.Proofs.YtmoglaknmlhpgaaGreat
set_option linter.unusedVariables false
open Go.RowKit

theorem etakes_any (op : Int) (w : World) : Calls Tryz.prog 80 #[.int .i64 op] w fun e w' => e = .returned (.int .i64 (takesN op : Int)) ∧ w = w' := by
  by_cases h1 : op = 1
  · subst h1
    go_enter Tryz.func80, Tryz.ntmps80
    go_wp2
    go_ret
    exact ⟨rfl, rfl⟩
  by_cases h2 : op = 2
  · subst h2
    go_enter Tryz.func80, Tryz.ntmps80
    go_wp2
    go_ret
    exact ⟨rfl, rfl⟩
  by_cases h3 : op = 3
  · subst h3
    go_enter Tryz.func80, Tryz.ntmps80
    go_wp2
    go_ret
    exact ⟨rfl, rfl⟩
  by_cases h4 : op = 4
  · subst h4
    go_enter Tryz.func80, Tryz.ntmps80
    go_wp2
    go_ret
    exact ⟨rfl, rfl⟩
  by_cases h11 : op = 11
  · subst h11
    go_enter Tryz.func80, Tryz.ntmps80
    go_wp2
    go_ret
    exact ⟨rfl, rfl⟩
  have b1 : (op == 1) = false := by rw [beq_eq_false_iff_ne]; exact h1
  have b2 : (op == 2) = false := by rw [beq_eq_false_iff_ne]; exact h2
  have b3 : (op == 3) = false := by rw [beq_eq_false_iff_ne]; exact h3
  have b4 : (op == 4) = false := by rw [beq_eq_false_iff_ne]; exact h4
  have b11 : (op == 11) = false := by rw [beq_eq_false_iff_ne]; exact h11
  have H : Hid (takesN op = 2) := by show takesN op = 2; unfold takesN; rw [if_neg (by omega), if_neg (by omega)]
  clear h1 h2 h3 h4 h11
  go_enter Tryz.func80, Tryz.ntmps80
  go_wp2
  go_ret
  exact ⟨ret_int (by rw [H.out]; rfl), rfl⟩
theorem etruth_any (b : Bool) (w : World) : Calls Tryz.prog 48 #[.bool b] w fun e w' => e = .returned (.agg #[.int .i64 1, .int .i64 (truthN b), .string ⟨#[]⟩]) ∧ Below w.heap.size w w' := by
  cases b
  all_goals
    go_enter Tryz.func48, Tryz.ntmps48
    go_wp2_with fail
    try simp only [Exit.inBlock, Exit.then]
    refine bodyPost_ret (box_ret rfl rfl ((Bx.made _ _ _ _).alloc _)) rfl ?_
    exact ⟨rfl, below2 _ _ _⟩

theorem eret_pair {v : Vl} {e : Int} {p : Vl × Int} (h : p = (v, e)) : Ending.returned (.tuple #[.agg #[.int .i64 v.k, .int .i64 v.n, .string v.s], .int .i64 e]) = .returned (.tuple #[p.1.val, .int .i64 p.2]) := by rw [h]; rfl
set_option maxHeartbeats 1600000 in
theorem esingle_any {w : World} {R : Nat → Prop} {A : Option Addr} {n c : Nat} {l : List Vl} (h : Vls w R A n c l) :
    Calls Tryz.prog 132 #[.slice A n c] w fun e w' => e = .returned (.tuple #[(singleV l).1.val, .int .i64 (singleV l).2]) ∧ Below w.heap.size w w' := by
  have hle := Rw.le h
  have hcap := Rw.cap h
  have hlen := Rw.len h
  unfold maxLen at hcap
  by_cases h1 : n = 1
  · subst h1
    obtain ⟨v, rfl⟩ := List.length_eq_one_iff.1 hlen
    have h' := h.keep (w' := w.alloc (.cells #[.int .i64 0, .int .i64 0, .string ⟨#[]⟩] 40)) (Kept.all (below1 w _) R) (fun _ h _ => h)
    obtain ⟨b, o, x, rfl, hRb, hbl, hx, hok, x0, x1, x2⟩ := h'.at_ (j := 0) (by omega)
    simp at hx
    subst hx
    simp only [Nat.zero_mul, Nat.add_zero] at x0 x1 x2
    have HQ := Lib.hid (show singleV [v] = (v, 0) from rfl)
    have hR := (Bx.made w 0 0 ⟨#[]⟩)
    have c0 := hR.c3
    have f0 := hR.fz
    clear h hlen h' hRb hok
    go_enter Tryz.func132, Tryz.ntmps132
    go_wp2_with fail
    try simp only [Exit.inBlock, Exit.then]
    refine bodyPost_ret (box_ret2 rfl rfl rfl (Bx.made _ _ _ _)) rfl ?_
    exact ⟨eret_pair HQ.out, below1 _ _⟩
  · have HQ : Hid (singleV l = (noneV, 4)) := by
      show singleV l = _
      match l, hlen with
      | [], _ => rfl
      | [v], e => exact absurd e.symm h1
      | _ :: _ :: _, _ => rfl
    have hne : ((n : Int) != 1) = true := by rw [bne_iff_ne]; omega
    clear h hlen
    go_enter Tryz.func132, Tryz.ntmps132
    go_wp2_with fail
    try simp only [Exit.inBlock, Exit.then]
    refine bodyPost_ret (box_ret2 rfl rfl rfl (Bx.made _ _ _ _)) rfl ?_
    exact ⟨eret_pair (v := noneV) HQ.out, below1 _ _⟩

theorem part_ret {fn : Func} {p : Tmp} {tmps : Array Value} {w : World} {g : Nat} {A : Option Addr} {n c : Nat} {k m e : Int} {s : ByteArray} (h : fn.results = #[.cell p 148]) (hp : tmps.getD p undef = .pointer (some ⟨g, 0, none⟩)) (hg : Ob w g 148 #[.slice A n c, .int .i64 k, .int .i64 m, .string s, .int .i64 e]) :
    (results fn tmps).run Tryz.prog w = .ok (.agg #[.slice A n c, .int .i64 k, .int .i64 m, .string s, .int .i64 e]) w :=
  results_cell_row h tmps w g _ _ (0, 0) _ hp hg Tryz.underlying148 rfl (by kernel_rfl)
theorem ob_put5 {w : World} {g : Nat} {t : TypeId} {x0 x1 x2 x3 x4 : Value} (h : Ob w g t #[x0, x1, x2, x3, x4]) (a b c d e : Value) : Ob (((((w.setCell ⟨g, 0, none⟩ a).setCell ⟨g, 1, none⟩ b).setCell ⟨g, 2, none⟩ c).setCell ⟨g, 3, none⟩ d).setCell ⟨g, 4, none⟩ e) g t #[a, b, c, d, e] := by
  have := ((((h.put 0 a).put 1 b).put 2 c).put 3 d).put 4 e
  simpa using this
theorem below_put5 {w0 w : World} {g B : Nat} (h : Below B w0 w) (hg : B ≤ g) (a b c d e : Value) : Below B w0 (((((w.setCell ⟨g, 0, none⟩ a).setCell ⟨g, 1, none⟩ b).setCell ⟨g, 2, none⟩ c).setCell ⟨g, 3, none⟩ d).setCell ⟨g, 4, none⟩ e) :=
  ((((h.setCell (p := ⟨g, 0, none⟩) hg a).setCell (p := ⟨g, 1, none⟩) hg b).setCell (p := ⟨g, 2, none⟩) hg c).setCell (p := ⟨g, 3, none⟩) hg d).setCell (p := ⟨g, 4, none⟩) hg e
set_option maxRecDepth 100000 in
set_option maxHeartbeats 1600000 in
theorem eliteral_any (v : Vl) (hs : v.s.size ≤ 1000000) (w : World) :
    Calls Tryz.prog 105 #[.agg #[.int .i64 v.k, .int .i64 v.n, .string v.s]] w fun e w' => e = .returned (.agg #[.slice none 0 0, .int .i64 v.k, .int .i64 v.n, .string v.s, .int .i64 0]) ∧ Below w.heap.size w w' := by
  obtain ⟨k, n, s⟩ := v
  simp only at hs ⊢
  have HCL := Lib.hid (fun W => clone_any s W hs)
  have HSZ := Lib.hid (size_al w (.cells #[.int .i64 k, .int .i64 n, .string s] 40))
  go_enter Tryz.func105, Tryz.ntmps105
  go_wp2_with (go_at_call 82; refine (HCL.out _).mono ?_; rintro e w1 ⟨rfl, hb1⟩
               have R1 := Lib.hid (((Bx.made w k n s).alloc (.cells #[.slice none 0 0, .int .i64 0, .int .i64 0, .string ⟨#[]⟩, .int .i64 0] 148)).then_ hb1)
               have O1 := Lib.hid ((Ob.made (w.alloc (.cells #[.int .i64 k, .int .i64 n, .string s] 40)) 148 #[.slice none 0 0, .int .i64 0, .int .i64 0, .string ⟨#[]⟩, .int .i64 0]).below hb1 (by simp))
               have D1 := Lib.hid (Below.lit (Below.lit hb1))
               have c0 := R1.out.c3
               have f0 := R1.out.fz
               rw [HSZ.out] at O1
               have o0 := O1.out.cell
               have g0 := O1.out.frozen
               clear hb1)
  try simp only [Exit.inBlock, Exit.then]
  have O2 := O1.out.keep (w' := w1.setCell ⟨w.heap.size, 2, none⟩ (.string s)) (Below.heap_setCell w1 _ _ _ (by show w.heap.size + 1 ≠ w.heap.size; omega))
  refine bodyPost_ret (part_ret rfl rfl (ob_put5 O2 _ _ _ _ _)) rfl ?_
  exact ⟨rfl, below_put5 (D1.out.setCell (p := ⟨w.heap.size, 2, none⟩) (Nat.le_refl _) _) (by omega) _ _ _ _ _⟩
end Go.Proofs.YtmoglaknmlhpgaaGreat
/- What conditions come to, plainly: expressions behind each other, truths, what isn't asked for. -/
namespace Go.Proofs.YtmoglaknmlhpgaaGreat
set_option linter.unusedVariables false

def condV (v : Vl) : Int := if v = truthV true then 2 else if v = truthV false then 0 else 1
theorem truth_ne : truthV true ≠ truthV false := by decide
theorem condV_t : condV (truthV true) = 2 := if_pos rfl
theorem condV_f : condV (truthV false) = 0 := by unfold condV; rw [if_neg truth_ne.symm, if_pos rfl]
theorem condP_val {ask : List Giv} {l : List Nod} (hn : l ≠ []) : condP ask l = condV (valP ask l).1 := by unfold condP; rw [if_neg hn]; rfl
theorem condV_cases (v : Vl) : v = truthV true ∧ condV v = 2 ∨ v = truthV false ∧ condV v = 0 ∨ (v ≠ truthV true ∧ v ≠ truthV false) ∧ condV v = 1 := by
  by_cases h1 : v = truthV true
  · subst h1; exact .inl ⟨rfl, condV_t⟩
  · by_cases h2 : v = truthV false
    · subst h2; exact .inr (.inl ⟨rfl, condV_f⟩)
    · exact .inr (.inr ⟨⟨h1, h2⟩, by unfold condV; rw [if_neg h1, if_neg h2]⟩)
end Go.Proofs.YtmoglaknmlhpgaaGreat
/- decided: does one of both decide? -/
namespace Go.Proofs.YtmoglaknmlhpgaaGreat
set_option linter.unusedVariables false
open Go.RowKit

set_option maxHeartbeats 1600000 in
theorem edecided_no {op : Int} (h1 : op ≠ 12) (h2 : op ≠ 13) (A : Option Addr) (n c : Nat) (w : World) :
    Calls Tryz.prog 107 #[.int .i64 op, .slice A n c] w fun e w' => e = .returned (.tuple #[.agg #[.int .i64 0, .int .i64 0, .string ⟨#[]⟩], .bool false]) ∧ Below w.heap.size w w' := by
  have b1 : (op != 12) = true := by rw [bne_iff_ne]; exact h1
  have b2 : (op != 13) = true := by rw [bne_iff_ne]; exact h2
  clear h1 h2
  go_enter Tryz.func107, Tryz.ntmps107
  go_wp2_with fail
  try simp only [Exit.inBlock, Exit.then]
  refine bodyPost_ret (box_ret2 rfl rfl rfl (Bx.made _ _ _ _)) rfl ?_
  exact ⟨rfl, below1 _ _⟩
def decV (op : Int) : Vl := truthV (decide (op = 13))
set_option maxRecDepth 100000 in
set_option maxHeartbeats 3200000 in
theorem edecided_two {op : Int} (hop : op = 12 ∨ op = 13) {w : World} {R : Nat → Prop} {A : Option Addr} {c : Nat} {p q : Prt} (h : Prts w R A 2 c [p, q]) :
    Calls Tryz.prog 107 #[.int .i64 op, .slice A 2 c] w fun e w' => e = .returned (.tuple #[.agg #[.int .i64 (if decB op [p, q] = true then 1 else 0), .int .i64 (if decB op [p, q] = true then truthN (decide (op = 13)) else 0), .string ⟨#[]⟩], .bool (decB op [p, q])]) ∧ Below w.heap.size w w' := by
  have hle := Rw.le h
  have hcap := Rw.cap h
  unfold maxLen at hcap
  have HD : Hid (decB op [p, q] = (decide (p.v = decV op) || decide (q.v = decV op))) := by show _ = _; rcases hop with rfl | rfl <;> simp [decB, decV]
  have HT := Lib.hid (etruth_any (decide (op = 13)))
  obtain ⟨b, o, p0, A0, n0, c0, rfl, hRb, hbl, hx, hok, ⟨x0, x1, x2, x3, x4⟩, hin⟩ := h.at_ (j := 0) (by omega)
  obtain ⟨b', o', p1, A1, n1, c1, hA, _, _, hy, hok1, ⟨y0, y1, y2, y3, y4⟩, hin1⟩ := h.at_ (j := 1) (by omega)
  injection hA with hA
  injection hA with hA1 hA2
  subst hA1 hA2
  simp at hx hy
  subst hx hy
  simp only [Nat.zero_mul, Nat.add_zero] at x1 x2 x3
  simp only [Nat.one_mul] at y1 y2 y3
  have KX := Lib.hid (fun W (hW : Below w.heap.size w W) => (⟨(World.cell?_of_block (hW.block b hbl)).trans x1, (World.cell?_of_block (hW.block b hbl)).trans x2, (World.cell?_of_block (hW.block b hbl)).trans x3⟩ : _ ∧ _ ∧ _))
  have KY := Lib.hid (fun W (hW : Below w.heap.size w W) => (⟨(World.cell?_of_block (hW.block b hbl)).trans y1, (World.cell?_of_block (hW.block b hbl)).trans y2, (World.cell?_of_block (hW.block b hbl)).trans y3⟩ : _ ∧ _ ∧ _))
  have two : ∀ (tb : Bool) (tn : Int), (Hid (∀ W : World, Calls Tryz.prog 48 #[.bool tb] W fun e w' => e = .returned (.agg #[.int .i64 1, .int .i64 tn, .string ⟨#[]⟩]) ∧ Below W.heap.size W w')) → decV op = ⟨1, tn, ⟨#[]⟩⟩ → truthN (decide (op = 13)) = tn → ((op == 13) = tb) →
      Calls Tryz.prog 107 #[.int .i64 op, .slice (some ⟨b, o, none⟩) 2 c] w fun e w' => e = .returned (.tuple #[.agg #[.int .i64 (if decB op [p, q] = true then 1 else 0), .int .i64 (if decB op [p, q] = true then truthN (decide (op = 13)) else 0), .string ⟨#[]⟩], .bool (decB op [p, q])]) ∧ Below w.heap.size w w' := by
    intro tb tn HTB hdv htn htb
    rw [hdv] at HD
    rw [htn]
    have hopb : (op != 12 && op != 13) = false := by rcases hop with rfl | rfl <;> rfl
    obtain ⟨pb, ⟨pk, pn, ps⟩, pe⟩ := p
    obtain ⟨qb, ⟨qk, qn, qs⟩, qe⟩ := q
    simp only at KX KY HD
    have e1 := fun W => val_eq pk pn 1 tn ps ⟨#[]⟩ W
    have e2 := fun W => val_eq qk qn 1 tn qs ⟨#[]⟩ W
    generalize decB op _ = dd at *
    have HD' : Hid (dd = (veq ⟨pk, pn, ps⟩ ⟨1, tn, ⟨#[]⟩⟩ || veq ⟨qk, qn, qs⟩ ⟨1, tn, ⟨#[]⟩⟩)) := HD
    generalize veq ⟨pk, pn, ps⟩ ⟨1, tn, ⟨#[]⟩⟩ = v1 at *
    generalize veq ⟨qk, qn, qs⟩ ⟨1, tn, ⟨#[]⟩⟩ = v2 at *
    clear HD hin hin1 x0 x4 y0 y4 x1 x2 x3 y1 y2 y3 h hok hok1 hRb hdv htn HT hop
    obtain ⟨rk, rn, hrk, hrn⟩ : ∃ rk rn, (if dd = true then (1 : Int) else 0) = rk ∧ (if dd = true then tn else 0) = rn := ⟨_, _, rfl, rfl⟩
    rw [hrk, hrn]
    have HRK := Lib.hid hrk
    have HRN := Lib.hid hrn
    clear hrk hrn
    have fin : ∀ v1b v2b : Bool, v1 = v1b → v2 = v2b → Calls Tryz.prog 107 #[.int .i64 op, .slice (some ⟨b, o, none⟩) 2 c] w fun e w' => e = .returned (.tuple #[.agg #[.int .i64 rk, .int .i64 rn, .string ⟨#[]⟩], .bool dd]) ∧ Below w.heap.size w w' := by
      intro v1b v2b ev1 ev2
      subst ev1 ev2
      by_cases h12 : (op != 12) = true
      · have h13 : (op != 13) = false := by rw [h12] at hopb; simpa using hopb
        go_enter Tryz.func107, Tryz.ntmps107
        go_wp2_with (go_at_call 48; refine (HTB.out _).mono ?_; rintro e w1 ⟨rfl, hb1⟩; have B1 := Lib.hid hb1; have R1 := Lib.hid ((Bx.made w 0 0 ⟨#[]⟩).then_ hb1); clear hb1)
        have D2 : Below w.heap.size w (w1.alloc (.cells #[.int .i64 1, .int .i64 tn, .string ⟨#[]⟩] 40)) := (Below.lit B1.out).alloc (Below.lit B1.out).size _
        have KXW := KX.out _ D2
        have KYW := KY.out _ D2
        have z := (Bx.made w1 1 tn ⟨#[]⟩).c3
        have R2 := Lib.hid (R1.out.alloc (.cells #[.int .i64 1, .int .i64 tn, .string ⟨#[]⟩] 40))
        have D2' := Lib.hid D2
        have Z := Lib.hid (Bx.made w1 1 tn ⟨#[]⟩)
        clear D2 R1 KX KY
        generalize hW2 : w1.alloc (.cells #[.int .i64 1, .int .i64 tn, .string ⟨#[]⟩] 40) = W2 at *
        cases v1
        · simp only [Bool.false_or] at HD'
          have hdd := HD'.out
          subst hdd
          cases dd
          · go_quiet (fail)
            have f2 := (R2.out.drewN nq).fz
            have k2 := (R2.out.drewN nq).c3
            go_wp2_with fail
            try simp only [Exit.inBlock, Exit.then]
            refine bodyPost_ret (box_ret2 rfl rfl rfl ((R2.out.drewN nq).put _ _ _)) rfl ?_
            refine ⟨?_, below_put (below_drewN D2'.out nq) (Nat.le_refl _) _ _ _⟩
            rw [← HRK.out, ← HRN.out]
            rfl
          · go_quiet (fail)
            have f2 := (R2.out.drewN nq).fz
            have k2 := (R2.out.drewN nq).c3
            have z2 := (Z.out.drewN nq).c3
            go_wp2_with fail
            try simp only [Exit.inBlock, Exit.then]
            refine bodyPost_ret (box_ret2 rfl rfl rfl ((R2.out.drewN nq).put _ _ _)) rfl ?_
            refine ⟨?_, below_put (below_drewN D2'.out nq) (Nat.le_refl _) _ _ _⟩
            rw [← HRK.out, ← HRN.out]
            rfl
        · simp only [Bool.true_or] at HD'
          have hdd := HD'.out
          subst hdd
          go_quiet (fail)
          have f2 := (R2.out.drewN nq).fz
          have k2 := (R2.out.drewN nq).c3
          have z2 := (Z.out.drewN nq).c3
          go_wp2_with fail
          try simp only [Exit.inBlock, Exit.then]
          refine bodyPost_ret (box_ret2 rfl rfl rfl ((R2.out.drewN nq).put _ _ _)) rfl ?_
          refine ⟨?_, below_put (below_drewN D2'.out nq) (Nat.le_refl _) _ _ _⟩
          rw [← HRK.out, ← HRN.out]
          rfl
      · have h12 : (op != 12) = false := by simpa using h12
        go_enter Tryz.func107, Tryz.ntmps107
        go_wp2_with (go_at_call 48; refine (HTB.out _).mono ?_; rintro e w1 ⟨rfl, hb1⟩; have B1 := Lib.hid hb1; have R1 := Lib.hid ((Bx.made w 0 0 ⟨#[]⟩).then_ hb1); clear hb1)
        have D2 : Below w.heap.size w (w1.alloc (.cells #[.int .i64 1, .int .i64 tn, .string ⟨#[]⟩] 40)) := (Below.lit B1.out).alloc (Below.lit B1.out).size _
        have KXW := KX.out _ D2
        have KYW := KY.out _ D2
        have z := (Bx.made w1 1 tn ⟨#[]⟩).c3
        have R2 := Lib.hid (R1.out.alloc (.cells #[.int .i64 1, .int .i64 tn, .string ⟨#[]⟩] 40))
        have D2' := Lib.hid D2
        have Z := Lib.hid (Bx.made w1 1 tn ⟨#[]⟩)
        clear D2 R1 KX KY
        generalize hW2 : w1.alloc (.cells #[.int .i64 1, .int .i64 tn, .string ⟨#[]⟩] 40) = W2 at *
        cases v1
        · simp only [Bool.false_or] at HD'
          have hdd := HD'.out
          subst hdd
          cases dd
          · go_quiet (fail)
            have f2 := (R2.out.drewN nq).fz
            have k2 := (R2.out.drewN nq).c3
            go_wp2_with fail
            try simp only [Exit.inBlock, Exit.then]
            refine bodyPost_ret (box_ret2 rfl rfl rfl ((R2.out.drewN nq).put _ _ _)) rfl ?_
            refine ⟨?_, below_put (below_drewN D2'.out nq) (Nat.le_refl _) _ _ _⟩
            rw [← HRK.out, ← HRN.out]
            rfl
          · go_quiet (fail)
            have f2 := (R2.out.drewN nq).fz
            have k2 := (R2.out.drewN nq).c3
            have z2 := (Z.out.drewN nq).c3
            go_wp2_with fail
            try simp only [Exit.inBlock, Exit.then]
            refine bodyPost_ret (box_ret2 rfl rfl rfl ((R2.out.drewN nq).put _ _ _)) rfl ?_
            refine ⟨?_, below_put (below_drewN D2'.out nq) (Nat.le_refl _) _ _ _⟩
            rw [← HRK.out, ← HRN.out]
            rfl
        · simp only [Bool.true_or] at HD'
          have hdd := HD'.out
          subst hdd
          go_quiet (fail)
          have f2 := (R2.out.drewN nq).fz
          have k2 := (R2.out.drewN nq).c3
          have z2 := (Z.out.drewN nq).c3
          go_wp2_with fail
          try simp only [Exit.inBlock, Exit.then]
          refine bodyPost_ret (box_ret2 rfl rfl rfl ((R2.out.drewN nq).put _ _ _)) rfl ?_
          refine ⟨?_, below_put (below_drewN D2'.out nq) (Nat.le_refl _) _ _ _⟩
          rw [← HRK.out, ← HRN.out]
          rfl
    exact fin v1 v2 rfl rfl
  rcases hop with rfl | rfl
  · exact two false 0 HT rfl rfl rfl
  · exact two true 1 HT rfl rfl rfl
end Go.Proofs.YtmoglaknmlhpgaaGreat
/- Package fun: judge. -/
namespace Go.Proofs.YtmoglaknmlhpgaaGreat
set_option linter.unusedVariables false
open Go.RowKit

theorem eq_dec {a b : Int} : (a == b) = decide (a = b) := by rw [Bool.eq_iff_iff]; simp
set_option maxHeartbeats 3200000 in
theorem judge_any {w : World} {B n c : Nat} {A : Option Addr} {l : List Vl} (h : Vs w B A n c l) (hB : B ≤ w.heap.size) (hn : n ≤ 1000000) (hR : ∀ v ∈ l, v.right) (op : Int) :
    Calls Tryz.prog 151 #[.int .i64 op, .slice A n c] w fun e w' => e = .returned (.tuple #[(judgeL op l).1.val, .int .i64 (judgeL op l).2]) ∧ Below w.heap.size w w' := by
  have hlen := h.1
  have hcap := h.2.2.1
  have hle := h.2.1
  unfold maxLen at hcap
  have HV := Lib.hid h
  have HL := Lib.hid hlen
  have HR := Lib.hid hR
  clear h hlen hR
  go_enter Tryz.func151, Tryz.ntmps151
  go_wp2_with fail
  go_loopw [6, 11] (fun o i wr => ∃ (k : Nat) (m : Int), k ≤ n ∧ i = .int .i64 k ∧ o = .int .i64 m ∧ KindTo l k m ∧ Bx wr w.heap.size 0 0 ⟨#[]⟩ ∧ Below w.heap.size w wr) (fun _ i _ => n - (intOf i).toNat)
  case atStart => exact ⟨0, 0, Nat.zero_le _, rfl, rfl, ⟨rfl, rfl, Int.le_refl _, Int.le_refl _⟩, Bx.made _ _ _ _, below1 _ _⟩
  case round =>
    obtain ⟨k, m, hk, rfl, rfl, ht, hbx, hb⟩ := hrel
    have HT := Lib.hid ht
    have HB := Lib.hid hb
    have HX := Lib.hid hbx
    have m0 := ht.2.2.1
    have m1 := ht.2.2.2
    by_cases hlt : k < n
    · obtain ⟨b, o, x, rfl, hbB, hx, hok, x0, x1, x2⟩ := (HV.out.below (hb.mono hB)).at_ hlt
      obtain ⟨kx, nx, sx⟩ := x
      have HI := Lib.hid hx
      have D1 := Lib.hid (hb.alloc hb.size (.cells #[.int .i64 kx, .int .i64 nx, .string sx] 40))
      have R1 := Lib.hid (hbx.alloc (.cells #[.int .i64 kx, .int .i64 nx, .string sx] 40))
      have hr := HR.out _ (List.mem_of_getElem? hx)
      have HRX := Lib.hid hr
      have c0 := R1.out.c3
      have f0 := R1.out.fz
      by_cases h1 : kx = 1
      · subst h1
        have hn := truth_n hr rfl
        have hw : IntKind.i64.wrap (m + nx) = m + nx := IntWalk.i64_in _ (by have : nx = 0 ∨ nx = 1 := hn; omega)
        clear ht hb hx hok hbx hr hn
        go_wp2_with fail
        go_roundw
        case rel => exact ⟨k + 1, m + nx, by omega, by go_num, rfl, HT.out.step HI.out HRX.out rfl, R1.out, D1.out⟩
        case measure => simp [intOf]; omega
      · have hne : (kx != 1) = true := by rw [bne_iff_ne]; exact h1
        have H1 := Lib.hid h1
        clear ht hb hx hok hbx hr h1
        go_wp2_with fail
        try simp only [Exit.inBlock, Exit.then]
        refine bodyPost_ret (box_ret2 rfl rfl rfl (R1.out.put _ _ _)) rfl ?_
        exact ⟨ret_v (judge_bad (kinds_bad HI.out H1.out)), below_put D1.out (Nat.le_refl _) _ _ _⟩
    · obtain rfl : k = n := by omega
      have hj := judge_ok (op := op) HT.out HL.out
      clear ht hb hbx
      by_cases h11 : op = 11
      · subst h11
        rw [if_pos rfl] at hj
        have HJ := Lib.hid hj
        clear hj
        have c0 := HX.out.c3
        go_wp2_with fail
        refine (ftruth_any _ _).mono ?_
        rintro e w1 ⟨rfl, hb1⟩
        have R1 := Lib.hid (HX.out.then_ hb1)
        have D1 := Lib.hid (below_step HB.out hb1)
        have c := R1.out.c3
        have f := R1.out.fz
        clear hb1 c0
        go_wp2_with fail
        try simp only [Exit.inBlock, Exit.then]
        refine bodyPost_ret (box_ret2 rfl rfl rfl (R1.out.put _ _ _)) rfl ?_
        exact ⟨ret_v (HJ.out.trans (by first | rfl | rw [eq_dec] | rfl)), below_put D1.out (Nat.le_refl _) _ _ _⟩
      · have h11' : (op == 11) = false := by rw [beq_eq_false_iff_ne]; exact h11
        rw [if_neg h11] at hj
        by_cases h12 : op = 12
        · subst h12
          rw [if_pos rfl] at hj
          have HJ := Lib.hid hj
          clear hj h11
          have c0 := HX.out.c3
          go_wp2_with fail
          refine (ftruth_any _ _).mono ?_
          rintro e w1 ⟨rfl, hb1⟩
          have R1 := Lib.hid (HX.out.then_ hb1)
          have D1 := Lib.hid (below_step HB.out hb1)
          have c := R1.out.c3
          have f := R1.out.fz
          clear hb1 c0
          go_wp2_with fail
          try simp only [Exit.inBlock, Exit.then]
          refine bodyPost_ret (box_ret2 rfl rfl rfl (R1.out.put _ _ _)) rfl ?_
          exact ⟨ret_v (HJ.out.trans (by first | rfl | rw [eq_dec] | rfl)), below_put D1.out (Nat.le_refl _) _ _ _⟩
        · have h12' : (op == 12) = false := by rw [beq_eq_false_iff_ne]; exact h12
          rw [if_neg h12] at hj
          have HJ := Lib.hid hj
          clear hj h11 h12
          have c0 := HX.out.c3
          go_wp2_with fail
          refine (ftruth_any _ _).mono ?_
          rintro e w1 ⟨rfl, hb1⟩
          have R1 := Lib.hid (HX.out.then_ hb1)
          have D1 := Lib.hid (below_step HB.out hb1)
          have c := R1.out.c3
          have f := R1.out.fz
          clear hb1 c0
          go_wp2_with fail
          try simp only [Exit.inBlock, Exit.then]
          refine bodyPost_ret (box_ret2 rfl rfl rfl (R1.out.put _ _ _)) rfl ?_
          exact ⟨ret_v (HJ.out.trans (by first | rfl | rw [eq_dec] | rfl)), below_put D1.out (Nat.le_refl _) _ _ _⟩
end Go.Proofs.YtmoglaknmlhpgaaGreat
/- Package fun: number, reckon, Call. -/
namespace Go.Proofs.YtmoglaknmlhpgaaGreat
set_option linter.unusedVariables false
open Go.RowKit Go.Sort

theorem num_is {f a b x e : Int} {w : World} {id : FuncId} {p : Int × Int} (hp : p = (x, e)) (h : Calls Tryz.prog id #[.int .i64 a, .int .i64 b] w fun z w' => z = .returned (.tuple #[.int .i64 p.1, .int .i64 p.2]) ∧ w = w') :
    Calls Tryz.prog id #[.int .i64 a, .int .i64 b] w fun z w' => z = .returned (.tuple #[.int .i64 x, .int .i64 e]) ∧ w = w' := by rwa [hp] at h
theorem pair_is {id : FuncId} {args : Array Value} {w : World} {P : Vl × Int} {k n e : Int} {s : ByteArray} (hp : P = (⟨k, n, s⟩, e)) (h : Calls Tryz.prog id args w fun z w' => z = .returned (.tuple #[P.1.val, .int .i64 P.2]) ∧ Below w.heap.size w w') :
    Calls Tryz.prog id args w fun z w' => z = .returned (.tuple #[.agg #[.int .i64 k, .int .i64 n, .string s], .int .i64 e]) ∧ Below w.heap.size w w' := by
  rw [hp] at h
  exact h
theorem pair_of (P : Vl × Int) : ∃ k n s e, P = (⟨k, n, s⟩, e) := ⟨_, _, _, _, rfl⟩
theorem fnumber_any (op a b x e : Int) (ho : op = 8 ∨ op = 9 ∨ op = 10) (ha : In64 a) (hb : In64 b) (hx : fits (opF op a b) = (x, e)) (w : World) :
    Calls Tryz.prog 160 #[.int .i64 op, .int .i64 a, .int .i64 b] w fun z w' => z = .returned (.tuple #[.int .i64 x, .int .i64 e]) ∧ w = w' := by
  rcases ho with rfl | rfl | rfl
  · have C := Lib.hid (fun w => num_is (f := 0) hx (add_any a b ha hb w))
    clear ha hb hx
    go_enter Tryz.func160, Tryz.ntmps160
    go_wp2_with fail
    refine (C.out _).mono ?_
    rintro z w' ⟨rfl, rfl⟩
    go_wp2_with fail
    go_ret2
    exact ⟨rfl, rfl⟩
  · have C := Lib.hid (fun w => num_is (f := 0) hx (sub_any a b ha hb w))
    clear ha hb hx
    go_enter Tryz.func160, Tryz.ntmps160
    go_wp2_with fail
    refine (C.out _).mono ?_
    rintro z w' ⟨rfl, rfl⟩
    go_wp2_with fail
    go_ret2
    exact ⟨rfl, rfl⟩
  · have C := Lib.hid (fun w => num_is (f := 0) hx (mul_any a b ha hb w))
    clear ha hb hx
    go_enter Tryz.func160, Tryz.ntmps160
    go_wp2_with fail
    refine (C.out _).mono ?_
    rintro z w' ⟨rfl, rfl⟩
    go_wp2_with fail
    go_ret2
    exact ⟨rfl, rfl⟩

set_option maxHeartbeats 1600000 in
theorem reckon_any (op : Int) (a b : Vl) (ho : op = 8 ∨ op = 9 ∨ op = 10) (ha : In64 a.n) (hb : In64 b.n) (w : World) :
    Calls Tryz.prog 150 #[.int .i64 op, a.val, b.val] w fun z w' => z = .returned (.tuple #[(reckV op a b).1.val, .int .i64 (reckV op a b).2]) ∧ Below w.heap.size w w' := by
  obtain ⟨x, e, hx⟩ : ∃ x e, fits (opF op a.n b.n) = (x, e) := ⟨_, _, rfl⟩
  have C := Lib.hid (fnumber_any op a.n b.n x e ho ha hb hx)
  have HR : Hid (a.k = 2 → b.k = 2 → reckV op a b = if e = 0 then (numV x, 0) else (noneV, e)) := fun h1 h2 => by
    unfold reckV; rw [if_pos ⟨h1, h2⟩, hx]; rfl
  have HN : Hid (¬ (a.k = 2 ∧ b.k = 2) → reckV op a b = (noneV, 2)) := fun h => if_neg h
  clear ha hb hx ho
  generalize reckV op a b = R at *
  obtain ⟨k, n, s⟩ := a
  obtain ⟨k', n', s'⟩ := b
  show Calls _ _ #[_, .agg #[.int .i64 k, .int .i64 n, .string s], .agg #[.int .i64 k', .int .i64 n', .string s']] w _
  by_cases h1 : k = 2
  · by_cases h2 : k' = 2
    · subst h1 h2
      have hr := HR.out rfl rfl
      by_cases he : e = 0
      · subst he
        rw [if_pos rfl] at hr
        have HQ := Lib.hid hr
        clear hr HR HN
        go_enter Tryz.func150, Tryz.ntmps150
        go_wp2_with fail
        refine (C.out _).mono ?_
        rintro z w' ⟨rfl, rfl⟩
        go_wp2_with fail
        try simp only [Exit.inBlock, Exit.then]
        refine bodyPost_ret (box_ret2 rfl rfl rfl (box3 _ _ _ _ _ _)) rfl ?_
        exact ⟨ret_v HQ.out, below3 (Below.refl _ _)⟩
      · have he' : (e != 0) = true := by rw [bne_iff_ne]; exact he
        rw [if_neg he] at hr
        have HQ := Lib.hid hr
        clear hr HR HN he
        go_enter Tryz.func150, Tryz.ntmps150
        go_wp2_with fail
        refine (C.out _).mono ?_
        rintro z w' ⟨rfl, rfl⟩
        go_wp2_with fail
        try simp only [Exit.inBlock, Exit.then]
        refine bodyPost_ret (box_ret2 rfl rfl rfl (box3 _ _ _ _ _ _)) rfl ?_
        exact ⟨ret_v HQ.out, below3 (Below.refl _ _)⟩
    · have hk : (k' != 2) = true := by rw [bne_iff_ne]; exact h2
      subst h1
      have HQ := Lib.hid (HN.out fun h => h2 h.2)
      clear HR HN h2
      go_enter Tryz.func150, Tryz.ntmps150
      go_wp2_with fail
      try simp only [Exit.inBlock, Exit.then]
      refine bodyPost_ret (box_ret2 rfl rfl rfl (box3 _ _ _ _ _ _)) rfl ?_
      exact ⟨ret_v HQ.out, below3 (Below.refl _ _)⟩
  · have hk : (k != 2) = true := by rw [bne_iff_ne]; exact h1
    have HQ := Lib.hid (HN.out fun h => h1 h.1)
    clear HR HN h1
    go_enter Tryz.func150, Tryz.ntmps150
    go_wp2_with fail
    try simp only [Exit.inBlock, Exit.then]
    refine bodyPost_ret (box_ret2 rfl rfl rfl (box3 _ _ _ _ _ _)) rfl ?_
    exact ⟨ret_v HQ.out, below3 (Below.refl _ _)⟩

theorem known_is {op : Int} {b : Bool} (h : decide (6 ≤ op ∧ op ≤ 13) = b) (w : World) : Calls Tryz.prog 146 #[.int .i64 op] w fun e w' => e = .returned (.bool b) ∧ w = w' := by
  have := known_any op w
  rwa [h] at this
theorem takes_is {op : Int} {m : Int} (h : (needs op : Int) = m) (w : World) : Calls Tryz.prog 147 #[.int .i64 op] w fun e w' => e = .returned (.int .i64 m) ∧ w = w' := by
  have := ftakes_any op w
  rwa [h] at this
theorem allright_is {w : World} {B n c : Nat} {A : Option Addr} {l : List Vl} {b : Bool} (hb : allR l = b) (h : Vs w B A n c l) (hB : B ≤ w.heap.size) :
    Calls Tryz.prog 145 #[.slice A n c] w fun e w' => e = .returned (.bool b) ∧ Below w.heap.size w w' := by
  have := allright_any h hB
  rwa [hb] at this
theorem Vs.new {w : World} {B n c : Nat} {A : Option Addr} {l : List Vl} (h : Vs w B A n c l) (hB : B ≤ w.heap.size) (x : Obj) : Vs (w.alloc x) B A n c l := h.keep fun k hk => Below.heap_alloc w x k (by omega)

set_option maxHeartbeats 3200000 in
set_option maxRecDepth 100000 in
theorem call_bad1 {w : World} {B n c : Nat} {A : Option Addr} {l : List Vl} (h : Vs w B A n c l) (hB : B ≤ w.heap.size) (hn : n ≤ 1000000) (op : Int) (ha : allR l = false) :
    Calls Tryz.prog 134 #[.int .i64 op, .slice A n c] w fun e w' => e = .returned (.tuple #[(callV op l).1.val, .int .i64 (callV op l).2]) ∧ Below w.heap.size w w' := by
  have hlen := h.1
  have hcap := h.2.2.1
  have hle := h.2.1
  unfold maxLen at hcap
  have HV := Lib.hid (h.new hB (.cells #[.int .i64 0, .int .i64 0, .string ⟨#[]⟩] 40))
  have HBS : Hid (B ≤ (w.alloc (.cells #[.int .i64 0, .int .i64 0, .string ⟨#[]⟩] 40)).heap.size) := by show _ ≤ _; rw [size_al]; omega
  have HL := Lib.hid hlen
  have HA := Lib.hid ha
  have HQ := Lib.hid (call_bad (op := op) ha)
  clear ha h hlen hB
  go_enter Tryz.func134, Tryz.ntmps134
  go_wp2_with fail
  refine (allright_is HA.out HV.out HBS.out).mono ?_
  rintro e w1 ⟨rfl, hb1⟩
  have R1 := Lib.hid ((Bx.made w 0 0 ⟨#[]⟩).then_ hb1)
  have D1 := Lib.hid (Below.lit hb1)
  have V1 := Lib.hid ((HV.out.more HBS.out).then_ hb1)
  have c0 := R1.out.c3
  have f0 := R1.out.fz
  clear hb1
  go_wp2_with fail
  try simp only [Exit.inBlock, Exit.then]
  refine bodyPost_ret (box_ret2 rfl rfl rfl (R1.out.put _ _ _)) rfl ?_
  exact ⟨ret_v HQ.out, below_put D1.out (Nat.le_refl _) _ _ _⟩

set_option maxHeartbeats 3200000 in
set_option maxRecDepth 100000 in
theorem call_bad2 {w : World} {B n c : Nat} {A : Option Addr} {l : List Vl} (h : Vs w B A n c l) (hB : B ≤ w.heap.size) (hn : n ≤ 1000000) (op : Int) (ha : allR l = true) (hk : ¬ (6 ≤ op ∧ op ≤ 13)) :
    Calls Tryz.prog 134 #[.int .i64 op, .slice A n c] w fun e w' => e = .returned (.tuple #[(callV op l).1.val, .int .i64 (callV op l).2]) ∧ Below w.heap.size w w' := by
  have hlen := h.1
  have hcap := h.2.2.1
  have hle := h.2.1
  unfold maxLen at hcap
  have HV := Lib.hid (h.new hB (.cells #[.int .i64 0, .int .i64 0, .string ⟨#[]⟩] 40))
  have HBS : Hid (B ≤ (w.alloc (.cells #[.int .i64 0, .int .i64 0, .string ⟨#[]⟩] 40)).heap.size) := by show _ ≤ _; rw [size_al]; omega
  have HL := Lib.hid hlen
  have HA := Lib.hid ha
  have HQ := Lib.hid (call_op (l := l) hk)
  have HK := Lib.hid (decide_eq_false hk)
  clear ha h hlen hB hk
  go_enter Tryz.func134, Tryz.ntmps134
  go_wp2_with fail
  refine (allright_is HA.out HV.out HBS.out).mono ?_
  rintro e w1 ⟨rfl, hb1⟩
  have R1 := Lib.hid ((Bx.made w 0 0 ⟨#[]⟩).then_ hb1)
  have D1 := Lib.hid (Below.lit hb1)
  have V1 := Lib.hid ((HV.out.more HBS.out).then_ hb1)
  have c0 := R1.out.c3
  have f0 := R1.out.fz
  clear hb1
  go_wp2_with fail
  refine (known_is HK.out _).mono ?_
  rintro e w' ⟨rfl, rfl⟩
  go_wp2_with fail
  try simp only [Exit.inBlock, Exit.then]
  refine bodyPost_ret (box_ret2 rfl rfl rfl (R1.out.put _ _ _)) rfl ?_
  exact ⟨ret_v HQ.out, below_put D1.out (Nat.le_refl _) _ _ _⟩

set_option maxHeartbeats 3200000 in
set_option maxRecDepth 100000 in
theorem call_bad3 {w : World} {B n c : Nat} {A : Option Addr} {l : List Vl} (h : Vs w B A n c l) (hB : B ≤ w.heap.size) (hn : n ≤ 1000000) (op : Int) (ha : allR l = true) (hk : 6 ≤ op ∧ op ≤ 13) (hl : l.length ≠ needs op) :
    Calls Tryz.prog 134 #[.int .i64 op, .slice A n c] w fun e w' => e = .returned (.tuple #[(callV op l).1.val, .int .i64 (callV op l).2]) ∧ Below w.heap.size w w' := by
  have hlen := h.1
  have hcap := h.2.2.1
  have hle := h.2.1
  unfold maxLen at hcap
  have HV := Lib.hid (h.new hB (.cells #[.int .i64 0, .int .i64 0, .string ⟨#[]⟩] 40))
  have HBS : Hid (B ≤ (w.alloc (.cells #[.int .i64 0, .int .i64 0, .string ⟨#[]⟩] 40)).heap.size) := by show _ ≤ _; rw [size_al]; omega
  have HL := Lib.hid hlen
  have HA := Lib.hid ha
  have HQ := Lib.hid (call_len hl)
  have HK := Lib.hid (decide_eq_true hk)
  obtain ⟨m, hm⟩ : ∃ m : Int, (needs op : Int) = m := ⟨_, rfl⟩
  have HT := Lib.hid hm
  have hne : ((n : Int) != m) = true := by rw [bne_iff_ne]; omega
  clear ha h hlen hB hk hl hm
  go_enter Tryz.func134, Tryz.ntmps134
  go_wp2_with fail
  refine (allright_is HA.out HV.out HBS.out).mono ?_
  rintro e w1 ⟨rfl, hb1⟩
  have R1 := Lib.hid ((Bx.made w 0 0 ⟨#[]⟩).then_ hb1)
  have D1 := Lib.hid (Below.lit hb1)
  have V1 := Lib.hid ((HV.out.more HBS.out).then_ hb1)
  have c0 := R1.out.c3
  have f0 := R1.out.fz
  clear hb1
  go_wp2_with fail
  refine (known_is HK.out _).mono ?_
  rintro e w' ⟨rfl, rfl⟩
  go_wp2_with fail
  refine (takes_is HT.out _).mono ?_
  rintro e w' ⟨rfl, rfl⟩
  go_wp2_with fail
  try simp only [Exit.inBlock, Exit.then]
  refine bodyPost_ret (box_ret2 rfl rfl rfl (R1.out.put _ _ _)) rfl ?_
  exact ⟨ret_v HQ.out, below_put D1.out (Nat.le_refl _) _ _ _⟩

theorem two_of {l : List Vl} (h : l.length = 2) : ∃ a b, l = [a, b] := by
  match l, h with
  | [a, b], _ => exact ⟨a, b, rfl⟩
theorem one_of {l : List Vl} (h : l.length = 1) : ∃ a, l = [a] := by
  match l, h with
  | [a], _ => exact ⟨a, rfl⟩

set_option maxHeartbeats 3200000 in
set_option maxRecDepth 100000 in
theorem call_6 {w : World} {B c : Nat} {A : Option Addr} {a b : Vl} (h : Vs w B A 2 c [a, b]) (hB : B ≤ w.heap.size) (ha : allR [a, b] = true) :
    Calls Tryz.prog 134 #[.int .i64 6, .slice A 2 c] w fun e w' => e = .returned (.tuple #[(callV 6 [a, b]).1.val, .int .i64 (callV 6 [a, b]).2]) ∧ Below w.heap.size w w' := by
  have hlen := h.1
  have hcap := h.2.2.1
  have hle := h.2.1
  unfold maxLen at hcap
  have HV := Lib.hid (h.new hB (.cells #[.int .i64 0, .int .i64 0, .string ⟨#[]⟩] 40))
  have HBS : Hid (B ≤ (w.alloc (.cells #[.int .i64 0, .int .i64 0, .string ⟨#[]⟩] 40)).heap.size) := by show _ ≤ _; rw [size_al]; omega
  have HL := Lib.hid hlen
  have HA := Lib.hid ha
  have hq : callV 6 [a, b] = sameV a b := (call_ok ha (by decide) rfl).trans rfl
  obtain ⟨rk, rn, rs, re, hp⟩ := pair_of (sameV a b)
  have HQ := Lib.hid (hq.trans hp)
  have HP := Lib.hid hp
  have OA := Lib.hid (h.2.2.2.2 a (by simp))
  have OB := Lib.hid (h.2.2.2.2 b (by simp))
  have RA := Lib.hid (allR_iff.1 ha a (by simp))
  have RB := Lib.hid (allR_iff.1 ha b (by simp))
  have HK : Hid (decide (6 ≤ (6 : Int) ∧ (6 : Int) ≤ 13) = true) := by show _ = _; decide
  have HT : Hid ((needs 6 : Int) = 2) := rfl
  clear ha h hlen hB hq hp
  generalize callV 6 [a, b] = RR at *
  go_enter Tryz.func134, Tryz.ntmps134
  go_wp2_with fail
  refine (allright_is HA.out HV.out HBS.out).mono ?_
  rintro e w1 ⟨rfl, hb1⟩
  have R1 := Lib.hid ((Bx.made w 0 0 ⟨#[]⟩).then_ hb1)
  have D1 := Lib.hid (Below.lit hb1)
  have V1 := Lib.hid ((HV.out.more HBS.out).then_ hb1)
  have c0 := R1.out.c3
  have f0 := R1.out.fz
  clear hb1
  go_wp2_with fail
  refine (known_is HK.out _).mono ?_
  rintro e w' ⟨rfl, rfl⟩
  go_wp2_with fail
  refine (takes_is HT.out _).mono ?_
  rintro e w' ⟨rfl, rfl⟩
  obtain ⟨b0, o0, x, hA, hbB, hx, hok, x0, x1, x2⟩ := V1.out.at_ (k := 0) (by omega)
  subst hA
  obtain ⟨b1, o1, y, hA', _, hy, _, y0, y1, y2⟩ := V1.out.at_ (k := 1) (by omega)
  injection hA' with hA'
  injection hA' with e1 e2
  subst e1 e2
  obtain rfl : a = x := Option.some.inj hx
  obtain rfl : b = y := Option.some.inj hy
  simp only [Nat.zero_mul, Nat.one_mul, Nat.add_zero] at x0 x1 x2 y0 y1 y2
  clear hx hy hok
  have QC := Lib.hid (fun d os => Calls.regrown_of (w := w1) (d := d) (os := os) (pair_is HP.out (same_any a b (grow (redrawn w1 d) os))))
  obtain ⟨k, n, s⟩ := a
  obtain ⟨k', n', s'⟩ := b
  go_wp2_with fail
  have z0 := fun d os => cell_regrown x0 d os
  have z1 := fun d os => cell_regrown x1 d os
  have z2 := fun d os => cell_regrown x2 d os
  have z3 := fun d os => cell_regrown y0 d os
  have z4 := fun d os => cell_regrown y1 d os
  have z5 := fun d os => cell_regrown y2 d os
  refine wp_region_below_tail 9 (by kernel_rfl) (by kernel_rfl) ?_
  simp only [List.take_succ_cons, List.take_zero, List.drop_succ_cons, List.drop_zero]
  repeat (go_big_quiet_step ((go_at_call 148; exact QC.out _ _)))
  refine wpQuiet_nil ?_
  intro _ hw'
  obtain ⟨⟨dq, osq⟩, hw''⟩ := hw'
  subst hw''
  have hbel := below_regrown w1 dq osq
  have R3 := Lib.hid (R1.out.then_ hbel)
  have D3 := Lib.hid (below_step D1.out hbel)
  clear hbel c0 f0 R1 D1 z0 z1 z2 z3 z4 z5 QC
  have c0 := R3.out.c3
  have f0 := R3.out.fz
  go_wp2_with fail
  try simp only [Exit.inBlock, Exit.then]
  refine bodyPost_ret (box_ret2 rfl rfl rfl (R3.out.put _ _ _)) rfl ?_
  exact ⟨ret_v HQ.out, below_put D3.out (Nat.le_refl _) _ _ _⟩

set_option maxHeartbeats 3200000 in
set_option maxRecDepth 100000 in
theorem call_7 {w : World} {B c : Nat} {A : Option Addr} {a b : Vl} (h : Vs w B A 2 c [a, b]) (hB : B ≤ w.heap.size) (ha : allR [a, b] = true) :
    Calls Tryz.prog 134 #[.int .i64 7, .slice A 2 c] w fun e w' => e = .returned (.tuple #[(callV 7 [a, b]).1.val, .int .i64 (callV 7 [a, b]).2]) ∧ Below w.heap.size w w' := by
  have hlen := h.1
  have hcap := h.2.2.1
  have hle := h.2.1
  unfold maxLen at hcap
  have HV := Lib.hid (h.new hB (.cells #[.int .i64 0, .int .i64 0, .string ⟨#[]⟩] 40))
  have HBS : Hid (B ≤ (w.alloc (.cells #[.int .i64 0, .int .i64 0, .string ⟨#[]⟩] 40)).heap.size) := by show _ ≤ _; rw [size_al]; omega
  have HL := Lib.hid hlen
  have HA := Lib.hid ha
  have hq : callV 7 [a, b] = lessV a b := (call_ok ha (by decide) rfl).trans rfl
  obtain ⟨rk, rn, rs, re, hp⟩ := pair_of (lessV a b)
  have HQ := Lib.hid (hq.trans hp)
  have HP := Lib.hid hp
  have OA := Lib.hid (h.2.2.2.2 a (by simp))
  have OB := Lib.hid (h.2.2.2.2 b (by simp))
  have RA := Lib.hid (allR_iff.1 ha a (by simp))
  have RB := Lib.hid (allR_iff.1 ha b (by simp))
  have HK : Hid (decide (6 ≤ (7 : Int) ∧ (7 : Int) ≤ 13) = true) := by show _ = _; decide
  have HT : Hid ((needs 7 : Int) = 2) := rfl
  clear ha h hlen hB hq hp
  generalize callV 7 [a, b] = RR at *
  go_enter Tryz.func134, Tryz.ntmps134
  go_wp2_with fail
  refine (allright_is HA.out HV.out HBS.out).mono ?_
  rintro e w1 ⟨rfl, hb1⟩
  have R1 := Lib.hid ((Bx.made w 0 0 ⟨#[]⟩).then_ hb1)
  have D1 := Lib.hid (Below.lit hb1)
  have V1 := Lib.hid ((HV.out.more HBS.out).then_ hb1)
  have c0 := R1.out.c3
  have f0 := R1.out.fz
  clear hb1
  go_wp2_with fail
  refine (known_is HK.out _).mono ?_
  rintro e w' ⟨rfl, rfl⟩
  go_wp2_with fail
  refine (takes_is HT.out _).mono ?_
  rintro e w' ⟨rfl, rfl⟩
  obtain ⟨b0, o0, x, hA, hbB, hx, hok, x0, x1, x2⟩ := V1.out.at_ (k := 0) (by omega)
  subst hA
  obtain ⟨b1, o1, y, hA', _, hy, _, y0, y1, y2⟩ := V1.out.at_ (k := 1) (by omega)
  injection hA' with hA'
  injection hA' with e1 e2
  subst e1 e2
  obtain rfl : a = x := Option.some.inj hx
  obtain rfl : b = y := Option.some.inj hy
  simp only [Nat.zero_mul, Nat.one_mul, Nat.add_zero] at x0 x1 x2 y0 y1 y2
  clear hx hy hok
  have QC := Lib.hid (fun d os => Calls.regrown_of (w := w1) (d := d) (os := os) (pair_is HP.out (fless_any a b OA.out.2.2 OB.out.2.2 (grow (redrawn w1 d) os))))
  obtain ⟨k, n, s⟩ := a
  obtain ⟨k', n', s'⟩ := b
  go_wp2_with fail
  have z0 := fun d os => cell_regrown x0 d os
  have z1 := fun d os => cell_regrown x1 d os
  have z2 := fun d os => cell_regrown x2 d os
  have z3 := fun d os => cell_regrown y0 d os
  have z4 := fun d os => cell_regrown y1 d os
  have z5 := fun d os => cell_regrown y2 d os
  refine wp_region_below_tail 9 (by kernel_rfl) (by kernel_rfl) ?_
  simp only [List.take_succ_cons, List.take_zero, List.drop_succ_cons, List.drop_zero]
  repeat (go_big_quiet_step ((go_at_call 149; exact QC.out _ _)))
  refine wpQuiet_nil ?_
  intro _ hw'
  obtain ⟨⟨dq, osq⟩, hw''⟩ := hw'
  subst hw''
  have hbel := below_regrown w1 dq osq
  have R3 := Lib.hid (R1.out.then_ hbel)
  have D3 := Lib.hid (below_step D1.out hbel)
  clear hbel c0 f0 R1 D1 z0 z1 z2 z3 z4 z5 QC
  have c0 := R3.out.c3
  have f0 := R3.out.fz
  go_wp2_with fail
  try simp only [Exit.inBlock, Exit.then]
  refine bodyPost_ret (box_ret2 rfl rfl rfl (R3.out.put _ _ _)) rfl ?_
  exact ⟨ret_v HQ.out, below_put D3.out (Nat.le_refl _) _ _ _⟩

set_option maxHeartbeats 3200000 in
set_option maxRecDepth 100000 in
theorem call_8 {w : World} {B c : Nat} {A : Option Addr} {a b : Vl} (h : Vs w B A 2 c [a, b]) (hB : B ≤ w.heap.size) (ha : allR [a, b] = true) :
    Calls Tryz.prog 134 #[.int .i64 8, .slice A 2 c] w fun e w' => e = .returned (.tuple #[(callV 8 [a, b]).1.val, .int .i64 (callV 8 [a, b]).2]) ∧ Below w.heap.size w w' := by
  have hlen := h.1
  have hcap := h.2.2.1
  have hle := h.2.1
  unfold maxLen at hcap
  have HV := Lib.hid (h.new hB (.cells #[.int .i64 0, .int .i64 0, .string ⟨#[]⟩] 40))
  have HBS : Hid (B ≤ (w.alloc (.cells #[.int .i64 0, .int .i64 0, .string ⟨#[]⟩] 40)).heap.size) := by show _ ≤ _; rw [size_al]; omega
  have HL := Lib.hid hlen
  have HA := Lib.hid ha
  have hq : callV 8 [a, b] = reckV 8 a b := (call_ok ha (by decide) rfl).trans rfl
  obtain ⟨rk, rn, rs, re, hp⟩ := pair_of (reckV 8 a b)
  have HQ := Lib.hid (hq.trans hp)
  have HP := Lib.hid hp
  have OA := Lib.hid (h.2.2.2.2 a (by simp))
  have OB := Lib.hid (h.2.2.2.2 b (by simp))
  have RA := Lib.hid (allR_iff.1 ha a (by simp))
  have RB := Lib.hid (allR_iff.1 ha b (by simp))
  have HK : Hid (decide (6 ≤ (8 : Int) ∧ (8 : Int) ≤ 13) = true) := by show _ = _; decide
  have HT : Hid ((needs 8 : Int) = 2) := rfl
  clear ha h hlen hB hq hp
  generalize callV 8 [a, b] = RR at *
  go_enter Tryz.func134, Tryz.ntmps134
  go_wp2_with fail
  refine (allright_is HA.out HV.out HBS.out).mono ?_
  rintro e w1 ⟨rfl, hb1⟩
  have R1 := Lib.hid ((Bx.made w 0 0 ⟨#[]⟩).then_ hb1)
  have D1 := Lib.hid (Below.lit hb1)
  have V1 := Lib.hid ((HV.out.more HBS.out).then_ hb1)
  have c0 := R1.out.c3
  have f0 := R1.out.fz
  clear hb1
  go_wp2_with fail
  refine (known_is HK.out _).mono ?_
  rintro e w' ⟨rfl, rfl⟩
  go_wp2_with fail
  refine (takes_is HT.out _).mono ?_
  rintro e w' ⟨rfl, rfl⟩
  obtain ⟨b0, o0, x, hA, hbB, hx, hok, x0, x1, x2⟩ := V1.out.at_ (k := 0) (by omega)
  subst hA
  obtain ⟨b1, o1, y, hA', _, hy, _, y0, y1, y2⟩ := V1.out.at_ (k := 1) (by omega)
  injection hA' with hA'
  injection hA' with e1 e2
  subst e1 e2
  obtain rfl : a = x := Option.some.inj hx
  obtain rfl : b = y := Option.some.inj hy
  simp only [Nat.zero_mul, Nat.one_mul, Nat.add_zero] at x0 x1 x2 y0 y1 y2
  clear hx hy hok
  have QC := Lib.hid (fun d os => Calls.regrown_of (w := w1) (d := d) (os := os) (pair_is HP.out (reckon_any 8 a b (.inl rfl) OA.out.2.1 OB.out.2.1 (grow (redrawn w1 d) os))))
  obtain ⟨k, n, s⟩ := a
  obtain ⟨k', n', s'⟩ := b
  go_wp2_with fail
  have z0 := fun d os => cell_regrown x0 d os
  have z1 := fun d os => cell_regrown x1 d os
  have z2 := fun d os => cell_regrown x2 d os
  have z3 := fun d os => cell_regrown y0 d os
  have z4 := fun d os => cell_regrown y1 d os
  have z5 := fun d os => cell_regrown y2 d os
  refine wp_region_below_tail 10 (by kernel_rfl) (by kernel_rfl) ?_
  simp only [List.take_succ_cons, List.take_zero, List.drop_succ_cons, List.drop_zero]
  repeat (go_big_quiet_step ((go_at_call 150; exact QC.out _ _)))
  refine wpQuiet_nil ?_
  intro _ hw'
  obtain ⟨⟨dq, osq⟩, hw''⟩ := hw'
  subst hw''
  have hbel := below_regrown w1 dq osq
  have R3 := Lib.hid (R1.out.then_ hbel)
  have D3 := Lib.hid (below_step D1.out hbel)
  clear hbel c0 f0 R1 D1 z0 z1 z2 z3 z4 z5 QC
  have c0 := R3.out.c3
  have f0 := R3.out.fz
  go_wp2_with fail
  try simp only [Exit.inBlock, Exit.then]
  refine bodyPost_ret (box_ret2 rfl rfl rfl (R3.out.put _ _ _)) rfl ?_
  exact ⟨ret_v HQ.out, below_put D3.out (Nat.le_refl _) _ _ _⟩

set_option maxHeartbeats 3200000 in
set_option maxRecDepth 100000 in
theorem call_9 {w : World} {B c : Nat} {A : Option Addr} {a b : Vl} (h : Vs w B A 2 c [a, b]) (hB : B ≤ w.heap.size) (ha : allR [a, b] = true) :
    Calls Tryz.prog 134 #[.int .i64 9, .slice A 2 c] w fun e w' => e = .returned (.tuple #[(callV 9 [a, b]).1.val, .int .i64 (callV 9 [a, b]).2]) ∧ Below w.heap.size w w' := by
  have hlen := h.1
  have hcap := h.2.2.1
  have hle := h.2.1
  unfold maxLen at hcap
  have HV := Lib.hid (h.new hB (.cells #[.int .i64 0, .int .i64 0, .string ⟨#[]⟩] 40))
  have HBS : Hid (B ≤ (w.alloc (.cells #[.int .i64 0, .int .i64 0, .string ⟨#[]⟩] 40)).heap.size) := by show _ ≤ _; rw [size_al]; omega
  have HL := Lib.hid hlen
  have HA := Lib.hid ha
  have hq : callV 9 [a, b] = reckV 9 a b := (call_ok ha (by decide) rfl).trans rfl
  obtain ⟨rk, rn, rs, re, hp⟩ := pair_of (reckV 9 a b)
  have HQ := Lib.hid (hq.trans hp)
  have HP := Lib.hid hp
  have OA := Lib.hid (h.2.2.2.2 a (by simp))
  have OB := Lib.hid (h.2.2.2.2 b (by simp))
  have RA := Lib.hid (allR_iff.1 ha a (by simp))
  have RB := Lib.hid (allR_iff.1 ha b (by simp))
  have HK : Hid (decide (6 ≤ (9 : Int) ∧ (9 : Int) ≤ 13) = true) := by show _ = _; decide
  have HT : Hid ((needs 9 : Int) = 2) := rfl
  clear ha h hlen hB hq hp
  generalize callV 9 [a, b] = RR at *
  go_enter Tryz.func134, Tryz.ntmps134
  go_wp2_with fail
  refine (allright_is HA.out HV.out HBS.out).mono ?_
  rintro e w1 ⟨rfl, hb1⟩
  have R1 := Lib.hid ((Bx.made w 0 0 ⟨#[]⟩).then_ hb1)
  have D1 := Lib.hid (Below.lit hb1)
  have V1 := Lib.hid ((HV.out.more HBS.out).then_ hb1)
  have c0 := R1.out.c3
  have f0 := R1.out.fz
  clear hb1
  go_wp2_with fail
  refine (known_is HK.out _).mono ?_
  rintro e w' ⟨rfl, rfl⟩
  go_wp2_with fail
  refine (takes_is HT.out _).mono ?_
  rintro e w' ⟨rfl, rfl⟩
  obtain ⟨b0, o0, x, hA, hbB, hx, hok, x0, x1, x2⟩ := V1.out.at_ (k := 0) (by omega)
  subst hA
  obtain ⟨b1, o1, y, hA', _, hy, _, y0, y1, y2⟩ := V1.out.at_ (k := 1) (by omega)
  injection hA' with hA'
  injection hA' with e1 e2
  subst e1 e2
  obtain rfl : a = x := Option.some.inj hx
  obtain rfl : b = y := Option.some.inj hy
  simp only [Nat.zero_mul, Nat.one_mul, Nat.add_zero] at x0 x1 x2 y0 y1 y2
  clear hx hy hok
  have QC := Lib.hid (fun d os => Calls.regrown_of (w := w1) (d := d) (os := os) (pair_is HP.out (reckon_any 9 a b (.inr (.inl rfl)) OA.out.2.1 OB.out.2.1 (grow (redrawn w1 d) os))))
  obtain ⟨k, n, s⟩ := a
  obtain ⟨k', n', s'⟩ := b
  go_wp2_with fail
  have z0 := fun d os => cell_regrown x0 d os
  have z1 := fun d os => cell_regrown x1 d os
  have z2 := fun d os => cell_regrown x2 d os
  have z3 := fun d os => cell_regrown y0 d os
  have z4 := fun d os => cell_regrown y1 d os
  have z5 := fun d os => cell_regrown y2 d os
  refine wp_region_below_tail 10 (by kernel_rfl) (by kernel_rfl) ?_
  simp only [List.take_succ_cons, List.take_zero, List.drop_succ_cons, List.drop_zero]
  repeat (go_big_quiet_step ((go_at_call 150; exact QC.out _ _)))
  refine wpQuiet_nil ?_
  intro _ hw'
  obtain ⟨⟨dq, osq⟩, hw''⟩ := hw'
  subst hw''
  have hbel := below_regrown w1 dq osq
  have R3 := Lib.hid (R1.out.then_ hbel)
  have D3 := Lib.hid (below_step D1.out hbel)
  clear hbel c0 f0 R1 D1 z0 z1 z2 z3 z4 z5 QC
  have c0 := R3.out.c3
  have f0 := R3.out.fz
  go_wp2_with fail
  try simp only [Exit.inBlock, Exit.then]
  refine bodyPost_ret (box_ret2 rfl rfl rfl (R3.out.put _ _ _)) rfl ?_
  exact ⟨ret_v HQ.out, below_put D3.out (Nat.le_refl _) _ _ _⟩

set_option maxHeartbeats 3200000 in
set_option maxRecDepth 100000 in
theorem call_10 {w : World} {B c : Nat} {A : Option Addr} {a b : Vl} (h : Vs w B A 2 c [a, b]) (hB : B ≤ w.heap.size) (ha : allR [a, b] = true) :
    Calls Tryz.prog 134 #[.int .i64 10, .slice A 2 c] w fun e w' => e = .returned (.tuple #[(callV 10 [a, b]).1.val, .int .i64 (callV 10 [a, b]).2]) ∧ Below w.heap.size w w' := by
  have hlen := h.1
  have hcap := h.2.2.1
  have hle := h.2.1
  unfold maxLen at hcap
  have HV := Lib.hid (h.new hB (.cells #[.int .i64 0, .int .i64 0, .string ⟨#[]⟩] 40))
  have HBS : Hid (B ≤ (w.alloc (.cells #[.int .i64 0, .int .i64 0, .string ⟨#[]⟩] 40)).heap.size) := by show _ ≤ _; rw [size_al]; omega
  have HL := Lib.hid hlen
  have HA := Lib.hid ha
  have hq : callV 10 [a, b] = reckV 10 a b := (call_ok ha (by decide) rfl).trans rfl
  obtain ⟨rk, rn, rs, re, hp⟩ := pair_of (reckV 10 a b)
  have HQ := Lib.hid (hq.trans hp)
  have HP := Lib.hid hp
  have OA := Lib.hid (h.2.2.2.2 a (by simp))
  have OB := Lib.hid (h.2.2.2.2 b (by simp))
  have RA := Lib.hid (allR_iff.1 ha a (by simp))
  have RB := Lib.hid (allR_iff.1 ha b (by simp))
  have HK : Hid (decide (6 ≤ (10 : Int) ∧ (10 : Int) ≤ 13) = true) := by show _ = _; decide
  have HT : Hid ((needs 10 : Int) = 2) := rfl
  clear ha h hlen hB hq hp
  generalize callV 10 [a, b] = RR at *
  go_enter Tryz.func134, Tryz.ntmps134
  go_wp2_with fail
  refine (allright_is HA.out HV.out HBS.out).mono ?_
  rintro e w1 ⟨rfl, hb1⟩
  have R1 := Lib.hid ((Bx.made w 0 0 ⟨#[]⟩).then_ hb1)
  have D1 := Lib.hid (Below.lit hb1)
  have V1 := Lib.hid ((HV.out.more HBS.out).then_ hb1)
  have c0 := R1.out.c3
  have f0 := R1.out.fz
  clear hb1
  go_wp2_with fail
  refine (known_is HK.out _).mono ?_
  rintro e w' ⟨rfl, rfl⟩
  go_wp2_with fail
  refine (takes_is HT.out _).mono ?_
  rintro e w' ⟨rfl, rfl⟩
  obtain ⟨b0, o0, x, hA, hbB, hx, hok, x0, x1, x2⟩ := V1.out.at_ (k := 0) (by omega)
  subst hA
  obtain ⟨b1, o1, y, hA', _, hy, _, y0, y1, y2⟩ := V1.out.at_ (k := 1) (by omega)
  injection hA' with hA'
  injection hA' with e1 e2
  subst e1 e2
  obtain rfl : a = x := Option.some.inj hx
  obtain rfl : b = y := Option.some.inj hy
  simp only [Nat.zero_mul, Nat.one_mul, Nat.add_zero] at x0 x1 x2 y0 y1 y2
  clear hx hy hok
  have QC := Lib.hid (fun d os => Calls.regrown_of (w := w1) (d := d) (os := os) (pair_is HP.out (reckon_any 10 a b (.inr (.inr rfl)) OA.out.2.1 OB.out.2.1 (grow (redrawn w1 d) os))))
  obtain ⟨k, n, s⟩ := a
  obtain ⟨k', n', s'⟩ := b
  go_wp2_with fail
  have z0 := fun d os => cell_regrown x0 d os
  have z1 := fun d os => cell_regrown x1 d os
  have z2 := fun d os => cell_regrown x2 d os
  have z3 := fun d os => cell_regrown y0 d os
  have z4 := fun d os => cell_regrown y1 d os
  have z5 := fun d os => cell_regrown y2 d os
  refine wp_region_below_tail 10 (by kernel_rfl) (by kernel_rfl) ?_
  simp only [List.take_succ_cons, List.take_zero, List.drop_succ_cons, List.drop_zero]
  repeat (go_big_quiet_step ((go_at_call 150; exact QC.out _ _)))
  refine wpQuiet_nil ?_
  intro _ hw'
  obtain ⟨⟨dq, osq⟩, hw''⟩ := hw'
  subst hw''
  have hbel := below_regrown w1 dq osq
  have R3 := Lib.hid (R1.out.then_ hbel)
  have D3 := Lib.hid (below_step D1.out hbel)
  clear hbel c0 f0 R1 D1 z0 z1 z2 z3 z4 z5 QC
  have c0 := R3.out.c3
  have f0 := R3.out.fz
  go_wp2_with fail
  try simp only [Exit.inBlock, Exit.then]
  refine bodyPost_ret (box_ret2 rfl rfl rfl (R3.out.put _ _ _)) rfl ?_
  exact ⟨ret_v HQ.out, below_put D3.out (Nat.le_refl _) _ _ _⟩

set_option maxHeartbeats 3200000 in
set_option maxRecDepth 100000 in
theorem call_12 {w : World} {B c : Nat} {A : Option Addr} {a b : Vl} (h : Vs w B A 2 c [a, b]) (hB : B ≤ w.heap.size) (ha : allR [a, b] = true) :
    Calls Tryz.prog 134 #[.int .i64 12, .slice A 2 c] w fun e w' => e = .returned (.tuple #[(callV 12 [a, b]).1.val, .int .i64 (callV 12 [a, b]).2]) ∧ Below w.heap.size w w' := by
  have hlen := h.1
  have hcap := h.2.2.1
  have hle := h.2.1
  unfold maxLen at hcap
  have HV := Lib.hid (h.new hB (.cells #[.int .i64 0, .int .i64 0, .string ⟨#[]⟩] 40))
  have HBS : Hid (B ≤ (w.alloc (.cells #[.int .i64 0, .int .i64 0, .string ⟨#[]⟩] 40)).heap.size) := by show _ ≤ _; rw [size_al]; omega
  have HL := Lib.hid hlen
  have HA := Lib.hid ha
  have hq : callV 12 [a, b] = bothV 12 a b := (call_ok ha (by decide) rfl).trans rfl
  obtain ⟨rk, rn, rs, re, hp⟩ := pair_of (bothV 12 a b)
  have HQ := Lib.hid (hq.trans hp)
  have HP := Lib.hid hp
  have OA := Lib.hid (h.2.2.2.2 a (by simp))
  have OB := Lib.hid (h.2.2.2.2 b (by simp))
  have RA := Lib.hid (allR_iff.1 ha a (by simp))
  have RB := Lib.hid (allR_iff.1 ha b (by simp))
  have HK : Hid (decide (6 ≤ (12 : Int) ∧ (12 : Int) ≤ 13) = true) := by show _ = _; decide
  have HT : Hid ((needs 12 : Int) = 2) := rfl
  clear ha h hlen hB hq hp
  generalize callV 12 [a, b] = RR at *
  go_enter Tryz.func134, Tryz.ntmps134
  go_wp2_with fail
  refine (allright_is HA.out HV.out HBS.out).mono ?_
  rintro e w1 ⟨rfl, hb1⟩
  have R1 := Lib.hid ((Bx.made w 0 0 ⟨#[]⟩).then_ hb1)
  have D1 := Lib.hid (Below.lit hb1)
  have V1 := Lib.hid ((HV.out.more HBS.out).then_ hb1)
  have c0 := R1.out.c3
  have f0 := R1.out.fz
  clear hb1
  go_wp2_with fail
  refine (known_is HK.out _).mono ?_
  rintro e w' ⟨rfl, rfl⟩
  go_wp2_with fail
  refine (takes_is HT.out _).mono ?_
  rintro e w' ⟨rfl, rfl⟩
  have C := Lib.hid (pair_is ((judge_two (.inl rfl) RA.out RB.out).trans HP.out) (judge_any V1.out (Nat.le_refl _) (by omega) (allR_iff.1 HA.out) 12))
  go_wp2_with fail
  refine C.out.mono ?_
  rintro e w3 ⟨rfl, hb3⟩
  have R3 := Lib.hid (R1.out.then_ hb3)
  have D3 := Lib.hid (below_step D1.out hb3)
  clear hb3 c0 f0 R1 D1
  have c0 := R3.out.c3
  have f0 := R3.out.fz
  go_wp2_with fail
  try simp only [Exit.inBlock, Exit.then]
  refine bodyPost_ret (box_ret2 rfl rfl rfl (R3.out.put _ _ _)) rfl ?_
  exact ⟨ret_v HQ.out, below_put D3.out (Nat.le_refl _) _ _ _⟩

set_option maxHeartbeats 3200000 in
set_option maxRecDepth 100000 in
theorem call_13 {w : World} {B c : Nat} {A : Option Addr} {a b : Vl} (h : Vs w B A 2 c [a, b]) (hB : B ≤ w.heap.size) (ha : allR [a, b] = true) :
    Calls Tryz.prog 134 #[.int .i64 13, .slice A 2 c] w fun e w' => e = .returned (.tuple #[(callV 13 [a, b]).1.val, .int .i64 (callV 13 [a, b]).2]) ∧ Below w.heap.size w w' := by
  have hlen := h.1
  have hcap := h.2.2.1
  have hle := h.2.1
  unfold maxLen at hcap
  have HV := Lib.hid (h.new hB (.cells #[.int .i64 0, .int .i64 0, .string ⟨#[]⟩] 40))
  have HBS : Hid (B ≤ (w.alloc (.cells #[.int .i64 0, .int .i64 0, .string ⟨#[]⟩] 40)).heap.size) := by show _ ≤ _; rw [size_al]; omega
  have HL := Lib.hid hlen
  have HA := Lib.hid ha
  have hq : callV 13 [a, b] = bothV 13 a b := (call_ok ha (by decide) rfl).trans rfl
  obtain ⟨rk, rn, rs, re, hp⟩ := pair_of (bothV 13 a b)
  have HQ := Lib.hid (hq.trans hp)
  have HP := Lib.hid hp
  have OA := Lib.hid (h.2.2.2.2 a (by simp))
  have OB := Lib.hid (h.2.2.2.2 b (by simp))
  have RA := Lib.hid (allR_iff.1 ha a (by simp))
  have RB := Lib.hid (allR_iff.1 ha b (by simp))
  have HK : Hid (decide (6 ≤ (13 : Int) ∧ (13 : Int) ≤ 13) = true) := by show _ = _; decide
  have HT : Hid ((needs 13 : Int) = 2) := rfl
  clear ha h hlen hB hq hp
  generalize callV 13 [a, b] = RR at *
  go_enter Tryz.func134, Tryz.ntmps134
  go_wp2_with fail
  refine (allright_is HA.out HV.out HBS.out).mono ?_
  rintro e w1 ⟨rfl, hb1⟩
  have R1 := Lib.hid ((Bx.made w 0 0 ⟨#[]⟩).then_ hb1)
  have D1 := Lib.hid (Below.lit hb1)
  have V1 := Lib.hid ((HV.out.more HBS.out).then_ hb1)
  have c0 := R1.out.c3
  have f0 := R1.out.fz
  clear hb1
  go_wp2_with fail
  refine (known_is HK.out _).mono ?_
  rintro e w' ⟨rfl, rfl⟩
  go_wp2_with fail
  refine (takes_is HT.out _).mono ?_
  rintro e w' ⟨rfl, rfl⟩
  have C := Lib.hid (pair_is ((judge_two (.inr rfl) RA.out RB.out).trans HP.out) (judge_any V1.out (Nat.le_refl _) (by omega) (allR_iff.1 HA.out) 13))
  go_wp2_with fail
  refine C.out.mono ?_
  rintro e w3 ⟨rfl, hb3⟩
  have R3 := Lib.hid (R1.out.then_ hb3)
  have D3 := Lib.hid (below_step D1.out hb3)
  clear hb3 c0 f0 R1 D1
  have c0 := R3.out.c3
  have f0 := R3.out.fz
  go_wp2_with fail
  try simp only [Exit.inBlock, Exit.then]
  refine bodyPost_ret (box_ret2 rfl rfl rfl (R3.out.put _ _ _)) rfl ?_
  exact ⟨ret_v HQ.out, below_put D3.out (Nat.le_refl _) _ _ _⟩

set_option maxHeartbeats 3200000 in
set_option maxRecDepth 100000 in
theorem call_11 {w : World} {B c : Nat} {A : Option Addr} {a : Vl} (h : Vs w B A 1 c [a]) (hB : B ≤ w.heap.size) (ha : allR [a] = true) :
    Calls Tryz.prog 134 #[.int .i64 11, .slice A 1 c] w fun e w' => e = .returned (.tuple #[(callV 11 [a]).1.val, .int .i64 (callV 11 [a]).2]) ∧ Below w.heap.size w w' := by
  have hlen := h.1
  have hcap := h.2.2.1
  have hle := h.2.1
  unfold maxLen at hcap
  have HV := Lib.hid (h.new hB (.cells #[.int .i64 0, .int .i64 0, .string ⟨#[]⟩] 40))
  have HBS : Hid (B ≤ (w.alloc (.cells #[.int .i64 0, .int .i64 0, .string ⟨#[]⟩] 40)).heap.size) := by show _ ≤ _; rw [size_al]; omega
  have HL := Lib.hid hlen
  have HA := Lib.hid ha
  have hq : callV 11 [a] = notV a := (call_ok ha (by decide) rfl).trans rfl
  obtain ⟨rk, rn, rs, re, hp⟩ := pair_of (notV a)
  have HQ := Lib.hid (hq.trans hp)
  have HP := Lib.hid hp
  have OA := Lib.hid (h.2.2.2.2 a (by simp))
  have RA := Lib.hid (allR_iff.1 ha a (by simp))
  have HK : Hid (decide (6 ≤ (11 : Int) ∧ (11 : Int) ≤ 13) = true) := by show _ = _; decide
  have HT : Hid ((needs 11 : Int) = 1) := rfl
  clear ha h hlen hB hq hp
  generalize callV 11 [a] = RR at *
  go_enter Tryz.func134, Tryz.ntmps134
  go_wp2_with fail
  refine (allright_is HA.out HV.out HBS.out).mono ?_
  rintro e w1 ⟨rfl, hb1⟩
  have R1 := Lib.hid ((Bx.made w 0 0 ⟨#[]⟩).then_ hb1)
  have D1 := Lib.hid (Below.lit hb1)
  have V1 := Lib.hid ((HV.out.more HBS.out).then_ hb1)
  have c0 := R1.out.c3
  have f0 := R1.out.fz
  clear hb1
  go_wp2_with fail
  refine (known_is HK.out _).mono ?_
  rintro e w' ⟨rfl, rfl⟩
  go_wp2_with fail
  refine (takes_is HT.out _).mono ?_
  rintro e w' ⟨rfl, rfl⟩
  have C := Lib.hid (pair_is ((judge_one RA.out).trans HP.out) (judge_any V1.out (Nat.le_refl _) (by omega) (allR_iff.1 HA.out) 11))
  go_wp2_with fail
  refine C.out.mono ?_
  rintro e w3 ⟨rfl, hb3⟩
  have R3 := Lib.hid (R1.out.then_ hb3)
  have D3 := Lib.hid (below_step D1.out hb3)
  clear hb3 c0 f0 R1 D1
  have c0 := R3.out.c3
  have f0 := R3.out.fz
  go_wp2_with fail
  try simp only [Exit.inBlock, Exit.then]
  refine bodyPost_ret (box_ret2 rfl rfl rfl (R3.out.put _ _ _)) rfl ?_
  exact ⟨ret_v HQ.out, below_put D3.out (Nat.le_refl _) _ _ _⟩

theorem call_any {w : World} {B n c : Nat} {A : Option Addr} {l : List Vl} (h : Vs w B A n c l) (hB : B ≤ w.heap.size) (hn : n ≤ 1000000) (op : Int) :
    Calls Tryz.prog 134 #[.int .i64 op, .slice A n c] w fun e w' => e = .returned (.tuple #[(callV op l).1.val, .int .i64 (callV op l).2]) ∧ Below w.heap.size w w' := by
  cases ha : allR l with
  | false => exact call_bad1 h hB hn op ha
  | true =>
    by_cases hk : 6 ≤ op ∧ op ≤ 13
    · by_cases hl : l.length = needs op
      · have hlen := h.1
        by_cases h11 : op = 11
        · subst h11
          obtain ⟨a, rfl⟩ := one_of hl
          subst hlen
          exact call_11 h hB ha
        · have hl2 : l.length = 2 := hl.trans (if_neg h11)
          obtain ⟨a, b, rfl⟩ := two_of hl2
          subst hlen
          obtain rfl | rfl | rfl | rfl | rfl | rfl | rfl : op = 6 ∨ op = 7 ∨ op = 8 ∨ op = 9 ∨ op = 10 ∨ op = 12 ∨ op = 13 := by omega
          · exact call_6 h hB ha
          · exact call_7 h hB ha
          · exact call_8 h hB ha
          · exact call_9 h hB ha
          · exact call_10 h hB ha
          · exact call_12 h hB ha
          · exact call_13 h hB ha
      · exact call_bad3 h hB hn op ha hk hl
    · exact call_bad2 h hB hn op ha hk
end Go.Proofs.YtmoglaknmlhpgaaGreat
/- Has: the project's and the reference's. -/
namespace Go.Proofs.YtmoglaknmlhpgaaGreat
set_option linter.unusedVariables false
open Go.RowKit Go.Sort

set_option maxHeartbeats 1600000 in
theorem vhas_any {w : World} {B n c : Nat} {A : Option Addr} {l : List Vl} (h : Vs w B A n c l) (hB : B ≤ w.heap.size) (k0 n0 : Int) (s0 : ByteArray) :
    Calls Tryz.prog 133 #[.slice A n c, .agg #[.int .i64 k0, .int .i64 n0, .string s0]] w fun e w' => e = .returned (.bool (hasB l ⟨k0, n0, s0⟩)) ∧ Below w.heap.size w w' := by
  have hlen := h.1
  have hcap := h.2.2.1
  have hle := h.2.1
  unfold maxLen at hcap
  have hb0 := Bx.made w k0 n0 s0
  have hvs : Vs (w.alloc (.cells #[.int .i64 k0, .int .i64 n0, .string s0] 40)) B A n c l := h.keep fun k hk => Below.heap_alloc w _ k (by omega)
  have hd : Below w.heap.size w (w.alloc (.cells #[.int .i64 k0, .int .i64 n0, .string s0] 40)) := (Below.refl _ _).alloc (Nat.le_refl _) _
  have hsz := size_al w (.cells #[.int .i64 k0, .int .i64 n0, .string s0] 40)
  have H0 := Lib.hid hb0
  have HV := Lib.hid hvs
  have HD := Lib.hid hd
  have HL := Lib.hid hlen
  clear h hb0 hvs hd hlen
  generalize hw1 : w.alloc (.cells #[.int .i64 k0, .int .i64 n0, .string s0] 40) = w1 at *
  have HW := Lib.hid hw1
  clear hw1
  go_enter Tryz.func133, Tryz.ntmps133
  go_wp2_with fail
  rw [HW.out]
  go_loopw [9] (fun i wr => ∃ k : Nat, k ≤ n ∧ i = .int .i64 k ∧ HasTo l ⟨k0, n0, s0⟩ k ∧ Below w1.heap.size w1 wr) (fun i _ => n - (intOf i).toNat)
  case atStart => exact ⟨0, Nat.zero_le _, rfl, fun j x _ hj => by omega, Below.refl _ _⟩
  case round =>
    obtain ⟨k, hk, rfl, ht, hb⟩ := hrel
    have HT := Lib.hid ht
    have HB := Lib.hid hb
    by_cases hlt : k < n
    · obtain ⟨b, o, x, rfl, hbB, hx, hok, x0, x1, x2⟩ := (HV.out.below (hb.mono (by omega))).at_ hlt
      obtain ⟨kx, nx, sx⟩ := x
      have y := (H0.out.then_ hb).c3
      have HX := Lib.hid hx
      have hlt2 : w.heap.size < wr.heap.size := by have := hb.size; omega
      have hve := val_eq kx nx k0 n0 sx s0
      clear ht hb hx hok
      cases he : veq ⟨kx, nx, sx⟩ ⟨k0, n0, s0⟩
      · rw [he] at hve
        have HE := Lib.hid he
        clear he
        go_wp2_with fail
        go_roundw
        case rel => exact ⟨k + 1, by omega, by go_num, HT.out.step HX.out HE.out, HB.out.alloc HB.out.size _⟩
        case measure => simp [intOf]; omega
      · rw [he] at hve
        have HE := Lib.hid he
        clear he
        go_wp2_with fail
        go_ret
        exact ⟨ret_bool (has_true HX.out HE.out).symm, (HD.out.trans (HB.out.mono (by omega))).alloc (by omega) _⟩
    · obtain rfl : k = n := by omega
      clear ht hb
      go_wp2_with fail
      go_ret
      exact ⟨ret_bool (HT.out.all HL.out).symm, HD.out.trans (HB.out.mono (by omega))⟩

end Go.Proofs.YtmoglaknmlhpgaaGreat
/- reckoned: what a function makes of parts none of which is an error. -/
namespace Go.Proofs.YtmoglaknmlhpgaaGreat
set_option linter.unusedVariables false
open Go.RowKit Go.Sort

theorem Prts.up {w w' : World} {R : Nat → Prop} {A : Option Addr} {n c : Nat} {l : List Prt} (h : Prts w R A n c l) (hb : Below w.heap.size w w') : Prts w' R A n c l := h.keep (Kept.all hb R) (fun _ h _ => h)
theorem Vls.up {w w' : World} {R : Nat → Prop} {A : Option Addr} {n c : Nat} {l : List Vl} (h : Vls w R A n c l) (hb : Below w.heap.size w w') : Vls w' R A n c l := h.keep (Kept.all hb R) (fun _ h _ => h)
set_option maxRecDepth 100000 in
set_option maxHeartbeats 3200000 in
theorem ereck_3 {w : World} {R : Nat → Prop} {A : Option Addr} {n c : Nat} {of : List Prt} (h : Prts w R A n c of) (hn : 1 ≤ n) :
    Calls Tryz.prog 108 #[.int .i64 3, .slice A n c] w fun e w' => e = .returned (.tuple #[(reckP 3 of).1.val, .int .i64 (reckP 3 of).2]) ∧ Below w.heap.size w w' := by
  have hle := Rw.le h
  have hcap := Rw.cap h
  unfold maxLen at hcap
  have h' := h.up (below1 w (.cells #[.int .i64 0, .int .i64 0, .string ⟨#[]⟩] 40))
  obtain ⟨b, o, p, A', n', c', rfl, hRb, hbl, hx, hok, ⟨x0, _, _, _, _⟩, hin⟩ := h'.at_ (j := 0) (by omega)
  have hq : reckP 3 of = singleV p.bag := by
    match of, hx with
    | q :: _, hx => simp at hx; subst hx; rfl
  rw [hq]
  have HS := Lib.hid (esingle_any hin)
  obtain ⟨⟨⟨rk, rn, rs⟩, re⟩, hp⟩ : ∃ q, q = singleV p.bag := ⟨_, rfl⟩
  rw [← hp] at HS
  rw [← hp]
  simp only [Nat.zero_mul, Nat.add_zero] at x0
  clear hok hin hx hq h h' hRb hbl hp
  go_enter Tryz.func108, Tryz.ntmps108
  go_wp2_with (go_at_call 132; refine HS.out.mono ?_; rintro e w1 ⟨rfl, hb1⟩
               have R1 := Lib.hid ((Bx.made w 0 0 ⟨#[]⟩).then_ hb1)
               have D1 := Lib.hid (Below.lit hb1)
               have c0 := R1.out.c3
               have f0 := R1.out.fz
               simp only [Vl.val]
               clear hb1)
  try simp only [Exit.inBlock, Exit.then]
  refine bodyPost_ret (box_ret2 rfl rfl rfl (R1.out.put _ _ _)) rfl ?_
  exact ⟨rfl, below_put D1.out (Nat.le_refl _) _ _ _⟩
set_option maxRecDepth 100000 in
set_option maxHeartbeats 3200000 in
theorem ereck_4 {w : World} {R : Nat → Prop} {A : Option Addr} {n c : Nat} {of : List Prt} (h : Prts w R A n c of) (hn : 1 ≤ n) :
    Calls Tryz.prog 108 #[.int .i64 4, .slice A n c] w fun e w' => e = .returned (.tuple #[(reckP 4 of).1.val, .int .i64 (reckP 4 of).2]) ∧ Below w.heap.size w w' := by
  have hle := Rw.le h
  have hcap := Rw.cap h
  unfold maxLen at hcap
  have h' := h.up (below1 w (.cells #[.int .i64 0, .int .i64 0, .string ⟨#[]⟩] 40))
  obtain ⟨b, o, p, A', n', c', rfl, hRb, hbl, hx, hok, ⟨x0, _, _, _, _⟩, hin⟩ := h'.at_ (j := 0) (by omega)
  have hlen : p.bag.length = n' := Rw.len hin
  have HQ : Hid (reckP 4 of = (⟨2, (n' : Int), ⟨#[]⟩⟩, 0)) := by
    show _ = _
    match of, hx with
    | q :: _, hx =>
      simp at hx
      subst hx
      rw [← hlen]
      rfl
  simp only [Nat.zero_mul, Nat.add_zero] at x0
  have c0 := (Bx.made w 0 0 ⟨#[]⟩).c3
  have f0 := (Bx.made w 0 0 ⟨#[]⟩).fz
  clear hok hin hx h h' hRb hbl hlen
  go_enter Tryz.func108, Tryz.ntmps108
  go_wp2_with fail
  try simp only [Exit.inBlock, Exit.then]
  refine bodyPost_ret (box_ret2 rfl rfl rfl (Bx.made _ _ _ _)) rfl ?_
  exact ⟨eret_pair HQ.out, below1 _ _⟩
set_option maxRecDepth 100000 in
set_option maxHeartbeats 3200000 in
theorem ereck_5 {w : World} {R : Nat → Prop} {A : Option Addr} {n c : Nat} {of : List Prt} (h : Prts w R A n c of) (hn : 2 ≤ n) :
    Calls Tryz.prog 108 #[.int .i64 5, .slice A n c] w fun e w' => e = .returned (.tuple #[(reckP 5 of).1.val, .int .i64 (reckP 5 of).2]) ∧ Below w.heap.size w w' := by
  have hle := Rw.le h
  have hcap := Rw.cap h
  unfold maxLen at hcap
  have h' := h.up (below1 w (.cells #[.int .i64 0, .int .i64 0, .string ⟨#[]⟩] 40))
  obtain ⟨b, o, p, A', n', c', rfl, hRb, hbl, hx, hok, ⟨x0, _, _, _, _⟩, hin⟩ := h'.at_ (j := 0) (by omega)
  obtain ⟨b', o', q, A'', n'', c'', hA, _, _, hy, _, ⟨_, y1, y2, y3, _⟩, _⟩ := h'.at_ (j := 1) (by omega)
  injection hA with hA
  injection hA with hA1 hA2
  subst hA1 hA2
  obtain ⟨qb, ⟨qk, qn, qs⟩, qe⟩ := q
  simp only [Nat.zero_mul, Nat.one_mul, Nat.add_zero] at x0 y1 y2 y3
  have HQ : Hid (reckP 5 of = (⟨1, truthN (hasB p.bag ⟨qk, qn, qs⟩), ⟨#[]⟩⟩, 0)) := by
    show _ = _
    match of, hx, hy with
    | _ :: _ :: _, hx, hy =>
      simp at hx hy
      subst hx hy
      rfl
  obtain ⟨bx, hbx⟩ : ∃ bx, bx = hasB p.bag ⟨qk, qn, qs⟩ := ⟨_, rfl⟩
  rw [← hbx] at HQ
  have HR0 := Lib.hid (Bx.made w 0 0 ⟨#[]⟩)
  have HD0 := Lib.hid (below1 w (.cells #[.int .i64 0, .int .i64 0, .string ⟨#[]⟩] 40))
  have HIN := Lib.hid hin
  generalize reckP 5 of = RR at *
  clear hok hin hx hy h h' hRb
  go_enter Tryz.func108, Tryz.ntmps108
  go_wp2_with fail
  generalize w.alloc (.cells #[.int .i64 0, .int .i64 0, .string ⟨#[]⟩] 40) = W1 at *
  have QH := Lib.hid (fun d os => Calls.regrown_of (w := W1) (d := d) (os := os) (by have := vhas_any (HIN.out.up (below_regrown W1 d os)).vs (Nat.le_refl _) qk qn qs; rwa [← hbx] at this))
  have QT := Lib.hid (fun d os => Calls.regrown_of (w := W1) (d := d) (os := os) (etruth_any bx (grow (redrawn W1 d) os)))
  have z0 := fun d os => cell_regrown x0 d os
  have z3 := fun d os => cell_regrown y1 d os
  have z4 := fun d os => cell_regrown y2 d os
  have z5 := fun d os => cell_regrown y3 d os
  clear hbx
  have hz2 : (1 : Int) < (n : Int) := by omega
  have hz1 : (0 : Int) < (n : Int) := by omega
  clear x0 y1 y2 y3
  refine wp_region_below_tail 10 (by kernel_rfl) (by kernel_rfl) ?_
  simp only [List.take_succ_cons, List.take_zero, List.drop_succ_cons, List.drop_zero]
  repeat (go_big_quiet_step (first | (go_at_call 133; exact QH.out _ _) | (go_at_call 48; exact QT.out _ _)))
  refine wpQuiet_nil ?_
  intro _ hw'
  obtain ⟨⟨dq, osq⟩, hw''⟩ := hw'
  subst hw''
  have hbel := below_regrown W1 dq osq
  have R3 := Lib.hid (HR0.out.then_ hbel)
  have D3 := Lib.hid (below_step HD0.out hbel)
  clear hbel z0 z3 z4 z5 QH QT
  have c0 := R3.out.c3
  have f0 := R3.out.fz
  go_wp2_with fail
  try simp only [Exit.inBlock, Exit.then]
  refine bodyPost_ret (box_ret2 rfl rfl rfl (R3.out.put _ _ _)) rfl ?_
  exact ⟨eret_pair HQ.out, below_put D3.out (Nat.le_refl _) _ _ _⟩
theorem call_is {w : World} {R : Nat → Prop} {A : Option Addr} {n c : Nat} {l : List Vl} {op : Int} (h : Vls w R A n c l) (hn : n ≤ 1000000) : Calls Tryz.prog 134 #[.int .i64 op, .slice A n c] w fun e w' => e = .returned (.tuple #[(callV op l).1.val, .int .i64 (callV op l).2]) ∧ Below w.heap.size w w' := call_any h.vs (Nat.le_refl _) hn op
set_option maxRecDepth 100000 in
set_option maxHeartbeats 3200000 in
theorem ereck_any {op : Int} (h3 : op ≠ 3) (h4 : op ≠ 4) (h5 : op ≠ 5) {w : World} {R : Nat → Prop} {A : Option Addr} {n c : Nat} {of : List Prt} (h : Prts w R A n c of) (hn : n ≤ 1000) :
    Calls Tryz.prog 108 #[.int .i64 op, .slice A n c] w fun e w' => e = .returned (.tuple #[(reckP op of).1.val, .int .i64 (reckP op of).2]) ∧ Below w.heap.size w w' := by
  have hle := Rw.le h
  have hcap := Rw.cap h
  have HL := Lib.hid (Rw.len h)
  unfold maxLen at hcap
  have b3 : (op == 3) = false := by rw [beq_eq_false_iff_ne]; exact h3
  have b4 : (op == 4) = false := by rw [beq_eq_false_iff_ne]; exact h4
  have b5 : (op == 5) = false := by rw [beq_eq_false_iff_ne]; exact h5
  have HQ : Hid (reckP op of = callV op (of.map Prt.v)) := by show _ = _; unfold reckP; rw [if_neg h3, if_neg h4, if_neg h5]
  have H := Lib.hid (h.up (below1 w (.cells #[.int .i64 0, .int .i64 0, .string ⟨#[]⟩] 40)))
  have HR0 := Lib.hid (Bx.made w 0 0 ⟨#[]⟩)
  have HD0 := Lib.hid (below1 w (.cells #[.int .i64 0, .int .i64 0, .string ⟨#[]⟩] 40))
  generalize reckP op of = RR at *
  clear h3 h4 h5 h
  go_enter Tryz.func108, Tryz.ntmps108
  go_wp2_with fail
  generalize w.alloc (.cells #[.int .i64 0, .int .i64 0, .string ⟨#[]⟩] 40) = W1 at *
  go_loopw [6, 41] (fun out i wr => ∃ (k : Nat) (A' : Option Addr) (c' : Nat), k ≤ n ∧ i = .int .i64 k ∧ out = .slice A' k c' ∧ (wr.ownsRow W1.heap.size 40 3 (.slice A' k c') k (cells3 ((of.map Prt.v).take k)) ∧ (∀ v ∈ (of.map Prt.v).take k, v.ok)) ∧ Below W1.heap.size W1 wr) (fun out i _ => n - (intOf i).toNat)
  case atStart => exact ⟨0, none, 0, Nat.zero_le _, rfl, rfl, ⟨World.ownsRow_nil W1 W1.heap.size 40 3, by simp⟩, Below.refl _ _⟩
  case round =>
    obtain ⟨k, A', c', hk, rfl, rfl, ⟨ho, hoks⟩, hb⟩ := hrel
    have HO := Lib.hid ho
    have HB := Lib.hid hb
    have HOKS := Lib.hid hoks
    clear ho hb hoks
    by_cases hlt : k < n
    · obtain ⟨b, o, p, Ap, np, cp, rfl, hRb, hbl, hx, hok, ⟨x0, x1, x2, x3, x4⟩, hin⟩ := (H.out.up HB.out).at_ hlt
      obtain ⟨pb, ⟨pk, pn, ps⟩, pe⟩ := p
      simp only at x0 x1 x2 x3 x4 hok
      have hxm : (of.map Prt.v)[k]? = some ⟨pk, pn, ps⟩ := by rw [List.getElem?_map, hx]; rfl
      have HX := Lib.hid hxm
      have hd1 := (Below.refl wr.heap.size wr).alloc (Nat.le_refl _) (.cells #[.slice Ap np cp, .int .i64 pk, .int .i64 pn, .string ps, .int .i64 pe] 148)
      have hob := Ob.made wr 148 #[.slice Ap np cp, .int .i64 pk, .int .i64 pn, .string ps, .int .i64 pe]
      have q1 := hob.cell 1
      have q2 := hob.cell 2
      have q3 := hob.cell 3
      obtain ⟨A2, c2, w2, r2, o2, b2⟩ := push_val (v := ⟨pk, pn, ps⟩) (own_then HO.out hd1) (Nat.le_trans HB.out.size hd1.size) hok.1 (by omega)
      simp only [size_al] at r2
      have R2 := Lib.hid r2
      have O2 := Lib.hid o2
      have B2 := Lib.hid (HB.out.trans ((hd1.mono HB.out.size).trans b2))
      have K2 : Hid (∀ v ∈ (of.map Prt.v).take (k + 1), v.ok) := by
        show ∀ v ∈ (of.map Prt.v).take (k + 1), v.ok
        rw [take_one HX.out]
        intro v hv
        rcases List.mem_append.1 hv with hv | hv
        · exact HOKS.out v hv
        · simp at hv; subst hv; exact hok.1
      clear hx hxm hok hin hRb hd1 hob r2 o2 b2
      go_wp2_with (at_builtin; refine wpList_append_run rfl _ _ _ _ rfl rfl rfl R2.out ?_)
      go_roundw
      case rel => exact ⟨k + 1, A2, c2, by omega, by go_num, rfl, ⟨by rw [take_one HX.out]; exact O2.out, K2.out⟩, B2.out⟩
      case measure => simp [intOf]; omega
    · obtain rfl : k = n := by omega
      have ho := HO.out
      have hoks := HOKS.out
      rw [List.take_of_length_le (by rw [List.length_map]; have := HL.out; omega)] at ho hoks
      rw [cells3_flat] at ho
      have hv : Vls wr (fun b => W1.heap.size ≤ b) A' k c' (of.map Prt.v) := Rw.flat_own ho (by omega) (by rw [List.length_map]; exact HL.out) (fun _ => rfl) hoks (fun _ _ h => h)
      have HC := Lib.hid (call_is (op := op) hv (by omega))
      obtain ⟨⟨⟨rk, rn, rs⟩, re⟩, hp⟩ : ∃ q, q = callV op (of.map Prt.v) := ⟨_, rfl⟩
      rw [← hp] at HC HQ
      clear ho hoks hv hp
      have R1 := Lib.hid (HR0.out.then_ (HB.out.mono (Nat.le_refl _)))
      go_wp2_with (go_at_call 134; refine HC.out.mono ?_; rintro e w1 ⟨rfl, hb1⟩
                   have R2 := Lib.hid (R1.out.then_ hb1)
                   have D2 := Lib.hid (below_step HD0.out (below_step HB.out hb1))
                   have c0 := R2.out.c3
                   have f0 := R2.out.fz
                   simp only [Vl.val]
                   clear hb1)
      try simp only [Exit.inBlock, Exit.then]
      refine bodyPost_ret (box_ret2 rfl rfl rfl (R2.out.put _ _ _)) rfl ?_
      exact ⟨eret_pair HQ.out, below_put D2.out (Nat.le_refl _) _ _ _⟩
end Go.Proofs.YtmoglaknmlhpgaaGreat
/- made: what a node makes of what stands ahead. -/
namespace Go.Proofs.YtmoglaknmlhpgaaGreat
set_option linter.unusedVariables false
open Go.RowKit Go.Sort

def MadeTo (w : World) (p : Prt) (e : Ending) (w' : World) : Prop := ∃ A n c, e = .returned (.agg #[.slice A n c, .int .i64 p.v.k, .int .i64 p.v.n, .string p.v.s, .int .i64 p.e]) ∧ Below w.heap.size w w' ∧ Vls w' (fun b => w.heap.size ≤ b) A n c p.bag
theorem MadeTo.nobag {w w' : World} {p : Prt} {k n e : Int} {s : ByteArray} (h : p = ⟨[], ⟨k, n, s⟩, e⟩) (hb : Below w.heap.size w w') : MadeTo w p (.returned (.agg #[.slice none 0 0, .int .i64 k, .int .i64 n, .string s, .int .i64 e])) w' := by
  subst h
  exact ⟨none, 0, 0, rfl, hb, Rw.nil_ _ _ _ _⟩
theorem made_1 {ask : List Giv} {n : Nod} {of : List Prt} (h : n.op = 1) : madeP ask n of = ⟨[], n.v, 0⟩ := if_pos h
theorem made_2 {ask : List Giv} {n : Nod} {of : List Prt} (h : n.op = 2) : madeP ask n of = ⟨getR ask n.a, noneV, getE ask n.a⟩ := by unfold madeP; rw [if_neg (by omega), if_pos h]
theorem made_dec {ask : List Giv} {n : Nod} {of : List Prt} (h1 : n.op ≠ 1) (h2 : n.op ≠ 2) (h : decB n.op of = true) : madeP ask n of = ⟨[], decV n.op, 0⟩ := by unfold madeP; rw [if_neg h1, if_neg h2, if_pos h]; rfl
theorem made_err {ask : List Giv} {n : Nod} {of : List Prt} (h1 : n.op ≠ 1) (h2 : n.op ≠ 2) (h : decB n.op of = false) (he : errL of ≠ 0) : madeP ask n of = ⟨[], noneV, errL of⟩ := by unfold madeP; rw [if_neg h1, if_neg h2, if_neg (by simp [h]), if_pos he]
theorem made_reck {ask : List Giv} {n : Nod} {of : List Prt} (h1 : n.op ≠ 1) (h2 : n.op ≠ 2) (h : decB n.op of = false) (he : errL of = 0) : madeP ask n of = ⟨[], (reckP n.op of).1, (reckP n.op of).2⟩ := by unfold madeP; rw [if_neg h1, if_neg h2, if_neg (by simp [h]), if_neg (by simp [he])]
def W0 (w : World) (n : Nod) : World := (w.alloc (.cells #[.int .i64 n.op, .int .i64 n.v.k, .int .i64 n.v.n, .string n.v.s, .int .i64 n.a.cat, .string n.a.name, .bool n.a.must] 58)).alloc (.cells #[.slice none 0 0, .int .i64 0, .int .i64 0, .string ⟨#[]⟩, .int .i64 0] 148)
theorem W0.below (w : World) (n : Nod) : Below w.heap.size w (W0 w n) := below2 _ _ _
theorem W0.part (w : World) (n : Nod) : Ob (W0 w n) (w.heap.size + 1) 148 #[.slice none 0 0, .int .i64 0, .int .i64 0, .string ⟨#[]⟩, .int .i64 0] := by
  have := Ob.made (w.alloc (.cells #[.int .i64 n.op, .int .i64 n.v.k, .int .i64 n.v.n, .string n.v.s, .int .i64 n.a.cat, .string n.a.name, .bool n.a.must] 58)) 148 #[.slice none 0 0, .int .i64 0, .int .i64 0, .string ⟨#[]⟩, .int .i64 0]
  rwa [size_al] at this
theorem W0.node (w : World) (n : Nod) : Ob (W0 w n) w.heap.size 58 #[.int .i64 n.op, .int .i64 n.v.k, .int .i64 n.v.n, .string n.v.s, .int .i64 n.a.cat, .string n.a.name, .bool n.a.must] :=
  (Ob.made w _ _).keep (Below.heap_alloc _ _ _ (by rw [size_al]; omega))
theorem W0.size (w : World) (n : Nod) : (W0 w n).heap.size = w.heap.size + 2 := by unfold W0; rw [size_al, size_al]
set_option maxRecDepth 100000 in
set_option maxHeartbeats 3200000 in
theorem emade_1 (ask : List Giv) (n : Nod) (h1 : n.op = 1) (hs : n.v.s.size ≤ 1000000) (of : List Prt) (A : Option Addr) (m c : Nat) (A2 : Option Addr) (n2 c2 : Nat) (w : World) :
    Calls Tryz.prog 81 #[n.val, .slice A m c, .slice A2 n2 c2] w (MadeTo w (madeP ask n of)) := by
  have HL := Lib.hid (fun W => eliteral_any n.v hs W)
  have HM := Lib.hid (made_1 (ask := ask) (of := of) h1)
  have HB := Lib.hid (W0.below w n)
  have HP := Lib.hid (W0.part w n)
  have HZ := Lib.hid (W0.size w n)
  generalize madeP ask n of = pp at *
  obtain ⟨op, ⟨k, nn, s⟩, ⟨ac, an, am⟩⟩ := n
  simp only at h1 HL HM HP
  subst h1
  unfold Nod.val
  go_enter Tryz.func81, Tryz.ntmps81
  go_wp2_with (go_at_call 105; refine (HL.out _).mono ?_; rintro e w1 ⟨rfl, hb1⟩
               have O1 := Lib.hid (HP.out.below hb1 (by rw [size_al, size_al]; omega))
               have D1 := Lib.hid (below_step HB.out hb1)
               have o0 := O1.out.cell
               have g0 := O1.out.frozen
               clear hb1)
  try simp only [Exit.inBlock, Exit.then]
  refine bodyPost_ret (part_ret rfl rfl (ob_put5 O1.out _ _ _ _ _)) rfl ?_
  exact MadeTo.nobag HM.out (below_put5 D1.out (by omega) _ _ _ _ _)
set_option maxRecDepth 100000 in
set_option maxHeartbeats 3200000 in
theorem emade_2 {ask : List Giv} (n : Nod) (h2 : n.op = 2) (of : List Prt) (A : Option Addr) (m c : Nat) {A2 : Option Addr} {n2 c2 : Nat} {R2 : Nat → Prop} (w : World) (hA : Gvs w R2 A2 n2 c2 ask) (hs : ShortG ask) :
    Calls Tryz.prog 81 #[n.val, .slice A m c, .slice A2 n2 c2] w (MadeTo w (madeP ask n of)) := by
  have HG := Lib.hid (fun W (hW : Below w.heap.size w W) => aget_any n.a (hA.keep (Kept.all hW R2) (fun _ h _ => h)) hs)
  have HM := Lib.hid (made_2 (ask := ask) (of := of) h2)
  have HB := Lib.hid (W0.below w n)
  have HP := Lib.hid (W0.part w n)
  have HZ := Lib.hid (W0.size w n)
  clear hA hs
  generalize madeP ask n of = pp at *
  obtain ⟨op, ⟨k, nn, s⟩, ⟨ac, an, am⟩⟩ := n
  simp only at h2 HG HM HP
  subst h2
  unfold Nod.val
  generalize getR ask ⟨ac, an, am⟩ = rr at *
  generalize getE ask ⟨ac, an, am⟩ = ee at *
  go_enter Tryz.func81, Tryz.ntmps81
  go_wp2_with (go_at_call 106; refine (HG.out _ HB.out).mono ?_; rintro e w1 ⟨A3, n3, c3, rfl, hb1, hv1⟩
               have O1 := Lib.hid (HP.out.below hb1 (by rw [HZ.out]; omega))
               have D1 := Lib.hid (below_step HB.out hb1)
               have V1 := Lib.hid hv1
               have Z1 := Lib.hid hb1.size
               have o0 := O1.out.cell
               have g0 := O1.out.frozen
               clear hb1 hv1)
  try simp only [Exit.inBlock, Exit.then]
  refine bodyPost_ret (part_ret rfl rfl (ob_put5 O1.out _ _ _ _ _)) rfl ?_
  have hm := HM.out
  subst hm
  refine ⟨A3, n3, c3, rfl, below_put5 D1.out (by omega) _ _ _ _ _, ?_⟩
  have hz := HZ.out
  refine V1.out.keep ⟨by simp [World.setCell], fun b hb _ => ?_⟩ (fun b hb _ => ?_)
  · have hb' : (W0 w _).heap.size ≤ b := hb
    rw [hz] at hb'
    rw [Below.heap_setCell _ _ _ _ (by show b ≠ w.heap.size + 1; omega), Below.heap_setCell _ _ _ _ (by show b ≠ w.heap.size + 1; omega), Below.heap_setCell _ _ _ _ (by show b ≠ w.heap.size + 1; omega), Below.heap_setCell _ _ _ _ (by show b ≠ w.heap.size + 1; omega), Below.heap_setCell _ _ _ _ (by show b ≠ w.heap.size + 1; omega)]
  · have hb' : (W0 w _).heap.size ≤ b := hb
    rw [hz] at hb'
    show w.heap.size ≤ b
    omega
theorem decB_no {op : Int} {of : List Prt} (h1 : op ≠ 12) (h2 : op ≠ 13) : decB op of = false := by
  unfold decB
  split
  · simp [h1, h2]
  · rfl
theorem two_prt {l : List Prt} (h : l.length = 2) : ∃ a b, l = [a, b] := by
  match l, h with
  | [a, b], _ => exact ⟨a, b, rfl⟩
theorem edec_any {op : Int} {w : World} {R : Nat → Prop} {A : Option Addr} {m c : Nat} {of : List Prt} (h : Prts w R A m c of) (hm : m = takesN op) :
    Calls Tryz.prog 107 #[.int .i64 op, .slice A m c] w fun e w' => e = .returned (.tuple #[.agg #[.int .i64 (if decB op of = true then 1 else 0), .int .i64 (if decB op of = true then truthN (decide (op = 13)) else 0), .string ⟨#[]⟩], .bool (decB op of)]) ∧ Below w.heap.size w w' := by
  by_cases h12 : op = 12 ∨ op = 13
  · obtain rfl : m = 2 := by rcases h12 with rfl | rfl <;> exact hm
    obtain ⟨p, q, rfl⟩ := two_prt (Rw.len h)
    exact edecided_two h12 h
  · have e1 : op ≠ 12 := fun e => h12 (.inl e)
    have e2 : op ≠ 13 := fun e => h12 (.inr e)
    have := edecided_no e1 e2 A m c w
    rw [decB_no e1 e2]
    exact this
theorem ereck {op : Int} {w : World} {R : Nat → Prop} {A : Option Addr} {m c : Nat} {of : List Prt} (h : Prts w R A m c of) (hm : m = takesN op) (h1 : op ≠ 1) (h2 : op ≠ 2) :
    Calls Tryz.prog 108 #[.int .i64 op, .slice A m c] w fun e w' => e = .returned (.tuple #[(reckP op of).1.val, .int .i64 (reckP op of).2]) ∧ Below w.heap.size w w' := by
  by_cases h3 : op = 3
  · subst h3; exact ereck_3 h (by rw [hm]; decide)
  by_cases h4 : op = 4
  · subst h4; exact ereck_4 h (by rw [hm]; decide)
  by_cases h5 : op = 5
  · subst h5; exact ereck_5 h (by rw [hm]; decide)
  refine ereck_any h3 h4 h5 h ?_
  rw [hm]
  unfold takesN
  repeat' split
  all_goals omega
theorem errL_take {of : List Prt} : ∀ {k : Nat} {p : Prt}, errL (of.take k) = 0 → of[k]? = some p → errL (of.take (k + 1)) = p.e := by
  induction of with
  | nil => intro k p _ h; simp at h
  | cons x r ih =>
    intro k p h0 hx
    cases k with
    | zero =>
      simp at hx
      subst hx
      simp [errL]
      intro e
      exact e.symm
    | succ k =>
      simp only [List.take_succ_cons, errL] at h0 ⊢
      by_cases he : x.e = 0
      · simp only [he, ne_eq, not_true, if_false] at h0 ⊢
        exact ih h0 (by simpa using hx)
      · simp only [ne_eq, he, not_false_eq_true, if_true] at h0
theorem errL_hit {of : List Prt} : ∀ {k : Nat} {p : Prt}, errL (of.take k) = 0 → of[k]? = some p → p.e ≠ 0 → errL of = p.e := by
  induction of with
  | nil => intro k p _ h; simp at h
  | cons x r ih =>
    intro k p h0 hx hne
    cases k with
    | zero =>
      simp at hx
      subst hx
      simp [errL, hne]
    | succ k =>
      simp only [List.take_succ_cons, errL] at h0 ⊢
      by_cases he : x.e = 0
      · simp only [he, ne_eq, not_true, if_false] at h0 ⊢
        exact ih h0 (by simpa using hx) hne
      · simp only [ne_eq, he, not_false_eq_true, if_true] at h0
set_option maxRecDepth 100000 in
set_option maxHeartbeats 3200000 in
theorem emade_dec {ask : List Giv} (n : Nod) (h1 : n.op ≠ 1) (h2 : n.op ≠ 2) {of : List Prt} {R : Nat → Prop} {A : Option Addr} {m c : Nat} (A2 : Option Addr) (n2 c2 : Nat) (w : World) (h : Prts w R A m c of) (hm : m = takesN n.op) (hd : decB n.op of = true) :
    Calls Tryz.prog 81 #[n.val, .slice A m c, .slice A2 n2 c2] w (MadeTo w (madeP ask n of)) := by
  have HB := Lib.hid (W0.below w n)
  have HP := Lib.hid (W0.part w n)
  have HZ := Lib.hid (W0.size w n)
  have HDC := Lib.hid (edec_any (h.up HB.out) hm)
  rw [hd] at HDC
  simp only [if_true] at HDC
  have HM := Lib.hid (made_dec (ask := ask) h1 h2 hd)
  clear h hm hd
  generalize madeP ask n of = pp at *
  obtain ⟨op, ⟨k, nn, s⟩, ⟨ac, an, am⟩⟩ := n
  simp only at h1 h2 HM HP HDC
  have b1 : (op == 1) = false := by rw [beq_eq_false_iff_ne]; exact h1
  have b2 : (op == 2) = false := by rw [beq_eq_false_iff_ne]; exact h2
  clear h1 h2
  have HMM : Hid (pp = ⟨[], ⟨1, truthN (decide (op = 13)), ⟨#[]⟩⟩, 0⟩) := HM
  generalize truthN (decide (op = 13)) = tn at *
  unfold Nod.val
  go_enter Tryz.func81, Tryz.ntmps81
  go_wp2_with (go_at_call 107; refine HDC.out.mono ?_; rintro e w1 ⟨rfl, hb1⟩
               have O1 := Lib.hid ((HP.out.below hb1 (by rw [HZ.out]; omega)).keep (w' := w1.alloc (.cells #[.int .i64 1, .int .i64 tn, .string ⟨#[]⟩] 40)) (Below.heap_alloc _ _ _ (by have := hb1.size; have := HZ.out; omega)))
               have D1 := Lib.hid ((below_step HB.out hb1).alloc (below_step HB.out hb1).size (.cells #[.int .i64 1, .int .i64 tn, .string ⟨#[]⟩] 40))
               have o0 := O1.out.cell
               have g0 := O1.out.frozen
               have k0 := (Bx.made w1 1 tn ⟨#[]⟩).c3
               clear hb1)
  try simp only [Exit.inBlock, Exit.then]
  refine bodyPost_ret (part_ret rfl rfl (ob_put5 O1.out _ _ _ _ _)) rfl ?_
  exact MadeTo.nobag HMM.out (below_put5 D1.out (by omega) _ _ _ _ _)
set_option maxRecDepth 100000 in
set_option maxHeartbeats 3200000 in
theorem emade_rest {ask : List Giv} (n : Nod) (h1 : n.op ≠ 1) (h2 : n.op ≠ 2) {of : List Prt} {R : Nat → Prop} {A : Option Addr} {m c : Nat} (A2 : Option Addr) (n2 c2 : Nat) (w : World) (h : Prts w R A m c of) (hm : m = takesN n.op) (hd : decB n.op of = false) :
    Calls Tryz.prog 81 #[n.val, .slice A m c, .slice A2 n2 c2] w (MadeTo w (madeP ask n of)) := by
  have HB := Lib.hid (W0.below w n)
  have HP := Lib.hid (W0.part w n)
  have HN := Lib.hid (W0.node w n)
  have HZ := Lib.hid (W0.size w n)
  have HDC := Lib.hid (edec_any (h.up HB.out) hm)
  rw [hd] at HDC
  simp only [Bool.false_eq_true, if_false] at HDC
  have HME := Lib.hid (fun he => made_err (ask := ask) h1 h2 hd he)
  have HMR := Lib.hid (fun he => made_reck (ask := ask) h1 h2 hd he)
  have HRK := Lib.hid (fun W (hW : Below w.heap.size w W) => ereck (h.up hW) hm h1 h2)
  have H := Lib.hid h
  have hle := Rw.le h
  have hcap := Rw.cap h
  have HL := Lib.hid (Rw.len h)
  unfold maxLen at hcap
  have hbig := Rw.big h
  clear h hm hd
  generalize madeP ask n of = pp at *
  obtain ⟨op, ⟨k, nn, s⟩, ⟨ac, an, am⟩⟩ := n
  simp only at h1 h2 HME HMR HRK HP HN HDC
  have b1 : (op == 1) = false := by rw [beq_eq_false_iff_ne]; exact h1
  have b2 : (op == 2) = false := by rw [beq_eq_false_iff_ne]; exact h2
  clear h1 h2
  obtain ⟨⟨⟨rk, rn, rs⟩, re⟩, hp⟩ : ∃ q, q = reckP op of := ⟨_, rfl⟩
  rw [← hp] at HMR HRK
  clear hp
  unfold Nod.val
  go_enter Tryz.func81, Tryz.ntmps81
  go_wp2_with (go_at_call 107; refine HDC.out.mono ?_; rintro e w1 ⟨rfl, hb1⟩
               have O1 := Lib.hid ((HP.out.below hb1 (by rw [HZ.out]; omega)).keep (w' := w1.alloc (.cells #[.int .i64 0, .int .i64 0, .string ⟨#[]⟩] 40)) (Below.heap_alloc _ _ _ (by have := hb1.size; have := HZ.out; omega)))
               have N1 := Lib.hid ((HN.out.below hb1 (by rw [HZ.out]; omega)).keep (w' := w1.alloc (.cells #[.int .i64 0, .int .i64 0, .string ⟨#[]⟩] 40)) (Below.heap_alloc _ _ _ (by have := hb1.size; have := HZ.out; omega)))
               have D1 := Lib.hid ((below_step HB.out hb1).alloc (below_step HB.out hb1).size (.cells #[.int .i64 0, .int .i64 0, .string ⟨#[]⟩] 40))
               clear hb1)
  generalize w1.alloc (.cells #[.int .i64 0, .int .i64 0, .string ⟨#[]⟩] 40) = W1 at *
  go_loopw [46] (fun i wr => ∃ k : Nat, k ≤ m ∧ i = .int .i64 k ∧ errL (of.take k) = 0 ∧ Below W1.heap.size W1 wr) (fun i _ => m - (intOf i).toNat)
  case atStart => exact ⟨0, Nat.zero_le _, rfl, rfl, Below.refl _ _⟩
  case round =>
    obtain ⟨k, hk, rfl, he, hb⟩ := hrel
    have HE := Lib.hid he
    have HW := Lib.hid hb
    have O2 := Lib.hid (O1.out.below hb O1.out.lt)
    have N2 := Lib.hid (N1.out.below hb N1.out.lt)
    have D2 := Lib.hid (below_step D1.out hb)
    clear he hb
    by_cases hlt : k < m
    · obtain ⟨b, o, p, Ap, np, cp, rfl, hRb, hbl, hx, hok, ⟨x0, x1, x2, x3, x4⟩, hin⟩ := (H.out.up D2.out).at_ hlt
      have HT := Lib.hid (errL_take HE.out hx)
      have HH := Lib.hid (errL_hit HE.out hx)
      obtain ⟨pb, ⟨pk, pn, ps⟩, pe⟩ := p
      simp only at x0 x1 x2 x3 x4 HT HH
      have q4 := (Ob.made wr 148 #[.slice Ap np cp, .int .i64 pk, .int .i64 pn, .string ps, .int .i64 pe]).cell 4
      clear hx hok hin hRb
      by_cases hpe : pe = 0
      · subst hpe
        go_wp2_with fail
        go_roundw
        case rel => exact ⟨k + 1, by omega, by go_num, HT.out, HW.out.alloc HW.out.size _⟩
        case measure => simp [intOf]; omega
      · have hne : (pe != 0) = true := by rw [bne_iff_ne]; exact hpe
        have HM := Lib.hid (HME.out (by rw [HH.out hpe]; exact hpe))
        have HHE := Lib.hid (HH.out hpe)
        clear hpe
        have O3 := Lib.hid (O2.out.keep (w' := wr.alloc (.cells #[.slice Ap np cp, .int .i64 pk, .int .i64 pn, .string ps, .int .i64 pe] 148)) (Below.heap_alloc _ _ _ O2.out.lt))
        have o0 := O3.out.cell
        have g0 := O3.out.frozen
        go_wp2_with fail
        try simp only [Exit.inBlock, Exit.then]
        refine bodyPost_ret (part_ret rfl rfl (ob_put5 O3.out _ _ _ _ _)) rfl ?_
        exact MadeTo.nobag (by rw [HM.out, HHE.out]; rfl) (below_put5 (D2.out.alloc D2.out.size _) (by omega) _ _ _ _ _)
    · obtain rfl : k = m := by omega
      have hT := HE.out
      rw [List.take_of_length_le (by have := HL.out; omega)] at hT
      have HM := Lib.hid (HMR.out hT)
      have n0 := N2.out.cell 0
      clear hT
      go_wp2_with (go_at_call 108; refine (HRK.out _ D2.out).mono ?_; rintro e w3 ⟨rfl, hb3⟩
                   have O4 := Lib.hid ((O2.out.below hb3 O2.out.lt).keep (w' := w3.alloc (.cells #[.int .i64 rk, .int .i64 rn, .string rs] 40)) (Below.heap_alloc _ _ _ (Nat.lt_of_lt_of_le O2.out.lt hb3.size)))
                   have D4 := Lib.hid ((below_step D2.out hb3).alloc (below_step D2.out hb3).size (.cells #[.int .i64 rk, .int .i64 rn, .string rs] 40))
                   have o0 := O4.out.cell
                   have g0 := O4.out.frozen
                   have k0 := (Bx.made w3 rk rn rs).c3
                   simp only [Vl.val]
                   clear hb3)
      try simp only [Exit.inBlock, Exit.then]
      refine bodyPost_ret (part_ret rfl rfl (ob_put5 O4.out _ _ _ _ _)) rfl ?_
      exact MadeTo.nobag HM.out (below_put5 D4.out (by omega) _ _ _ _ _)
theorem emade_any {ask : List Giv} (n : Nod) (hs : n.op = 1 → n.v.s.size ≤ 1000000) {of : List Prt} {R R2 : Nat → Prop} {A A2 : Option Addr} {m c n2 c2 : Nat} (w : World) (h : Prts w R A m c of) (hm : m = takesN n.op) (hA : Gvs w R2 A2 n2 c2 ask) (hG : ShortG ask) :
    Calls Tryz.prog 81 #[n.val, .slice A m c, .slice A2 n2 c2] w (MadeTo w (madeP ask n of)) := by
  by_cases h1 : n.op = 1
  · exact emade_1 ask n h1 (hs h1) of A m c A2 n2 c2 w
  by_cases h2 : n.op = 2
  · exact emade_2 n h2 of A m c w hA hG
  cases hd : decB n.op of with
  | true => exact emade_dec n h1 h2 A2 n2 c2 w h hm hd
  | false => exact emade_rest n h1 h2 A2 n2 c2 w h hm hd
end Go.Proofs.YtmoglaknmlhpgaaGreat
/- What a node makes is a value that memory bears; a right expression at each of its nodes. Plain. -/
namespace Go.Proofs.YtmoglaknmlhpgaaGreat
set_option linter.unusedVariables false
open Go.RowKit

theorem truthV_ok (b : Bool) : (truthV b).ok := by cases b <;> decide
theorem noneV_ok : noneV.ok := by decide
theorem ini0 : InI 0 := by decide
theorem ini2 : InI 2 := by decide
theorem ini3 : InI 3 := by decide
theorem ini4 : InI 4 := by decide
theorem numV_ok {n : Int} (h : InI n) : (numV n).ok := ⟨ini2, h, (by decide : (⟨#[]⟩ : ByteArray).size ≤ maxLen)⟩
def OkR (p : Vl × Int) : Prop := p.1.ok ∧ InI p.2
theorem okR_none {e : Int} (h : InI e) : OkR (noneV, e) := ⟨noneV_ok, h⟩
theorem okR_truth (b : Bool) : OkR (truthV b, 0) := ⟨truthV_ok b, ini0⟩
theorem lessOf_err (a b : Vl) : (lessOf a b).2 = 0 ∨ (lessOf a b).2 = 1 ∨ (lessOf a b).2 = 2 := by
  unfold lessOf
  repeat' split
  all_goals simp
theorem callV_ok (op : Int) (l : List Vl) : OkR (callV op l) := by
  unfold callV
  split
  · match l with
    | [] => exact okR_none (by decide)
    | [a] =>
      show OkR (notV a)
      unfold notV
      split
      · exact okR_truth _
      · exact okR_none (by decide)
    | [a, b] =>
      show OkR (callTwo op a b)
      unfold callTwo
      split
      · unfold sameV; split
        · exact okR_truth _
        · exact okR_none (by decide)
      · split
        · unfold lessV; split
          · exact okR_truth _
          · rcases lessOf_err a b with h | h | h <;> rw [h] <;> exact okR_none (by decide)
        · split
          · unfold bothV; split
            · exact okR_truth _
            · exact okR_none (by decide)
          · unfold reckV; split
            · by_cases h2 : In64 (opF op a.n b.n)
              · rw [fits_in h2]
                exact ⟨numV_ok h2, ini0⟩
              · rw [fits_out h2]
                exact okR_none ini3
            · exact okR_none (by decide)
    | _ :: _ :: _ :: _ => exact okR_none (by decide)
  · exact okR_none (by decide)
def OkP (p : Prt) : Prop := (p.v.ok ∧ InI p.e) ∧ (∀ v ∈ p.bag, v.ok) ∧ p.bag.length ≤ 140737488351232
theorem single_ok {l : List Vl} (h : ∀ v ∈ l, v.ok) : OkR (singleV l) := by
  match l, h with
  | [], _ => exact okR_none ini4
  | [v], h => exact ⟨h v (by simp), ini0⟩
  | _ :: _ :: _, _ => exact okR_none ini4
theorem reckP_ok (op : Int) {of : List Prt} (h : ∀ p ∈ of, OkP p) : OkR (reckP op of) := by
  unfold reckP
  split
  · match of, h with
    | [], _ => exact okR_none ini0
    | p :: _, h => exact single_ok (h p (by simp)).2.1
  · split
    · match of, h with
      | [], _ => exact okR_none ini0
      | p :: _, h =>
        have hp := (h p (by simp)).2.2
        exact ⟨numV_ok (by unfold InI; omega), ini0⟩
    · split
      · match of with
        | [] => exact okR_none ini0
        | [_] => exact okR_none ini0
        | _ :: _ :: _ => exact okR_truth _
      · exact callV_ok op _
theorem errL_ok {of : List Prt} (h : ∀ p ∈ of, OkP p) : InI (errL of) := by
  induction of with
  | nil => exact ini0
  | cons p r ih =>
    unfold errL
    split
    · exact (h p (by simp)).1.2
    · exact ih fun q hq => h q (by simp [hq])
theorem getE_ok (ask : List Giv) (a : Atr) : InI (getE ask a) := by
  unfold getE
  split
  · exact ini4
  · exact ini0
theorem madeP_ok {ask : List Giv} {n : Nod} {of : List Prt} (hn : n.v.ok) (h : ∀ p ∈ of, OkP p) : (madeP ask n of).v.ok ∧ InI (madeP ask n of).e := by
  unfold madeP
  split
  · exact ⟨hn, ini0⟩
  · split
    · exact ⟨noneV_ok, getE_ok _ _⟩
    · split
      · exact ⟨truthV_ok _, ini0⟩
      · split
        · exact ⟨noneV_ok, errL_ok h⟩
        · exact reckP_ok _ h
theorem Prts.oks {w : World} {R : Nat → Prop} {A : Option Addr} {n c : Nat} {l : List Prt} (h : Prts w R A n c l) : ∀ p ∈ l, OkP p := by
  intro p hp
  obtain ⟨j, hj, rfl⟩ := List.getElem_of_mem hp
  obtain ⟨b, o, x, A', n', c', e, _, _, hx, hok, _, hin⟩ := h.at_ (j := j) (by have := Rw.len h; omega)
  rw [List.getElem?_eq_getElem hj] at hx
  injection hx with hx
  subst hx
  exact ⟨hok, hin.oks, by rw [Rw.len hin]; exact Rw.big hin⟩

theorem runX_take : ∀ {l : List Nod} {s s' : List Bool} {k : Nat} {n : Nod}, runX l s = some s' → l[k]? = some n → ∃ u u', runX (l.take k) s = some u ∧ stepX n u = some u' ∧ runX (l.take (k + 1)) s = some u'
  | [], _, _, _, _, _, h => by simp at h
  | x :: l, s, s', 0, n, h, hn => by
    simp at hn
    subst hn
    simp only [runX] at h
    cases hs : stepX x s with
    | none => rw [hs] at h; cases h
    | some u => exact ⟨s, u, rfl, hs, by simp [runX, hs]⟩
  | x :: l, s, s', k + 1, n, h, hn => by
    simp only [runX] at h
    cases hs : stepX x s with
    | none => rw [hs] at h; cases h
    | some u =>
      rw [hs] at h
      obtain ⟨a, b, h1, h2, h3⟩ := runX_take h (by simpa using hn)
      refine ⟨a, b, ?_, h2, ?_⟩
      · simp only [List.take_succ_cons, runX, hs]; exact h1
      · simp only [List.take_succ_cons, runX, hs]; exact h3
theorem right_size {v : Vl} (h : v.right) : v.s.size ≤ 64 := by
  have e : v.s.size = v.l.length := by unfold Vl.l; rfl
  rw [e]
  unfold Vl.right RightV Named at h
  rcases h with ⟨_, h, _⟩ | ⟨_, h⟩ | ⟨_, _, h⟩ | ⟨_, h, _⟩ | ⟨_, _, h, _⟩
  all_goals first | (rw [h]; simp) | omega
theorem run_at {ask : List Giv} {l : List Nod} (h : exprE l = 0) {k : Nat} {n : Nod} (hn : l[k]? = some n) :
    takesN n.op ≤ (runP ask (l.take k) []).length ∧ runP ask (l.take (k + 1)) [] = stepP ask (runP ask (l.take k) []) n ∧ (n.op = 1 → n.v.s.size ≤ 1000000) ∧ (runP ask (l.take k) []).length ≤ k := by
  have hne : l ≠ [] := by rintro rfl; simp at hn
  obtain ⟨_, hr⟩ := exprE_ok h hne
  obtain ⟨u, u', h1, h2, h3⟩ := runX_take hr hn
  have hf := (runP_frame (ask := ask) (t := []) (st := []) h1 rfl).2
  obtain ⟨a, b, c⟩ := stepX_len h2
  refine ⟨by omega, ?_, fun h1 => ?_, ?_⟩
  · rw [take_next hn, runP_app]; rfl
  · unfold holdsB at c
    rw [if_pos h1] at c
    simp at c
    have := right_size c.1
    omega
  · have : ∀ (m : List Nod) (s : List Prt), (runP ask m s).length ≤ s.length + m.length := by
      intro m
      induction m with
      | nil => intro s; simp [runP]
      | cons x m ih =>
        intro s
        rw [runP_cons]
        have h1 := ih (stepP ask s x)
        have h2 : (stepP ask s x).length ≤ s.length + 1 := by unfold stepP; rw [List.length_append, List.length_take]; simp
        simp; omega
    have := this (l.take k) []
    rw [List.length_take] at this
    simp at this
    omega
theorem run_end {ask : List Giv} {l : List Nod} (h : exprE l = 0) (hn : l ≠ []) : ∃ p, runP ask l [] = [p] ∧ valP ask l = (p.v, p.e) := by
  obtain ⟨p, h1, h2⟩ := run_right (ask := ask) h hn
  exact ⟨p, h1 [], h2⟩
theorem valP_bad {ask : List Giv} {l : List Nod} (h : l = [] ∨ exprE l ≠ 0) : valP ask l = (noneV, 1) := if_pos h
end Go.Proofs.YtmoglaknmlhpgaaGreat
/- A region that draws its order: its head, in whatever order, under a condition on the world (loads that it tells are taken first); and a forced tail, that may break the condition. -/
namespace Go.Proofs.YtmoglaknmlhpgaaGreat
open Go Go.RowKit

section
variable {P : Program} {ops : Array Oper} {md : Region.Mode} {Q : Exit → Act → World → Prop} {S : World → Prop} {L : Array Bool → Act → World → Prop} {n : Nat}

def HeadS (P : Program) (md : Region.Mode) (ops : Array Oper) (Q : Exit → Act → World → Prop) (S : World → Prop) (n : Nat) (L : Array Bool → Act → World → Prop) : Nat → Array Bool → Act → World → Prop
  | 0, listed, a, w => L listed a w
  | f + 1, listed, a, w => Region.ready md ops listed ≠ [] ∧ ∀ i ∈ Region.ready md ops listed, i < n ∧ wpOp P ops Q i (fun a' w' => S w' ∧ HeadS P md ops Q S n L f (listed.setIfInBounds i true) a' w') a w

theorem HeadS.any {g : Nat} (hL : ∀ listed a w, L listed a w → wpAny P md ops Q g listed a w) :
    ∀ (f : Nat) (listed : Array Bool) (a : Act) (w : World), HeadS P md ops Q S n L f listed a w → wpAny P md ops Q (f + g) listed a w
  | 0, _, _, _, h => by rw [Nat.zero_add]; exact hL _ _ _ h
  | f + 1, _, _, _, h => by
    rw [show f + 1 + g = (f + g) + 1 by omega]
    exact ⟨fun h0 => absurd h0 h.1, fun i hi => wpOp_mono (fun a' w' h' => HeadS.any hL f _ a' w' h'.2) (h.2 i hi).2⟩

theorem HeadS.first {i : Nat} {oi : Oper} {v : Value} (hi : ops[i]? = some oi) (hsel : ∀ (j : Nat) (o : Oper) cs b, ops[j]? = some o → o.op ≠ .select cs b)
    (hQ : ∀ c a w, Q (.panic c) (a.put oi.dst v) w → Q (.panic c) a w)
    (hs : Region.sinkB md ops n = true) (hc : Region.chainB md ops n = true) (hn : n < ops.size) (hin : i < n) (hdone : ∀ listed a w, L listed a w → ∀ j ∈ Region.ready md ops listed, n ≤ j) :
    ∀ (f : Nat) (listed : Array Bool) (a : Act) (w : World), HeadInv md ops n listed →
      (∀ j oj, ops[j]? = some oj → j ≠ i → listed.getD j true = false → (∀ e ∈ oj.after, Region.binds md e = true → e.on ≠ i) → oi.apart ops oj = true) →
      i ∈ Region.ready md ops listed → YieldsIf P ops S oi v a → S w → HeadS P md ops Q S n L f (listed.setIfInBounds i true) (a.put oi.dst v) w → HeadS P md ops Q S n L (f + 1) listed a w := by
  intro f
  induction f with
  | zero =>
    intro listed a w inv _ hr hy hS H
    refine ⟨fun h => (by rw [h] at hr; cases hr), fun j hj => ?_⟩
    have hjn : j < n := Nat.lt_of_not_le fun h => tail_waits hs hc hn inv _ i rfl hin (mem_ready.1 hr).1 j h hj
    refine ⟨hjn, ?_⟩
    by_cases hji : j = i
    · subst hji; exact hy.wpOp hi hS ⟨hS, H⟩
    · have := hdone _ _ _ H j (ready_mono hj hji)
      omega
  | succ f ih =>
    intro listed a w inv hfree hr hy hS H
    have hun := (mem_ready.1 hr).1
    refine ⟨fun h => (by rw [h] at hr; cases hr), fun j hj => ?_⟩
    have hjn : j < n := Nat.lt_of_not_le fun h => tail_waits hs hc hn inv _ i rfl hin hun j h hj
    refine ⟨hjn, ?_⟩
    by_cases hji : j = i
    · subst hji; exact hy.wpOp hi hS ⟨hS, H⟩
    · have h1 := (H.2 j (ready_mono hj hji)).2
      obtain ⟨hjun, oj, hoj, hall⟩ := mem_ready.1 hj
      have hnot : ∀ e ∈ oj.after, Region.binds md e = true → e.on ≠ i := fun e he hb heq => by
        have h1 := hall e he hb
        rw [heq, getD_both hun] at h1
        cases h1
      have h2 := wpOp_putIf hoj (hfree j oj hoj hji hjun hnot) (fun cs b => hsel i oi cs b hi) (fun cs b => hsel j oj cs b hoj) hQ hy h1
      have hfree' : ∀ k ok, ops[k]? = some ok → k ≠ i → (listed.setIfInBounds j true).getD k true = false →
          (∀ e ∈ ok.after, Region.binds md e = true → e.on ≠ i) → oi.apart ops ok = true := fun k ok hk hki hun' hno => by
        refine hfree k ok hk hki ?_ hno
        by_cases hjk : j = k
        · subst hjk; exact hjun
        · rw [getD_set_ne true hjk] at hun'; exact hun'
      refine wpOp_mono (fun a' w' h3 => ⟨h3.2.1, ih (listed.setIfInBounds j true) a' w' (inv.set hj hjn) hfree' (ready_mono hr (Ne.symm hji)) h3.1 h3.2.1 ?_⟩) h2
      rw [Array.setIfInBounds_comm _ _ hji]
      exact h3.2.2

def HeadW (P : Program) (md : Region.Mode) (ops : Array Oper) (Q : Exit → Act → World → Prop) (S : World → Prop) (n : Nat) (L : Array Bool → Act → World → Prop) (f : Nat) (listed : Array Bool) (a : Act) (w : World) : Prop :=
  HeadInv md ops n listed → HeadS P md ops Q S n L f listed a w
def HeadG (md : Region.Mode) (ops : Array Oper) (n : Nat) (L : Array Bool → Act → World → Prop) : Prop :=
  Region.noSelect ops = true ∧ Region.sinkB md ops n = true ∧ Region.chainB md ops n = true ∧ n < ops.size ∧ ∀ listed a w, L listed a w → ∀ j ∈ Region.ready md ops listed, n ≤ j

theorem HeadW_take {i : Nat} {oi : Oper} {v : Value} {f : Nat} {listed : Array Bool} {a : Act} {w : World} (G : HeadG md ops n L) (hi : ops[i]? = some oi)
    (hin : Nat.blt i n = true) (hf : Region.free md ops listed i = true) (hr : (Region.ready md ops listed).contains i = true)
    (hQ : ∀ c a w, Q (.panic c) (a.put oi.dst v) w → Q (.panic c) a w) (hy : YieldsIf P ops S oi v a) (hS : S w)
    (h : HeadW P md ops Q S n L f (listed.setIfInBounds i true) (a.put oi.dst v) w) : HeadW P md ops Q S n L (f + 1) listed a w := fun inv => by
  have hin' : i < n := by simpa using hin
  have hr' : i ∈ Region.ready md ops listed := by simpa using hr
  exact HeadS.first hi (Region.noSelect_spec G.1) hQ G.2.1 G.2.2.1 G.2.2.2.1 hin' G.2.2.2.2 f listed a w inv (Region.free_spec hi hf) hr' hy hS (h (inv.set hr' hin'))

def AllW (P : Program) (md : Region.Mode) (ops : Array Oper) (Q : Exit → Act → World → Prop) (S : World → Prop) (n : Nat) (L : Array Bool → Act → World → Prop) (f : Nat) (listed : Array Bool) (a : Act) (w : World) (rs : List Nat) : Prop :=
  ∀ i ∈ rs, wpOp P ops Q i (fun a' w' => S w' ∧ HeadW P md ops Q S n L f (listed.setIfInBounds i true) a' w') a w
theorem AllW.nil {f : Nat} {listed : Array Bool} {a : Act} {w : World} : AllW P md ops Q S n L f listed a w [] := fun _ h => by cases h
theorem AllW.cons {f : Nat} {listed : Array Bool} {a : Act} {w : World} {i : Nat} {o : Oper} {rs : List Nat} (ho : ops[i]? = some o)
    (h : ∀ K' : Act → World → Prop, (∀ a w, S w → HeadW P md ops Q S n L f (listed.setIfInBounds i true) a w → K' a w) → if Region.wanted o (yielded ops a.tmps) = true then Oper.wp P o a w K' Q else K' (a.put o.dst undef) w)
    (hs : AllW P md ops Q S n L f listed a w rs) : AllW P md ops Q S n L f listed a w (i :: rs) := fun j hj => by
  rcases List.mem_cons.1 hj with rfl | hj
  · exact wpOp_step ho fun K' hK => h K' fun a w h1 h2 => hK a w ⟨h1, h2⟩
  · exact hs j hj
theorem HeadW_ready {rs : List Nat} {f : Nat} {listed : Array Bool} {a : Act} {w : World} (hr : Region.ready md ops listed = rs) (hne : rs.isEmpty = false) (hin : rs.all (fun i => Nat.blt i n) = true)
    (h : AllW P md ops Q S n L f listed a w rs) : HeadW P md ops Q S n L (f + 1) listed a w := fun inv => by
  subst hr
  refine ⟨fun h0 => (by rw [h0] at hne; cases hne), fun i hi => ?_⟩
  have hin' : i < n := by simpa using List.all_eq_true.1 hin i hi
  exact ⟨hin', wpOp_mono (fun a' w' h' => ⟨h'.1, h'.2 (inv.set hi hin')⟩) (h i hi)⟩

def TailL (P : Program) (ops : Array Oper) (Q : Exit → Act → World → Prop) (n g : Nat) (r : List Oper) (listed : Array Bool) (a : Act) (w : World) : Prop := Region.seqB .any ops g n listed = true ∧ wpList P ops Q r a w

theorem wp_region_held_tail {id : Nat} {a : Act} {w : World} {l : List Oper} (S : World → Prop) (n : Nat) (hm : P.follows .mixedOrders = true)
    (hB : (Region.noSelect l.toArray && Nat.blt n l.length && Region.sinkB .any l.toArray n && Region.chainB .any l.toArray n) = true)
    (h : HeadG .any l.toArray n (TailL P l.toArray Q n (l.length - n) (l.drop n)) → HeadW P .any l.toArray Q S n (TailL P l.toArray Q n (l.length - n) (l.drop n)) n (Array.replicate l.toArray.size false) a { w with drawn := w.drawn + 1 }) :
    (Code.region id l.toArray true).wp P Q a w := by
  simp only [Bool.and_eq_true] at hB
  obtain ⟨⟨⟨hsel, hn⟩, hs⟩, hc⟩ := hB
  have hn' : n < l.length := by simpa using hn
  have hdl : (l.drop n).length = l.toArray.size - n := by simp
  have inv0 : HeadInv .any l.toArray n (Array.replicate l.toArray.size false) :=
    ⟨by simp, fun j oj _ hl => (by rw [getD_replicate_false] at hl; cases hl), fun t _ ht => getD_in (by simpa using ht) (getD_replicate_false _ _)⟩
  have H := h ⟨hsel, hs, hc, by simpa using hn', fun listed a w hL => seqB_ready hL.1⟩ inv0
  refine wp_region_any hm ?_
  have := HeadS.any (g := l.toArray.size - n) (fun listed a' w' hL => by
    have := wpAny_of_seq (md := .any) (Q' := Q) (l.drop n) n listed a' w' (fun j => by simp [List.getElem?_drop]) (by rw [hdl]; simpa using hL.1) hL.2
    rwa [hdl] at this) _ _ _ _ H
  rw [show n + (l.toArray.size - n) = l.toArray.size by simp; omega] at this
  exact this
end
end Go.Proofs.YtmoglaknmlhpgaaGreat
/- expr.Value. -/
namespace Go.Proofs.YtmoglaknmlhpgaaGreat
set_option linter.unusedVariables false
open Go.RowKit Go.Sort

theorem Gr.prts {w : World} {base n c : Nat} {A : Option Addr} {l : List Prt} (h : Gr 5 PartAt w base 148 A n c l) (hn : n ≤ 1000000) : Prts w (fun b => base ≤ b) A n c l := Gr.rw keeps_part h (by omega)
theorem round_part {ask : List Giv} {wr w1 : World} {base h c : Nat} {A A1 : Option Addr} {n1 c1 : Nat} {st : List Prt} {n : Nod} (G : Gr 5 PartAt wr base 148 A h c st) (hh : h ≤ 1000) (ht : takesN n.op ≤ h) (hn : n.v.ok)
    (hb : Below wr.heap.size wr w1) {lo : Nat} (hlo : wr.heap.size ≤ lo) (hv : Vls w1 (fun b => lo ≤ b) A1 n1 c1 (madeP ask n (st.drop (h - takesN n.op))).bag) :
    ∃ A' c' w', (Builtin.append_ #[145, 145] 145 #[.slice A (h - takesN n.op) c, .slice (some ⟨w1.heap.size, 0, none⟩) 1 1]).run Tryz.prog (w1.alloc (.cells #[.slice A1 n1 c1, .int .i64 (madeP ask n (st.drop (h - takesN n.op))).v.k, .int .i64 (madeP ask n (st.drop (h - takesN n.op))).v.n, .string (madeP ask n (st.drop (h - takesN n.op))).v.s, .int .i64 (madeP ask n (st.drop (h - takesN n.op))).e] 148)) = .ok (.slice A' (h - takesN n.op + 1) c') w' ∧
      Gr 5 PartAt w' base 148 A' (h - takesN n.op + 1) c' (stepP ask st n) ∧ Below base wr w' := by
  have hlen : st.length = h := Gr.len G
  have hok := madeP_ok (ask := ask) (of := st.drop (h - takesN n.op)) hn (fun p hp => (G.prts (by omega)).oks p (List.mem_of_mem_drop hp))
  have G1 := (Gr.below keeps_part G hb).take keeps_part (j := h - takesN n.op) (by omega)
  obtain ⟨A', c', w', r, g, b⟩ := push_part (p := madeP ask n (st.drop (h - takesN n.op))) G1 hok (hv.keep (Kept.refl _ _) (fun b hb' _ => by
    have := G.apart b (Nat.le_trans hlo hb')
    exact ⟨this.1, by rw [own_block A _ h c c]; exact this.2⟩)) (by omega)
  refine ⟨A', c', w', r, ?_, (hb.mono G.2).trans b⟩
  have : stepP ask st n = st.take (h - takesN n.op) ++ [madeP ask n (st.drop (h - takesN n.op))] := by unfold stepP; rw [hlen]
  rw [this]
  exact g

set_option maxRecDepth 100000 in
set_option maxHeartbeats 3200000 in
theorem eval_bad {ask : List Giv} {w : World} {R : Nat → Prop} {A : Option Addr} {n c : Nat} {l : List Nod} (h : Nds w R A n c l) (A2 : Option Addr) (n2 c2 : Nat) (hb : l = [] ∨ exprE l ≠ 0) :
    Calls Tryz.prog 47 #[.slice A n c, .slice A2 n2 c2] w fun e w' => e = .returned (.tuple #[(valP ask l).1.val, .int .i64 (valP ask l).2]) ∧ Below w.heap.size w w' := by
  have hle := Rw.le h
  have hcap := Rw.cap h
  unfold maxLen at hcap
  have HQ := Lib.hid (valP_bad (ask := ask) hb)
  have HX := Lib.hid (fun W (hW : Below w.heap.size w W) => expr_any W (h.keep (Kept.all hW R) (fun _ h _ => h)))
  have hlen := Rw.len h
  by_cases h0 : n = 0
  · subst h0
    clear h hb hlen HX
    go_enter Tryz.func47, Tryz.ntmps47
    go_wp2_with fail
    try simp only [Exit.inBlock, Exit.then]
    refine bodyPost_ret (box_ret2 rfl rfl rfl (Bx.made _ _ _ _)) rfl ?_
    exact ⟨eret_pair (v := noneV) HQ.out, below1 _ _⟩
  · have hz : ((n : Int) == 0) = false := by rw [beq_eq_false_iff_ne]; omega
    have he : exprE l ≠ 0 := hb.elim (fun e => absurd (by rw [← hlen, e]; rfl) h0) id
    have hne : (exprE l != 0) = true := by rw [bne_iff_ne]; exact he
    generalize exprE l = xe at *
    have HD := Lib.hid (below1 w (.cells #[.int .i64 0, .int .i64 0, .string ⟨#[]⟩] 40))
    clear h hb hlen he
    go_enter Tryz.func47, Tryz.ntmps47
    go_wp2_with (go_at_call 79; refine (HX.out _ HD.out).mono ?_; rintro e w1 ⟨rfl, hb1⟩
                 have R1 := Lib.hid ((Bx.made w 0 0 ⟨#[]⟩).then_ hb1)
                 have D1 := Lib.hid (Below.lit hb1)
                 have c0 := R1.out.c3
                 have f0 := R1.out.fz
                 clear hb1)
    try simp only [Exit.inBlock, Exit.then]
    refine bodyPost_ret (box_ret2 rfl rfl rfl (R1.out.put _ _ _)) rfl ?_
    exact ⟨eret_pair (v := noneV) HQ.out, below_put D1.out (Nat.le_refl _) _ _ _⟩
set_option maxRecDepth 100000 in
set_option maxHeartbeats 6400000 in
theorem eval_good {ask : List Giv} {w : World} {R R2 : Nat → Prop} {A A2 : Option Addr} {n c n2 c2 : Nat} {l : List Nod} (h : Nds w R A n c l) (hA : Gvs w R2 A2 n2 c2 ask) (hG : ShortG ask) (h0 : l ≠ []) (he : exprE l = 0) :
    Calls Tryz.prog 47 #[.slice A n c, .slice A2 n2 c2] w fun e w' => e = .returned (.tuple #[(valP ask l).1.val, .int .i64 (valP ask l).2]) ∧ Below w.heap.size w w' := by
  have hle := Rw.le h
  have hcap := Rw.cap h
  unfold maxLen at hcap
  have hl32 := (exprE_ok he h0).1
  have HL := Lib.hid (Rw.len h)
  have hn32 : n ≤ 32 := by have := HL.out; omega
  have HX := Lib.hid (fun W (hW : Below w.heap.size w W) => expr_any W (h.keep (Kept.all hW R) (fun _ h _ => h)))
  have hz : ((n : Int) == 0) = false := by rw [beq_eq_false_iff_ne]; have : l.length ≠ 0 := fun e => h0 (List.eq_nil_of_length_eq_zero e); have := HL.out; omega
  obtain ⟨pz, hpz, hvz⟩ := run_end (ask := ask) he h0
  have HEND := Lib.hid hpz
  have HV := Lib.hid hvz
  have HRUN := Lib.hid (fun (k : Nat) (x : Nod) (hx : l[k]? = some x) => run_at (ask := ask) he hx)
  have HND := Lib.hid (fun W (hW : Below w.heap.size w W) => h.keep (Kept.all hW R) (fun _ h _ => h))
  have HGV := Lib.hid (fun W (hW : Below w.heap.size w W) => hA.keep (Kept.all hW R2) (fun _ h _ => h))
  have HG := Lib.hid hG
  rw [he] at HX
  have HD := Lib.hid (below1 w (.cells #[.int .i64 0, .int .i64 0, .string ⟨#[]⟩] 40))
  generalize valP ask l = rr at *
  clear h hA hG h0 he hpz hvz hl32
  go_enter Tryz.func47, Tryz.ntmps47
  go_wp2_with (go_at_call 79; refine (HX.out _ HD.out).mono ?_; rintro e w1 ⟨rfl, hb1⟩
               have R1 := Lib.hid ((Bx.made w 0 0 ⟨#[]⟩).then_ hb1)
               have D1 := Lib.hid (Below.lit hb1)
               have Z1 := Lib.hid (Nat.lt_of_lt_of_le (Nat.lt_succ_self _) (size_al w (.cells #[.int .i64 0, .int .i64 0, .string ⟨#[]⟩] 40) ▸ hb1.size))
               clear hb1)
  go_loopw [6, 21] (fun out i wr => ∃ (k h : Nat) (A' : Option Addr) (c' : Nat), k ≤ n ∧ i = .int .i64 k ∧ out = .slice A' h c' ∧ Gr 5 PartAt wr (w.heap.size + 1) 148 A' h c' (runP ask (l.take k) []) ∧ Below (w.heap.size + 1) w1 wr) (fun out i _ => n - (intOf i).toNat)
  case atStart => exact ⟨0, 0, none, 0, Nat.zero_le _, rfl, rfl, Gr.nil _ _ Z1.out, Below.refl _ _⟩
  case round =>
    obtain ⟨k, hh, A', c', hk, rfl, rfl, hgr, hb⟩ := hrel
    have HGR := Lib.hid hgr
    have HB := Lib.hid hb
    have HW := Lib.hid (D1.out.trans (hb.mono (Nat.le_succ _)))
    have R2 := Lib.hid (R1.out.below hb (Nat.lt_succ_self _))
    clear hgr hb
    by_cases hlt : k < n
    · obtain ⟨b, o, x, rfl, hRb, hbl, hx, hok, c0, c1, c2', c3, c4, c5, c6⟩ := (HND.out wr HW.out).at_ hlt
      obtain ⟨ht, hst, hsx, hhk⟩ := HRUN.out k x hx
      have hlen : (runP ask (l.take k) []).length = hh := Gr.len HGR.out
      rw [hlen] at ht hhk
      generalize runP ask (l.take k) [] = st at *
      have HST := Lib.hid hst
      have HOK := Lib.hid hok
      have hhc : hh ≤ c' := Rw.le (HGR.out.prts (by omega))
      have hcm : c' ≤ maxLen := Rw.cap (HGR.out.prts (by omega))
      unfold maxLen at hcm
      have HTK := Lib.hid (etakes_any x.op)
      have d1 : Below wr.heap.size wr (wr.alloc (.cells #[.int .i64 x.op, .int .i64 x.v.k, .int .i64 x.v.n, .string x.v.s, .int .i64 x.a.cat, .string x.a.name, .bool x.a.must] 58)) := below1 _ _
      have hpr := (HGR.out.prts (by omega)).up d1
      have ND := Lib.hid (Ob.made wr 58 #[.int .i64 x.op, .int .i64 x.v.k, .int .i64 x.v.n, .string x.v.s, .int .i64 x.a.cat, .string x.a.name, .bool x.a.must])
      have DD := Lib.hid d1
      have HM := Lib.hid (fun W (hW : Below (wr.alloc (.cells #[.int .i64 x.op, .int .i64 x.v.k, .int .i64 x.v.n, .string x.v.s, .int .i64 x.a.cat, .string x.a.name, .bool x.a.must] 58)).heap.size (wr.alloc (.cells #[.int .i64 x.op, .int .i64 x.v.k, .int .i64 x.v.n, .string x.v.s, .int .i64 x.a.cat, .string x.a.name, .bool x.a.must] 58)) W) =>
        emade_any (ask := ask) x hsx W ((hpr.up hW).drop (m := hh - takesN x.op) (by omega)) (by omega) (HGV.out W (HW.out.trans ((DD.out.trans (hW.mono DD.out.size)).mono HW.out.size))) HG.out)
      have HR := Lib.hid (fun w1 (hb : Below wr.heap.size wr w1) A1 n1 c1 lo hlo hv => round_part (ask := ask) (n := x) HGR.out (by omega) ht hok.2.1 hb (A1 := A1) (n1 := n1) (c1 := c1) (lo := lo) hlo hv)
      obtain ⟨pm, hpm⟩ : ∃ pm, pm = madeP ask x (st.drop (hh - takesN x.op)) := ⟨_, rfl⟩
      rw [← hpm] at HM HR
      obtain ⟨tk, htk⟩ : ∃ tk, tk = takesN x.op := ⟨_, rfl⟩
      rw [← htk] at HTK HM HR ht
      obtain ⟨xo, ⟨xk, xn, xs⟩, ⟨xc, xm, xu⟩⟩ := x
      simp only at c0 c1 c2' c3 c4 c5 c6 HTK ND DD HM
      unfold Nod.val at HM
      simp only at HM
      have hsub : IntKind.i64.wrap ((hh : Int) - (tk : Int)) = ((hh - tk : Nat) : Int) := by rw [IntKind.wrap_i64]; omega
      clear hpr d1 hx hok hst hsx hlen hRb hpm htk
      go_upto_region 8 with (go_at_call 80; refine (HTK.out _).mono ?_; rintro e w2 ⟨rfl, rfl⟩)
      generalize wr.alloc (.cells #[.int .i64 xo, .int .i64 xk, .int .i64 xn, .string xs, .int .i64 xc, .string xm, .bool xu] 58) = W1 at *
      have hjh : hh - tk ≤ hh := by omega
      generalize hh - tk = jj at *
      have q0 : (0 : Int) ≤ (jj : Int) := by omega
      have q1 : (jj : Int) ≤ (c' : Int) := by omega
      have q2 : (jj : Int) ≤ (hh : Int) := by omega
      generalize hAq : (if c' = jj then A' else A'.map (·.add (jj * 5))) = Aq at *
      have KN : Hid (∀ W, Below W1.heap.size W1 W → Ob W wr.heap.size 58 #[.int .i64 xo, .int .i64 xk, .int .i64 xn, .string xs, .int .i64 xc, .string xm, .bool xu]) := by
        show ∀ W, _ → _
        intro W hb
        exact ND.out.below hb ND.out.lt
      refine wp_region_held_tail (fun w' => Below W1.heap.size W1 w') 10 (by kernel_rfl) (by kernel_rfl) ?_
      intro G
      change HeadW _ _ _ _ _ _ _ _ _ _ (W1.drewN 1)
      have S0 := Lib.hid (below_drewN (Below.refl W1.heap.size W1) 1)
      generalize W1.drewN 1 = v0 at *
      refine HeadW_take (i := 0) (v := ?_) G rfl (by kernel_rfl) (by kernel_rfl) (by kernel_rfl) (fun _ _ _ h => h) (Or.inl ⟨by rfl, ?_⟩) S0.out ?_
      rotate_left
      · intro wz hS
        go_simp
        try with_reducible rfl
      refine HeadW_take (i := 1) (v := ?_) G rfl (by kernel_rfl) (by kernel_rfl) (by kernel_rfl) (fun _ _ _ h => h) (Or.inl ⟨by rfl, ?_⟩) S0.out ?_
      rotate_left
      · intro wz hS
        go_simp
        try with_reducible rfl
      refine HeadW_take (i := 2) (v := ?_) G rfl (by kernel_rfl) (by kernel_rfl) (by kernel_rfl) (fun _ _ _ h => h) (Or.inl ⟨by rfl, ?_⟩) S0.out ?_
      rotate_left
      · intro wz hS
        go_simp
        try with_reducible rfl
      refine HeadW_take (i := 3) (v := ?_) G rfl (by kernel_rfl) (by kernel_rfl) (by kernel_rfl) (fun _ _ _ h => h) (Or.inl ⟨by rfl, ?_⟩) S0.out ?_
      rotate_left
      · intro wz hS
        have hk0 := (KN.out _ hS).cell 0
        have hk1 := (KN.out _ hS).cell 1
        have hk2 := (KN.out _ hS).cell 2
        have hk3 := (KN.out _ hS).cell 3
        have hk4 := (KN.out _ hS).cell 4
        have hk5 := (KN.out _ hS).cell 5
        have hk6 := (KN.out _ hS).cell 6
        go_simp
        try with_reducible rfl
      refine HeadW_take (i := 4) (v := ?_) G rfl (by kernel_rfl) (by kernel_rfl) (by kernel_rfl) (fun _ _ _ h => h) (Or.inl ⟨by rfl, ?_⟩) S0.out ?_
      rotate_left
      · intro wz hS
        go_simp
        try with_reducible rfl
      refine HeadW_take (i := 5) (v := ?_) G rfl (by kernel_rfl) (by kernel_rfl) (by kernel_rfl) (fun _ _ _ h => h) (Or.inl ⟨by rfl, ?_⟩) S0.out ?_
      rotate_left
      · intro wz hS
        go_simp
        try with_reducible rfl
      refine HeadW_take (i := 6) (v := ?_) G rfl (by kernel_rfl) (by kernel_rfl) (by kernel_rfl) (fun _ _ _ h => h) (Or.inl ⟨by rfl, ?_⟩) S0.out ?_
      rotate_left
      · intro wz hS
        go_simp
        try rw [hAq]
        try with_reducible rfl
      refine HeadW_take (i := 7) (v := ?_) G rfl (by kernel_rfl) (by kernel_rfl) (by kernel_rfl) (fun _ _ _ h => h) (Or.inl ⟨by rfl, ?_⟩) S0.out ?_
      rotate_left
      · intro wz hS
        go_simp
        try with_reducible rfl
      refine HeadW_ready (rs := [8]) (by kernel_rfl) rfl rfl ?_
      refine AllW.cons rfl (fun K hK => ?_) AllW.nil
      go_simp
      refine (HM.out _ S0.out).mono ?_
      rintro e v2 ⟨A3, n3, c3, rfl, hb, hv⟩
      have S2 := Lib.hid (S0.out.trans (hb.mono S0.out.size))
      have hwv : Below wr.heap.size wr v2 := DD.out.trans (S2.out.mono DD.out.size)
      obtain ⟨A4, c4, v4, r4, g4, b4⟩ := HR.out v2 hwv A3 n3 c3 _ (Nat.le_trans DD.out.size S0.out.size) hv
      have R4 := Lib.hid r4
      have G4 := Lib.hid g4
      have B4 := Lib.hid (HB.out.trans b4)
      refine hK _ _ S2.out ?_
      clear hK K hb hv hwv r4 g4 b4
      refine HeadW_ready (rs := [9]) (by kernel_rfl) rfl rfl ?_
      refine AllW.cons rfl (fun K hK => ?_) AllW.nil
      go_simp
      refine hK _ _ (S2.out.alloc S2.out.size _) ?_
      clear hK K
      intro _
      refine ⟨by kernel_rfl, ?_⟩
      simp only [List.drop_succ_cons, List.drop_zero]
      at_builtin
      refine wpList_append_run rfl _ _ _ _ rfl rfl rfl R4.out ?_
      go_wp2_with fail
      go_roundw
      case rel => exact ⟨k + 1, jj + 1, A4, c4, by omega, by go_num, rfl, by rw [HST.out]; exact G4.out, B4.out⟩
      case measure => simp [intOf]; omega
    · obtain rfl : k = n := by omega
      have hg := HGR.out
      rw [List.take_of_length_le (by have := HL.out; omega), HEND.out] at hg
      obtain rfl : hh = 1 := (Gr.len hg).symm
      obtain ⟨b, o, x, Ax, nx, cx, rfl, hbb, _, hx, _, ⟨_, x1, x2, x3, x4⟩, _⟩ := (hg.prts (by omega)).at_ (j := 0) (by omega)
      simp at hx
      subst hx
      have hle' : 1 ≤ c' := Rw.le (hg.prts (by omega))
      obtain ⟨pb, ⟨pk, pn, ps⟩, pe⟩ := pz
      simp only [Nat.zero_mul, Nat.add_zero] at x1 x2 x3 x4
      have hbn : b ≠ w.heap.size := by omega
      clear hg
      go_upto_region 10 with fail
      refine wp_region_held_tail (fun w' => w'.heap[b]? = wr.heap[b]?) 9 (by kernel_rfl) (by kernel_rfl) ?_
      intro G
      change HeadW _ _ _ _ _ _ _ _ _ _ (wr.drewN 1)
      have S0 : Hid ((wr.drewN 1).heap[b]? = wr.heap[b]?) := rfl
      have R3 := Lib.hid (R2.out.drewN 1)
      have D3 := Lib.hid (below_drewN HW.out 1)
      generalize wr.drewN 1 = v0 at *
      refine HeadW_take (i := 0) (v := ?_) G rfl (by kernel_rfl) (by kernel_rfl) (by kernel_rfl) (fun _ _ _ h => h) (Or.inl ⟨by rfl, ?_⟩) S0.out ?_
      rotate_left
      · intro wz hS
        go_simp
        try with_reducible rfl
      refine HeadW_take (i := 1) (v := ?_) G rfl (by kernel_rfl) (by kernel_rfl) (by kernel_rfl) (fun _ _ _ h => h) (Or.inl ⟨by rfl, ?_⟩) S0.out ?_
      rotate_left
      · intro wz hS
        go_simp
        try with_reducible rfl
      refine HeadW_take (i := 2) (v := ?_) G rfl (by kernel_rfl) (by kernel_rfl) (by kernel_rfl) (fun _ _ _ h => h) (Or.inl ⟨by rfl, ?_⟩) S0.out ?_
      rotate_left
      · intro wz hS
        go_simp
        try with_reducible rfl
      refine HeadW_take (i := 3) (v := ?_) G rfl (by kernel_rfl) (by kernel_rfl) (by kernel_rfl) (fun _ _ _ h => h) (Or.inl ⟨by rfl, ?_⟩) S0.out ?_
      rotate_left
      · intro wz hS
        have y1 := (World.cell?_of_block hS).trans x1
        have y2 := (World.cell?_of_block hS).trans x2
        have y3 := (World.cell?_of_block hS).trans x3
        have y4 := (World.cell?_of_block hS).trans x4
        go_simp
        try with_reducible rfl
      refine HeadW_take (i := 4) (v := ?_) G rfl (by kernel_rfl) (by kernel_rfl) (by kernel_rfl) (fun _ _ _ h => h) (Or.inl ⟨by rfl, ?_⟩) S0.out ?_
      rotate_left
      · intro wz hS
        go_simp
        try with_reducible rfl
      refine HeadW_take (i := 5) (v := ?_) G rfl (by kernel_rfl) (by kernel_rfl) (by kernel_rfl) (fun _ _ _ h => h) (Or.inl ⟨by rfl, ?_⟩) S0.out ?_
      rotate_left
      · intro wz hS
        go_simp
        try with_reducible rfl
      refine HeadW_take (i := 6) (v := ?_) G rfl (by kernel_rfl) (by kernel_rfl) (by kernel_rfl) (fun _ _ _ h => h) (Or.inl ⟨by rfl, ?_⟩) S0.out ?_
      rotate_left
      · intro wz hS
        go_simp
        try with_reducible rfl
      refine HeadW_take (i := 7) (v := ?_) G rfl (by kernel_rfl) (by kernel_rfl) (by kernel_rfl) (fun _ _ _ h => h) (Or.inl ⟨by rfl, ?_⟩) S0.out ?_
      rotate_left
      · intro wz hS
        have y1 := (World.cell?_of_block hS).trans x1
        have y2 := (World.cell?_of_block hS).trans x2
        have y3 := (World.cell?_of_block hS).trans x3
        have y4 := (World.cell?_of_block hS).trans x4
        go_simp
        try with_reducible rfl
      have c0 := R3.out.c3
      have f0 := R3.out.fz
      have R4 := R3.out.put pk pn ps
      have f1 := (R3.out.put pk pn ps).fz
      refine HeadW_ready (rs := [8]) (by kernel_rfl) rfl rfl ?_
      refine AllW.cons rfl (fun K hK => ?_) AllW.nil
      go_simp
      refine hK _ _ (by
        show (World.heap _)[b]? = _
        rw [Below.heap_setCell _ _ _ _ (by show b ≠ w.heap.size; exact hbn), Below.heap_setCell _ _ _ _ (by show b ≠ w.heap.size; exact hbn), Below.heap_setCell _ _ _ _ (by show b ≠ w.heap.size; exact hbn)]
        exact S0.out) ?_
      clear hK K
      intro _
      refine ⟨by kernel_rfl, ?_⟩
      simp only [List.drop_succ_cons, List.drop_zero]
      go_wp2_with fail
      try simp only [Exit.inBlock, Exit.then]
      refine bodyPost_ret (box_ret2 rfl rfl rfl (R3.out.put _ _ _)) rfl ?_
      exact ⟨eret_pair HV.out, below_put D3.out (Nat.le_refl _) _ _ _⟩
theorem eval_any {ask : List Giv} {w : World} {R R2 : Nat → Prop} {A A2 : Option Addr} {n c n2 c2 : Nat} {l : List Nod} (h : Nds w R A n c l) (hA : Gvs w R2 A2 n2 c2 ask) (hG : ShortG ask) :
    Calls Tryz.prog 47 #[.slice A n c, .slice A2 n2 c2] w fun e w' => e = .returned (.tuple #[(valP ask l).1.val, .int .i64 (valP ask l).2]) ∧ Below w.heap.size w w' := by
  by_cases h0 : l = []
  · exact eval_bad h A2 n2 c2 (.inl h0)
  · by_cases he : exprE l = 0
    · exact eval_good h hA hG h0 he
    · exact eval_bad h A2 n2 c2 (.inr he)
end Go.Proofs.YtmoglaknmlhpgaaGreat
/- expr.Cond. -/
namespace Go.Proofs.YtmoglaknmlhpgaaGreat
set_option linter.unusedVariables false
open Go.RowKit Go.Sort

theorem etruth_t (w : World) : Calls Tryz.prog 48 #[.bool true] w fun e w' => e = .returned (.agg #[.int .i64 1, .int .i64 1, .string ⟨#[]⟩]) ∧ Below w.heap.size w w' := etruth_any true w
theorem etruth_f (w : World) : Calls Tryz.prog 48 #[.bool false] w fun e w' => e = .returned (.agg #[.int .i64 1, .int .i64 0, .string ⟨#[]⟩]) ∧ Below w.heap.size w w' := etruth_any false w
theorem condV_veq (k m : Int) (s : ByteArray) : condV ⟨k, m, s⟩ = if veq ⟨k, m, s⟩ ⟨1, 1, ⟨#[]⟩⟩ = true then 2 else if veq ⟨k, m, s⟩ ⟨1, 0, ⟨#[]⟩⟩ = true then 0 else 1 := by
  rcases condV_cases ⟨k, m, s⟩ with ⟨h1, h2⟩ | ⟨h1, h2⟩ | ⟨⟨h1, h3⟩, h2⟩ <;> rw [h2]
  · have ht : veq ⟨k, m, s⟩ ⟨1, 1, ⟨#[]⟩⟩ = true := veq_true h1
    rw [ht, if_pos rfl]
  · have hne : veq ⟨k, m, s⟩ ⟨1, 1, ⟨#[]⟩⟩ = false := veq_false (by rw [h1]; exact truth_ne.symm)
    have ht : veq ⟨k, m, s⟩ ⟨1, 0, ⟨#[]⟩⟩ = true := veq_true h1
    rw [hne, if_neg (by simp), ht, if_pos rfl]
  · have hne : veq ⟨k, m, s⟩ ⟨1, 1, ⟨#[]⟩⟩ = false := veq_false h1
    have hnf : veq ⟨k, m, s⟩ ⟨1, 0, ⟨#[]⟩⟩ = false := veq_false h3
    rw [hne, hnf, if_neg (by simp), if_neg (by simp)]
set_option maxRecDepth 100000 in
set_option maxHeartbeats 3200000 in
theorem econd_any {ask : List Giv} {w : World} {R R2 : Nat → Prop} {A A2 : Option Addr} {n c n2 c2 : Nat} {l : List Nod} (h : Nds w R A n c l) (hA : Gvs w R2 A2 n2 c2 ask) (hG : ShortG ask) :
    Calls Tryz.prog 35 #[.slice A n c, .slice A2 n2 c2] w fun e w' => e = .returned (.int .i64 (condP ask l)) ∧ Below w.heap.size w w' := by
  have hle := Rw.le h
  have hcap := Rw.cap h
  have hlen := Rw.len h
  unfold maxLen at hcap
  have HVAL := Lib.hid (eval_any h hA hG)
  by_cases h0 : n = 0
  · subst h0
    have hl : l = [] := List.eq_nil_of_length_eq_zero hlen
    have HQ : Hid (condP ask l = 2) := by show _ = _; unfold condP; rw [if_pos hl]
    clear h hA HVAL hlen
    go_enter Tryz.func35, Tryz.ntmps35
    go_wp2_with fail
    go_ret
    exact ⟨ret_int HQ.out.symm, Below.refl _ _⟩
  have hz : ((n : Int) == 0) = false := by rw [beq_eq_false_iff_ne]; omega
  have hl : l ≠ [] := by rintro rfl; exact h0 hlen.symm
  have HQ : Hid (condP ask l = condV (valP ask l).1) := condP_val hl
  generalize condP ask l = cc at *
  obtain ⟨⟨⟨k, m, s⟩, ee⟩, hp⟩ : ∃ q, q = valP ask l := ⟨_, rfl⟩
  rw [← hp] at HVAL HQ
  have HT := Lib.hid etruth_t
  have HF := Lib.hid etruth_f
  have e1 := fun W => val_eq k m 1 1 s ⟨#[]⟩ W
  have e2 := fun W => val_eq k m 1 0 s ⟨#[]⟩ W
  have HQ' : Hid (cc = if veq ⟨k, m, s⟩ ⟨1, 1, ⟨#[]⟩⟩ = true then 2 else if veq ⟨k, m, s⟩ ⟨1, 0, ⟨#[]⟩⟩ = true then 0 else 1) := by
    show _ = _
    rw [HQ.out]
    exact condV_veq k m s
  generalize veq ⟨k, m, s⟩ ⟨1, 1, ⟨#[]⟩⟩ = v1 at *
  generalize veq ⟨k, m, s⟩ ⟨1, 0, ⟨#[]⟩⟩ = v2 at *
  clear h hA hlen h0 hl hp HQ
  cases v1
  · cases v2
    · have hcc : cc = 1 := HQ'.out
      subst hcc
      go_enter Tryz.func35, Tryz.ntmps35
      go_wp2_with (first
        | (go_at_call 47; refine HVAL.out.mono ?_; rintro e w1 ⟨rfl, hb1⟩; have B1 := Lib.hid (hb1.alloc hb1.size (.cells #[.int .i64 k, .int .i64 m, .string s] 40)); simp only [Vl.val]; clear hb1)
        | (go_at_call 48; (with_reducible refine (HT.out _).mono ?_); rintro e w2 ⟨rfl, hb2⟩; have B2 := Lib.hid (below_step B1.out hb2); clear hb2)
        | (go_at_call 48; (with_reducible refine (HF.out _).mono ?_); rintro e w3 ⟨rfl, hb3⟩; have B3 := Lib.hid (below_step B2.out hb3); clear hb3))
      go_ret
      exact ⟨rfl, B3.out⟩
    · have hcc : cc = 0 := HQ'.out
      subst hcc
      go_enter Tryz.func35, Tryz.ntmps35
      go_wp2_with (first
        | (go_at_call 47; refine HVAL.out.mono ?_; rintro e w1 ⟨rfl, hb1⟩; have B1 := Lib.hid (hb1.alloc hb1.size (.cells #[.int .i64 k, .int .i64 m, .string s] 40)); simp only [Vl.val]; clear hb1)
        | (go_at_call 48; (with_reducible refine (HT.out _).mono ?_); rintro e w2 ⟨rfl, hb2⟩; have B2 := Lib.hid (below_step B1.out hb2); clear hb2)
        | (go_at_call 48; (with_reducible refine (HF.out _).mono ?_); rintro e w3 ⟨rfl, hb3⟩; have B3 := Lib.hid (below_step B2.out hb3); clear hb3))
      go_ret
      exact ⟨rfl, B3.out⟩
  · have hcc : cc = 2 := HQ'.out
    subst hcc
    go_enter Tryz.func35, Tryz.ntmps35
    go_wp2_with (first
      | (go_at_call 47; refine HVAL.out.mono ?_; rintro e w1 ⟨rfl, hb1⟩; have B1 := Lib.hid (hb1.alloc hb1.size (.cells #[.int .i64 k, .int .i64 m, .string s] 40)); simp only [Vl.val]; clear hb1)
      | (go_at_call 48; (with_reducible refine (HT.out _).mono ?_); rintro e w2 ⟨rfl, hb2⟩; have B2 := Lib.hid (below_step B1.out hb2); clear hb2))
    go_ret
    exact ⟨rfl, B2.out⟩
end Go.Proofs.YtmoglaknmlhpgaaGreat
/- Indet: the project's and the reference's. -/
namespace Go.Proofs.YtmoglaknmlhpgaaGreat
open Go.RowKit
attribute [local go_sem] eq0 feq2 eq4 fgt0 gt2 ord_eq ord_gt ord_lt run_max_fl

set_option maxHeartbeats 3200000 in
theorem indet_any (p d : Fin 5) (w : World) : Calls Tryz.prog 21 #[.complex .f64 (fl p) (fl d)] w fun z w' => z = .returned (.complex .f64 (fl (indetP p d)) (fl (indetD p d))) ∧ w = w' := by
  obtain rfl | rfl | rfl | rfl | rfl := five p
  all_goals
    obtain rfl | rfl | rfl | rfl | rfl := five d
    all_goals
      go_enter Tryz.func21, Tryz.ntmps21
      go_wp2
      go_ret
      exact ⟨ret_c (by decide +kernel) (by decide +kernel), rfl⟩
end Go.Proofs.YtmoglaknmlhpgaaGreat
/- Package eval: effect, Rule. -/
namespace Go.Proofs.YtmoglaknmlhpgaaGreat
set_option linter.unusedVariables false
open Go.RowKit Go.Sort
attribute [local go_sem] eq0 feq2 eq4 fgt0 gt2 ord_eq ord_gt ord_lt

theorem ev_store {P : Program} {w : World} {a : Addr} {m : Mode} (k : FloatKind) (x y : Nat) : (store a (.complex k x y) m).run P w = stored P w a (.complex k x y) m := run_store P w a _ m rfl
attribute [local go_sem] ev_store
theorem Ob.grownI {w : World} {g i : Nat} {t : TypeId} {cs : Array Value} {a : Value} (h : Ob w g t cs) (hi : cs[i]? = some a) : ∀ d os, (grow (redrawn w d) os).cell? ⟨g, i, none⟩ = some a :=
  fun d os => cell_regrown ((h.cell i).trans hi) d os
theorem res_ret {fn : Func} {t : Tmp} {tmps : Array Value} {w : World} {g : Nat} {m : Value} {A : Option Addr} {n c : Nat} (h : fn.results = #[.cell t 33]) (hp : tmps.getD t undef = .pointer (some ⟨g, 0, none⟩))
    (hg : Ob w g 33 #[m, .slice A n c]) : (results fn tmps).run Tryz.prog w = .ok (.agg #[m, .slice A n c]) w :=
  results_cell_row h tmps w g _ _ (0, 0) _ hp hg Tryz.underlying33 rfl (by kernel_rfl)
theorem Dus.set2 {w : World} {g B B0 : Nat} {A : Option Addr} {n c : Nat} {l : List Dut} (h : Dus w (fun b => B ≤ b) A n c l) (hg : g < B) (hB : B0 ≤ B) (u v : Value) : Dus ((w.setCell ⟨g, 0, none⟩ u).setCell ⟨g, 1, none⟩ v) (fun b => B0 ≤ b) A n c l :=
  h.keep ⟨by simp [World.setCell], fun b hb _ => (Below.heap_setCell _ _ _ _ (by have h1 : B ≤ b := hb; show b ≠ g; omega)).trans (Below.heap_setCell _ _ _ _ (by have h1 : B ≤ b := hb; show b ≠ g; omega))⟩ (fun b hb _ => Nat.le_trans hB hb)
theorem below_set2 {w w' : World} {g : Nat} (h : Below w.heap.size w w') (hg : w.heap.size ≤ g) (u v : Value) : Below w.heap.size w ((w'.setCell ⟨g, 0, none⟩ u).setCell ⟨g, 1, none⟩ v) :=
  (h.setCell (p := ⟨g, 0, none⟩) hg u).setCell (p := ⟨g, 1, none⟩) hg v
theorem Ob.set2 {w : World} {g : Nat} {t : TypeId} {a b : Value} (h : Ob w g t #[a, b]) (u v : Value) : Ob ((w.setCell ⟨g, 0, none⟩ u).setCell ⟨g, 1, none⟩ v) g t #[u, v] := by
  simpa using (h.put 0 u).put 1 v
theorem mark_na (m : Mk) (h : m = (0, 0)) : (.complex .f64 0 0 : Value) = .complex .f64 (fl m.1) (fl m.2) := by rw [h, fl0]

set_option maxHeartbeats 800000 in
theorem effect_any (w : World) (s : ByteArray) (b : Bool) (A1 : Option Addr) (n1 c1 : Nat) (A2 : Option Addr) (n2 c2 : Nat) (A3 : Option Addr) (n3 c3 : Nat) :
    Calls Tryz.prog 34 #[.agg #[.string s, .bool b, .slice A1 n1 c1, .slice A2 n2 c2, .slice A3 n3 c3]] w fun e w' => e = .returned (.complex .f64 (fl (effM b).1) (fl (effM b).2)) ∧ Below w.heap.size w w' := by
  have a1 := Lib.hid ((Below.refl w.heap.size w).alloc (Nat.le_refl _) (.cells #[.string s, .bool b, .slice A1 n1 c1, .slice A2 n2 c2, .slice A3 n3 c3] 61))
  cases b
  · go_enter Tryz.func34, Tryz.ntmps34
    go_wp2_with fail
    go_ret
    refine ⟨?_, a1.out⟩
    show _ = Ending.returned (.complex .f64 (fl 4) (fl 0))
    rw [fl0, fl4]
    rfl
  · go_enter Tryz.func34, Tryz.ntmps34
    go_wp2_with fail
    go_ret
    refine ⟨?_, a1.out⟩
    show _ = Ending.returned (.complex .f64 (fl 0) (fl 4))
    rw [fl0, fl4]
    rfl

def ShortD (l : List Dut) : Prop := ∀ o ∈ l, o.arg.size ≤ 1000000
set_option maxRecDepth 100000 in
set_option maxHeartbeats 3200000 in
theorem evrule_any {ask : List Giv} {w : World} {R R2 : Nat → Prop} {A : Option Addr} {n c : Nat} {r : Rul} {A1 A2 A3 : Option Addr} {n1 n2 n3 c1 c2 c3 : Nat} (h1 : Tg w R A1 n1 c1 r.tg) (h2 : Nds w R A2 n2 c2 r.cond) (h3 : Dus w R A3 n3 c3 r.ob)
    (hs : ShortD r.ob) (hn : n3 ≤ 500000) (hA : Gvs w R2 A n c ask) (hG : ShortG ask) :
    Calls Tryz.prog 23 #[.agg #[.string r.id, .bool r.deny, .slice A1 n1 c1, .slice A2 n2 c2, .slice A3 n3 c3], .slice A n c] w fun e w' => ∃ A' n' c', e = .returned (.agg #[.complex .f64 (fl (ruleV ask r).m.1) (fl (ruleV ask r).m.2), .slice A' n' c']) ∧ Below w.heap.size w w' ∧ Dus w' (fun b => w.heap.size ≤ b) A' n' c' (ruleV ask r).ob := by
  have HM := Lib.hid (fun W (hW : Below w.heap.size w W) => tgmet_any (w := W) (h1.keep (Kept.all hW R) (fun _ h _ => h)) (hA.keep (Kept.all hW R2) (fun _ h _ => h)) hG)
  have HC := Lib.hid (fun W (hW : Below w.heap.size w W) => econd_any (w := W) (h2.keep (Kept.all hW R) (fun _ h _ => h)) (hA.keep (Kept.all hW R2) (fun _ h _ => h)) hG)
  have HD := Lib.hid (fun W (hW : Below w.heap.size w W) (p d : Fin 5) => duties_any (w := W) p d (h3.keep (Kept.all hW R) (fun _ h _ => h)) hs hn)
  have HN := Lib.hid hn
  have HL3 := Lib.hid (Rw.len h3)
  have HE := Lib.hid (fun W => effect_any W r.id r.deny A1 n1 c1 A2 n2 c2 A3 n3 c3)
  have HV : Hid (ruleV ask r = ruleO (metI ask r.tg) (condP ask r.cond) r) := rfl
  have HT := Lib.hid (tri_met ask r.tg)
  have HK : Hid (condP ask r.cond = 0 ∨ condP ask r.cond = 1 ∨ condP ask r.cond = 2) := by
    show _ ∨ _
    unfold condP
    repeat' split
    all_goals simp
  have HO : Hid (ruleO (metI ask r.tg) (condP ask r.cond) r = if metI ask r.tg = 0 ∨ metI ask r.tg = 2 ∧ condP ask r.cond = 0 then noRes else if metI ask r.tg = 1 ∨ condP ask r.cond = 1 then ⟨indM (effM r.deny), []⟩ else ⟨effM r.deny, dutsM r.ob (effM r.deny)⟩) := rfl
  generalize metI ask r.tg = t at *
  generalize condP ask r.cond = cc at *
  generalize ruleV ask r = v at *
  generalize ruleO t cc r = v' at *
  obtain ⟨q, hq⟩ : ∃ q, q = effM r.deny := ⟨_, rfl⟩
  rw [← hq] at HE HO
  obtain ⟨p, d⟩ := q
  obtain ⟨s, b, tg, cond, ob⟩ := r
  simp only at HE HO HD HL3
  have OB := Lib.hid (Ob.made w 61 #[.string s, .bool b, .slice A1 n1 c1, .slice A2 n2 c2, .slice A3 n3 c3])
  have a1 : Below w.heap.size w (w.alloc (.cells #[.string s, .bool b, .slice A1 n1 c1, .slice A2 n2 c2, .slice A3 n3 c3] 61)) := (Below.refl w.heap.size w).alloc (Nat.le_refl _) _
  have OB2 := Lib.hid (OB.out.keep (w' := (w.alloc (.cells #[.string s, .bool b, .slice A1 n1 c1, .slice A2 n2 c2, .slice A3 n3 c3] 61)).alloc (.cells #[.complex .f64 0 0, .slice none 0 0] 33)) (Below.heap_alloc _ _ _ OB.out.lt))
  have OR := Ob.made (w.alloc (.cells #[.string s, .bool b, .slice A1 n1 c1, .slice A2 n2 c2, .slice A3 n3 c3] 61)) 33 #[.complex .f64 0 0, .slice none 0 0]
  rw [size_al] at OR
  have OR2 := Lib.hid OR
  have D2 := Lib.hid (a1.alloc (by rw [size_al]; omega) (.cells #[.complex .f64 0 0, .slice none 0 0] 33))
  have HZ2 : Hid (((w.alloc (.cells #[.string s, .bool b, .slice A1 n1 c1, .slice A2 n2 c2, .slice A3 n3 c3] 61)).alloc (.cells #[.complex .f64 0 0, .slice none 0 0] 33)).heap.size = w.heap.size + 2) := by show _ = _; rw [size_al, size_al]
  have o0 := OB2.out.cell 0
  have o1 := OB2.out.cell 1
  have o2 := OB2.out.cell 2
  have o3 := OB2.out.cell 3
  have o4 := OB2.out.cell 4
  clear h1 h2 h3 hs hn hA hG OB OR a1 hq
  go_enter Tryz.func23, Tryz.ntmps23
  go_wp2_with fail
  refine (HE.out _).mono ?_
  rintro e w1 ⟨rfl, hb⟩
  have D3 := Lib.hid (below_step D2.out hb)
  have OB3 := Lib.hid (OB2.out.below hb OB2.out.lt)
  have OR3 := Lib.hid (OR2.out.below hb OR2.out.lt)
  have HZ3 : Hid (w.heap.size + 2 ≤ w1.heap.size) := by have h1 := hb.size; have h2 := HZ2.out; show _ ≤ _; omega
  clear hb o0 o1 o2 o3 o4
  have g2 := OB3.out.grownI (i := 2) rfl
  have g3 := OB3.out.grownI (i := 3) rfl
  have QM := Lib.hid (fun d os => Calls.regrown_of (w := w1) (d := d) (os := os) (HM.out (grow (redrawn w1 d) os) (D3.out.trans ((below_regrown w1 d os).mono D3.out.size))))
  have QC := Lib.hid (fun d os => Calls.regrown_of (w := w1) (d := d) (os := os) (HC.out (grow (redrawn w1 d) os) (D3.out.trans ((below_regrown w1 d os).mono D3.out.size))))
  go_wp2_with fail
  refine wp_region_quiet_below (by kernel_rfl) (by kernel_rfl) ?_
  repeat (go_big_quiet_step (first | (go_at_call 24; with_reducible exact QM.out _ _) | (go_at_call 35; with_reducible exact QC.out _ _)))
  refine wpQuiet_nil ?_
  intro _ hw'
  obtain ⟨⟨dq, osq⟩, hw''⟩ := hw'
  subst hw''
  have hb := below_regrown w1 dq osq
  generalize grow (redrawn w1 dq) osq = w2 at *
  have D4 := Lib.hid (below_step D3.out hb)
  have OB4 := Lib.hid (OB3.out.below hb OB3.out.lt)
  have OR4 := Lib.hid (OR3.out.below hb OR3.out.lt)
  have HZ4 : Hid (w.heap.size + 2 ≤ w2.heap.size) := by have h1 := hb.size; have h2 := HZ3.out; show _ ≤ _; omega
  clear hb g2 g3 QM QC
  rcases (show t = 0 ∨ t = 1 ∨ t = 2 by have := HT.out; unfold Tri at this; omega) with rfl | rfl | rfl
  · have HQ : Hid (v' = noRes) := HO.out.trans (if_pos (.inl rfl))
    have r0 := OR4.out.cell 0
    have r1 := OR4.out.cell 1
    have s0 := OR4.out.frozen 0
    have s1 := OR4.out.frozen 1
    go_wp2_with fail
    try simp only [Exit.inBlock, Exit.then]
    refine bodyPost_ret (res_ret rfl rfl (OR4.out.set2 (.complex .f64 0 0) (.slice none 0 0))) rfl ?_
    exact ⟨none, 0, 0, by rw [HV.out, HQ.out, mark_na noRes.m rfl], below_set2 D4.out (by omega) _ _, by rw [HV.out, HQ.out]; exact Rw.nil_ _ _ _ _⟩
  · have HQ : Hid (v' = ⟨indM (p, d), []⟩) := HO.out.trans ((if_neg (by omega)).trans (if_pos (.inl rfl)))
    have HI := Lib.hid (indet_any p d)
    have r0 := OR4.out.cell 0
    have r1 := OR4.out.cell 1
    have s0 := OR4.out.frozen 0
    have s1 := OR4.out.frozen 1
    go_wp2_with fail
    refine (HI.out _).mono ?_
    rintro z w' ⟨rfl, rfl⟩
    go_wp2_with fail
    try simp only [Exit.inBlock, Exit.then]
    refine bodyPost_ret (res_ret rfl rfl (OR4.out.set2 (.complex .f64 (fl (indetP p d)) (fl (indetD p d))) (.slice none 0 0))) rfl ?_
    exact ⟨none, 0, 0, by rw [HV.out, HQ.out]; rfl, below_set2 D4.out (by omega) _ _, by rw [HV.out, HQ.out]; exact Rw.nil_ _ _ _ _⟩
  · rcases HK.out with rfl | rfl | rfl
    · have HQ : Hid (v' = noRes) := HO.out.trans (if_pos (.inr ⟨rfl, rfl⟩))
      have r0 := OR4.out.cell 0
      have r1 := OR4.out.cell 1
      have s0 := OR4.out.frozen 0
      have s1 := OR4.out.frozen 1
      go_wp2_with fail
      try simp only [Exit.inBlock, Exit.then]
      refine bodyPost_ret (res_ret rfl rfl (OR4.out.set2 (.complex .f64 0 0) (.slice none 0 0))) rfl ?_
      exact ⟨none, 0, 0, by rw [HV.out, HQ.out, mark_na noRes.m rfl], below_set2 D4.out (by omega) _ _, by rw [HV.out, HQ.out]; exact Rw.nil_ _ _ _ _⟩
    · have HQ : Hid (v' = ⟨indM (p, d), []⟩) := HO.out.trans ((if_neg (by omega)).trans (if_pos (.inr rfl)))
      have HI := Lib.hid (indet_any p d)
      have r0 := OR4.out.cell 0
      have r1 := OR4.out.cell 1
      have s0 := OR4.out.frozen 0
      have s1 := OR4.out.frozen 1
      go_wp2_with fail
      refine (HI.out _).mono ?_
      rintro z w' ⟨rfl, rfl⟩
      go_wp2_with fail
      try simp only [Exit.inBlock, Exit.then]
      refine bodyPost_ret (res_ret rfl rfl (OR4.out.set2 (.complex .f64 (fl (indetP p d)) (fl (indetD p d))) (.slice none 0 0))) rfl ?_
      exact ⟨none, 0, 0, by rw [HV.out, HQ.out]; rfl, below_set2 D4.out (by omega) _ _, by rw [HV.out, HQ.out]; exact Rw.nil_ _ _ _ _⟩
    · have HQ : Hid (v' = ⟨(p, d), dutsM ob (p, d)⟩) := HO.out.trans ((if_neg (by omega)).trans (if_neg (by omega)))
      have o4 := OB4.out.cell 4
      go_wp2_with fail
      refine (HD.out _ D4.out p d).mono ?_
      rintro z w3 ⟨A', n', c', rfl, hb, ho⟩
      have OR5 := Lib.hid (OR4.out.below hb OR4.out.lt)
      have D5 := Lib.hid (below_step D4.out hb)
      have HLn : Hid ((dutsM ob (p, d)).length = n') := ho.2.1
      have HLe := Lib.hid (dutsM_len ob (p, d))
      have HLo : Hid (ob.length = n3) := HL3.out
      have DU := Lib.hid (ho.dus (by have h1 := HLn.out; have h2 := HLe.out; have h3 := HLo.out; have h4 := HN.out; omega))
      clear hb ho
      have r0 := OR5.out.cell 0
      have r1 := OR5.out.cell 1
      have s0 := OR5.out.frozen 0
      have s1 := OR5.out.frozen 1
      go_wp2_with fail
      try simp only [Exit.inBlock, Exit.then]
      refine bodyPost_ret (res_ret rfl rfl (OR5.out.set2 (.complex .f64 (fl p) (fl d)) (.slice A' n' c'))) rfl ?_
      exact ⟨A', n', c', by rw [HV.out, HQ.out], below_set2 D5.out (by omega) _ _, by rw [HV.out, HQ.out]; exact DU.out.set2 (by have := HZ4.out; omega) (by have := HZ4.out; omega) _ _⟩
end Go.Proofs.YtmoglaknmlhpgaaGreat
/- All for any algorithm and any marks. -/
namespace Go.Proofs.YtmoglaknmlhpgaaGreat
set_option linter.unusedVariables false
open Go.RowKit
attribute [local go_sem] eq0 feq2 eq4 fgt0 gt2 ord_eq ord_gt ord_lt run_max_fl

theorem allK_bad1 {a : Int} (h : algB a = false) (l : List Mk) : allK a l = ((0, 0), 1) := by unfold allK; rw [h]; rfl
theorem allK_bad2 (a : Int) {l : List Mk} (h : l.all rightK = false) : allK a l = ((0, 0), 1) := by unfold allK; rw [h, Bool.and_false]; rfl

set_option maxHeartbeats 1600000 in
theorem comball_any {w : World} {B n c : Nat} {A : Option Addr} {l : List Mk} (a : Int) {p d : Fin 5} {e : Int} (h : Sl w B A n c (mv l)) (hr : allK a l = ((p, d), e)) :
    Calls Tryz.prog 69 #[.int .i64 a, .slice A n c] w fun z w' => z = .returned (.tuple #[.complex .f64 (fl p) (fl d), .int .i64 e]) ∧ w = w' := by
  by_cases ha : algB a = true
  · by_cases hl : l.all rightK = true
    · obtain ⟨i, rfl⟩ := alg_of ha
      rw [allK_right i (List.all_eq_true.1 hl)] at hr
      obtain ⟨hm, rfl⟩ := Prod.mk.inj hr
      exact all_to i h (List.all_eq_true.1 hl) hm
    · have hl' : l.all rightK = false := by simpa using hl
      rw [allK_bad2 a hl'] at hr
      obtain ⟨hm, rfl⟩ := Prod.mk.inj hr
      obtain ⟨rfl, rfl⟩ := Prod.mk.inj hm
      have c1 := cmarks_any h
      have c2 := cright_any a
      rw [hl'] at c1
      rw [ha] at c2
      have C1 := Lib.hid c1
      have C2 := Lib.hid c2
      clear c1 c2 h hl hl' ha hm hr
      go_enter Tryz.func69, Tryz.ntmps69
      go_wp2_with fail
      refine (C2.out _).mono ?_
      rintro z w' ⟨rfl, rfl⟩
      go_wp2_with fail
      refine C1.out.mono ?_
      rintro z w' ⟨rfl, rfl⟩
      go_wp2_with fail
      go_ret2
      exact ⟨by rw [fl0]; rfl, rfl⟩
  · have ha' : algB a = false := by simpa using ha
    rw [allK_bad1 ha'] at hr
    obtain ⟨hm, rfl⟩ := Prod.mk.inj hr
    obtain ⟨rfl, rfl⟩ := Prod.mk.inj hm
    have c2 := cright_any a
    rw [ha'] at c2
    have C2 := Lib.hid c2
    clear c2 h ha ha' hm hr
    go_enter Tryz.func69, Tryz.ntmps69
    go_wp2_with fail
    refine (C2.out _).mono ?_
    rintro z w' ⟨rfl, rfl⟩
    go_wp2_with fail
    go_ret2
    exact ⟨by rw [fl0]; rfl, rfl⟩

end Go.Proofs.YtmoglaknmlhpgaaGreat
