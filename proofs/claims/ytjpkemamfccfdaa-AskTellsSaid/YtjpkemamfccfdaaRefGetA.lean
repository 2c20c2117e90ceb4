/- The reference's Get. -/
import Derived.Test.YtjpkemamfccfdaaAskC
import Derived.Test.YtjpkemamfccfdaaAskB
namespace Go.Proofs.Ytjpkemamfccfdaa
set_option linter.unusedVariables false
open Go.RowKit

theorem text_beq' (s t : ByteArray) : (s.toList == t.toList) = decide (s = t) := by
  rw [Bool.eq_iff_iff, beq_iff_eq, decide_eq_true_iff]
  constructor
  · intro c
    refine text_eq ?_
    unfold bl
    rw [← ByteArray.toList_eq, ← ByteArray.toList_eq]
    exact c
  · intro h; rw [h]
theorem isG_beq (c : Int) (s : ByteArray) (g : Giv) : isG c s g = ((g.cat == c) && (g.name.toList == s.toList)) := by
  rw [text_beq']
  unfold isG
  by_cases h : g.cat = c <;> simp [h]
set_option maxRecDepth 100000 in
set_option maxHeartbeats 6400000 in
theorem rget_any {w : World} {R : Nat → Prop} {A : Option Addr} {n c : Nat} {l : List Giv} (a : Atr) (h : Gvs w R A n c l) (hs : ShortG l) :
    Calls Try.prog 26 #[.slice A n c, .agg #[.int .i64 a.cat, .string a.name, .bool a.must]] w fun e w' => ∃ A' n' c', e = .returned (.tuple #[.slice A' n' c', .int .i64 (getE l a)]) ∧ Below w.heap.size w w' ∧ Vls w' (fun b => w.heap.size ≤ b) A' n' c' (getR l a) := by
  obtain ⟨ac, an, am⟩ := a
  have hle := Rw.le h
  have hcap := Rw.cap h
  have HL := Lib.hid (Rw.len h)
  unfold maxLen at hcap
  have H := Lib.hid h
  have HS := Lib.hid hs
  have OM := Lib.hid (Ob.made w 23 #[.int .i64 ac, .string an, .bool am])
  have BM := Lib.hid ((Below.refl w.heap.size w).alloc (Nat.le_refl _) (.cells #[.int .i64 ac, .string an, .bool am] 23))
  have HE : Hid (getE l ⟨ac, an, am⟩ = if am = true ∧ bagA l ac an = [] then 4 else 0) := rfl
  have HR : Hid (getR l ⟨ac, an, am⟩ = if getE l ⟨ac, an, am⟩ = 0 then bagA l ac an else []) := rfl
  generalize getR l ⟨ac, an, am⟩ = rr at *
  generalize getE l ⟨ac, an, am⟩ = ee at *
  clear h hs
  simp only
  go_enter Try.func26, Try.ntmps26
  go_wp2
  obtain ⟨W1, hW1⟩ : ∃ W1, w.alloc (.cells #[.int .i64 ac, .string an, .bool am] 23) = W1 := ⟨_, rfl⟩
  rw [hW1] at OM BM
  rw [hW1]
  clear hW1
  go_loopw [6, 11] (fun o i wr => ∃ k : Nat, k ≤ n ∧ o = .slice none 0 0 ∧ i = .int .i64 k ∧ (∀ (j : Nat) (x : Giv), l[j]? = some x → j < k → isG ac an x = false) ∧ Below W1.heap.size W1 wr) (fun _ i _ => n - (intOf i).toNat)
  case atStart => exact ⟨0, Nat.zero_le _, rfl, rfl, fun _ _ _ h => absurd h (Nat.not_lt_zero _), Below.refl _ _⟩
  case round =>
    obtain ⟨k, hk, rfl, rfl, hf, hb⟩ := hrel
    have HF := Lib.hid hf
    have HB := Lib.hid hb
    have HBW := Lib.hid (below_step BM.out hb)
    have OW := OM.out.below hb OM.out.lt
    have q0 := OW.cell 0
    have q1 := OW.cell 1
    have q2 := OW.cell 2
    have OL := Lib.hid OW
    clear hf hb OW
    by_cases hlt : k < n
    · obtain ⟨b, o, x, A', n', c', rfl, hRb, hbl, hx, hok, ⟨c0, c1, c2⟩, hin⟩ := (H.out.keep (Kept.all HBW.out R) (fun _ h _ => h)).at_ hlt
      have HX := Lib.hid hx
      obtain ⟨hsh, hln⟩ := HS.out x (List.mem_of_getElem? hx)
      have hn' : n' ≤ 100000 := by have := Rw.len hin; omega
      have hlen' : x.bag.length = n' := Rw.len hin
      have HZ := Lib.hid (isG_beq ac an x)
      obtain ⟨xc, xn, xb⟩ := x
      simp only at c0 c1 c2 hlen' HZ
      have hal : Below wr.heap.size wr (wr.alloc (.cells #[.int .i64 xc, .string xn, .slice A' n' c'] 48)) := (Below.refl _ _).alloc (Nat.le_refl _) _
      have HIN : Hid (Vls (wr.alloc (.cells #[.int .i64 xc, .string xn, .slice A' n' c'] 48)) (fun _ => True) A' n' c' xb) := Vls.keep hin (Kept.all hal _) (fun _ _ _ => trivial)
      have OX := OL.out.below hal OL.out.lt
      have p0 := OX.cell 0
      have p1 := OX.cell 1
      have p2 := OX.cell 2
      have HLEN := Lib.hid hlen'
      have HB2 := Lib.hid (below_step HBW.out hal)
      have HB3 := Lib.hid (below_step HB.out hal)
      clear hx hok hin hRb hsh hln OX hal hlen'
      by_cases hz : isG ac an ⟨xc, xn, xb⟩ = true
      rotate_left
      · have HZ2 : Hid (isG ac an ⟨xc, xn, xb⟩ = false) := by show _ = _; rw [← Bool.not_eq_true]; exact hz
        clear hz
        have rel : ∀ (j : Nat) (y : Giv), l[j]? = some y → j < k + 1 → isG ac an y = false := fun j y hy hj => by
          by_cases e : j = k
          · subst e; rw [HX.out] at hy; injection hy with hy; subst hy; exact HZ2.out
          · exact HF.out j y hy (by omega)
        have RL := Lib.hid rel
        rw [HZ2.out] at HZ
        clear rel
        cases h1 : (xc == ac)
        · go_wp2_with fail
          go_roundw
          case rel => exact ⟨k + 1, by omega, rfl, by go_num, RL.out, HB3.out⟩
          case measure => simp [intOf]; omega
        · have h2 : (xn.toList == an.toList) = false := by have := HZ.out; rw [h1, Bool.true_and] at this; exact this.symm
          go_wp2_with fail
          go_roundw
          case rel => exact ⟨k + 1, by omega, rfl, by go_num, RL.out, HB3.out⟩
          case measure => simp [intOf]; omega
      · have hh := HZ.out
        rw [hz] at hh
        have h1 : (xc == ac) = true := by
          cases h1 : (xc == ac)
          · rw [h1, Bool.false_and] at hh; cases hh
          · rfl
        have h2 : (xn.toList == an.toList) = true := by
          rw [h1, Bool.true_and] at hh
          exact hh.symm
        have HBG : Hid (bagA l ac an = xb) := by
          show bagA l ac an = xb
          have e := idx_at HX.out hz HF.out
          unfold bagA
          rw [e, HX.out]
          rfl
        rw [HBG.out] at HE HR
        obtain ⟨A5, c5, w5, r5, hb5, hv5⟩ := copy_bag HIN.out (by omega)
        have R5 := Lib.hid r5
        rw [size_al] at R5
        have HB5 := Lib.hid (below_step HB2.out hb5)
        have HV5 : Hid (Vls w5 (fun b => w.heap.size ≤ b) A5 n' c5 xb) := Vls.keep hv5 (Kept.refl _ _) (fun b h _ => Nat.le_trans HB2.out.size h)
        have c9 : w5.cell? ⟨w.heap.size, 2, none⟩ = some (.bool am) := (World.cell?_of_block (hb5.block _ (Nat.lt_of_lt_of_le (by have := OM.out.lt; omega) HB3.out.size))).trans p2
        clear hh hz r5 hb5 hv5
        have e0 : (xb = []) = (n' = 0) := by rw [← HLEN.out, List.length_eq_zero_iff]
        simp only [e0] at HE
        rcases Nat.eq_zero_or_pos n' with rfl | hpos
        · cases am
          · have HE2 : Hid (ee = 0) := by show ee = 0; rw [HE.out]; simp
            have HR2 : Hid (rr = xb) := by show rr = _; rw [HR.out, if_pos HE2.out]
            go_wp2_with (at_builtin; refine wpList_append_run (o := ⟨some 30, _, _, _, _, _⟩) rfl _ _ _ _ rfl rfl rfl R5.out ?_)
            go_ret2
            exact ⟨A5, 0, c5, by rw [HE2.out]; rfl, HB5.out, by rw [HR2.out]; exact HV5.out⟩
          · have HE2 : Hid (ee = 4) := by show ee = 4; rw [HE.out]; simp
            have HR2 : Hid (rr = []) := by show rr = _; rw [HR.out, if_neg (by rw [HE2.out]; decide)]
            go_wp2_with (at_builtin; refine wpList_append_run (o := ⟨some 30, _, _, _, _, _⟩) rfl _ _ _ _ rfl rfl rfl R5.out ?_)
            go_ret2
            exact ⟨none, 0, 0, by rw [HE2.out]; rfl, HB5.out, by rw [HR2.out]; exact Rw.nil_ _ _ _ _⟩
        · have hne2 : ((n' : Int) == 0) = false := by rw [beq_eq_false_iff_ne]; omega
          have HE2 : Hid (ee = 0) := by show ee = 0; rw [HE.out, if_neg (by omega)]
          have HR2 : Hid (rr = xb) := by show rr = _; rw [HR.out, if_pos HE2.out]
          go_wp2_with (at_builtin; refine wpList_append_run (o := ⟨some 30, _, _, _, _, _⟩) rfl _ _ _ _ rfl rfl rfl R5.out ?_)
          go_ret2
          exact ⟨A5, n', c5, by rw [HE2.out]; rfl, HB5.out, by rw [HR2.out]; exact HV5.out⟩
    · obtain rfl : k = n := by omega
      have HBG : Hid (bagA l ac an = []) := bag_none (by rw [idx_none (fun j x hx => HF.out j x hx (by have := (List.getElem?_eq_some_iff.1 hx).1; have := HL.out; omega))]; omega)
      rw [HBG.out] at HE HR
      cases am
      · have HE2 : Hid (ee = 0) := by show ee = 0; rw [HE.out]; simp
        have HR2 : Hid (rr = []) := by show rr = _; rw [HR.out, if_pos HE2.out]
        go_wp2_with fail
        go_ret2
        exact ⟨none, 0, 0, by rw [HE2.out]; rfl, HBW.out, by rw [HR2.out]; exact Rw.nil_ _ _ _ _⟩
      · have HE2 : Hid (ee = 4) := by show ee = 4; rw [HE.out]; simp
        have HR2 : Hid (rr = []) := by show rr = _; rw [HR.out, if_neg (by rw [HE2.out]; decide)]
        go_wp2_with fail
        go_ret2
        exact ⟨none, 0, 0, by rw [HE2.out]; rfl, HBW.out, by rw [HR2.out]; exact Rw.nil_ _ _ _ _⟩
end Go.Proofs.Ytjpkemamfccfdaa
