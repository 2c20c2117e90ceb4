/- The reference's number. -/
import Derived.Test.YtpedfkigneahgaaLexRefS
namespace Go.Proofs.Ytpedfkigneahgaa
set_option linter.unusedVariables false
open Go.RowKit

theorem numD_lt : ∀ (n : Nat) (l : List UInt8), l.length = n → AllD l → numD l < 10 ^ n
  | 0, l, h, _ => by
    obtain rfl : l = [] := List.eq_nil_of_length_eq_zero h
    simp [numD]
  | n + 1, l, h, hd => by
    obtain ⟨m, c, rfl⟩ : ∃ m c, l = m ++ [c] := ⟨l.dropLast, l.getLast (by intro e; rw [e] at h; cases h), (List.dropLast_concat_getLast _).symm⟩
    have ih := numD_lt n m (by simpa using h) fun x hx => hd x (List.mem_append_left _ hx)
    have hc := hd c (List.mem_append_right _ (List.mem_singleton.2 rfl))
    unfold dgt at hc
    simp at hc
    rw [numD_app, Nat.pow_succ]
    omega
theorem numD_ge : ∀ (n : Nat) (c : UInt8) (r : List UInt8), r.length = n → 49 ≤ c.toNat → 10 ^ n ≤ numD (c :: r)
  | 0, c, r, h, hc => by
    obtain rfl : r = [] := List.eq_nil_of_length_eq_zero h
    simp [numD]
    omega
  | n + 1, c, r, h, hc => by
    obtain ⟨m, d, rfl⟩ : ∃ m d, r = m ++ [d] := ⟨r.dropLast, r.getLast (by intro e; rw [e] at h; cases h), (List.dropLast_concat_getLast _).symm⟩
    have ih := numD_ge n c m (by simpa using h) hc
    rw [← List.cons_append, numD_app, Nat.pow_succ]
    omega
/-- What number says of digits: how much they are, whether they may stand so. -/
def NumR (ds : List UInt8) (n : Nat) (ok : Bool) : Prop := ∀ most, most ≤ 9223372036854775808 → decD most ds = if ok = true ∧ n ≤ most then some n else none
theorem numR_nil : NumR [] 0 false := fun most _ => by unfold decD; rw [if_pos (.inl rfl)]; rfl
theorem numR_zero {r : List UInt8} (h : r ≠ []) (n : Nat) : NumR (48 :: r) n false := fun most _ => by
  unfold decD
  rw [if_pos (.inr (.inl ⟨rfl, by simpa using h⟩))]
  simp
theorem numR_one : NumR [48] (numD [48]) true := fun most _ => by
  unfold decD
  by_cases h : most < numD [48]
  · rw [if_pos (.inr (.inr h)), if_neg (by omega)]
  · rw [if_neg (by simpa using h), if_pos ⟨rfl, by omega⟩]
theorem numR_any {c : UInt8} {r : List UInt8} (h : c ≠ 48) : NumR (c :: r) (numD (c :: r)) true := fun most _ => by
  unfold decD
  by_cases hh : most < numD (c :: r)
  · rw [if_pos (.inr (.inr hh)), if_neg (by omega)]
  · rw [if_neg (by simp [h]; omega), if_pos ⟨rfl, by omega⟩]
theorem numR_long {ds : List UInt8} (hd : AllD ds) (h : 20 ≤ ds.length) : NumR ds 0 false := fun most hm => by
  rw [if_neg (by simp)]
  unfold decD
  rw [if_pos]
  match ds, h with
  | c :: r, h =>
    by_cases hc : c = 48
    · subst hc
      right; left
      refine ⟨rfl, ?_⟩
      intro e
      rw [e] at h
      simp at h
    · right; right
      have h1 := hd c (List.mem_cons_self ..)
      unfold dgt at h1
      simp at h1
      have h2 : c.toNat ≠ 48 := fun e => hc (UInt8.toNat_inj.1 e)
      have := numD_ge r.length c r rfl (by omega)
      have h3 : (10 : Nat) ^ 19 ≤ 10 ^ r.length := Nat.pow_le_pow_right (by omega) (by simp only [List.length_cons] at h; omega)
      have h4 : (10 : Nat) ^ 19 = 10000000000000000000 := by decide
      omega

def NRel (l : List UInt8) (a n : Nat) (k m : Value) : Prop := ∃ j : Nat, a + j ≤ n ∧ j ≤ 19 ∧ PastTo l dgt a (a + j) ∧ k = .int .i64 ((a + j : Nat) : Int) ∧ m = .int .u64 ((numD ((l.drop a).take j) : Nat) : Int)
theorem tw_take' (p : UInt8 → Bool) (l : List UInt8) : l.take (l.takeWhile p).length = l.takeWhile p := by
  induction l with
  | nil => rfl
  | cons c r ih =>
    cases h : p c with
    | true => rw [List.takeWhile_cons, if_pos h, List.length_cons, List.take_succ_cons, ih]
    | false => rw [List.takeWhile_cons, if_neg (by rw [h]; simp)]; rfl
theorem take_dig {l : List UInt8} {a j : Nat} (h : PastTo l dgt a (a + j)) : (l.drop a).take j = ((l.drop a).takeWhile dgt).take j := by
  unfold PastTo at h
  have h2 : j ≤ ((l.drop a).takeWhile dgt).length := by omega
  conv => rhs; rw [← tw_take' dgt (l.drop a)]
  rw [List.take_take, Nat.min_eq_left h2]
theorem tw_dig (l : List UInt8) : AllD (l.takeWhile dgt) := by
  induction l with
  | nil => intro c h; cases h
  | cons d r ih =>
    intro c h
    cases hd : dgt d with
    | true =>
      rw [List.takeWhile_cons, if_pos hd] at h
      rcases List.mem_cons.1 h with rfl | h
      · exact hd
      · exact ih c h
    | false => rw [List.takeWhile_cons, if_neg (by rw [hd]; simp)] at h; cases h

theorem exit_ways (l : List UInt8) (a j : Nat) (h : ((l.drop a).takeWhile dgt).length = j) : (j = 0 ∧ (l.drop a).takeWhile dgt = []) ∨ (∃ c r, l[a]? = some c ∧ (l.drop a).takeWhile dgt = c :: r ∧ 0 < j ∧ a < l.length ∧
    (((c.toNat : Int) != 48) = false ∧ j = 1 ∧ NumR (c :: r) (numD (c :: r)) true ∨ ((c.toNat : Int) != 48) = false ∧ j ≠ 1 ∧ NumR (c :: r) (numD (c :: r)) false ∨ ((c.toNat : Int) != 48) = true ∧ NumR (c :: r) (numD (c :: r)) true)) := by
  cases hd : (l.drop a).takeWhile dgt with
  | nil => rw [hd] at h; exact .inl ⟨h.symm, rfl⟩
  | cons c r =>
    right
    rw [hd] at h
    have hl : ∃ r', l.drop a = c :: r' := by
      cases he : l.drop a with
      | nil => rw [he] at hd; cases hd
      | cons x r' =>
        rw [he, List.takeWhile_cons] at hd
        split at hd
        · injection hd with h1 h2; subst h1; exact ⟨r', rfl⟩
        · cases hd
    obtain ⟨r', hr'⟩ := hl
    have hla : a < l.length := by
      rcases Nat.lt_or_ge a l.length with h | h
      · exact h
      · rw [List.drop_of_length_le h] at hr'; cases hr'
    have hc : l[a]? = some c := by
      rw [List.drop_eq_getElem_cons hla] at hr'
      injection hr' with h1 h2
      rw [List.getElem?_eq_getElem hla, h1]
    refine ⟨c, r, hc, rfl, by rw [← h]; simp, hla, ?_⟩
    by_cases h48 : c = 48
    · subst h48
      have e : (((48 : UInt8).toNat : Int) != 48) = false := rfl
      cases r with
      | nil => exact .inl ⟨e, by rw [← h]; rfl, numR_one⟩
      | cons d r => exact .inr (.inl ⟨e, by rw [← h]; simp, numR_zero (by simp) _⟩)
    · refine .inr (.inr ⟨?_, numR_any h48⟩)
      rw [bne_iff_ne]
      intro he
      exact h48 (UInt8.toNat_inj.1 (by have : (48 : UInt8).toNat = 48 := rfl; omega))

/-- number's answer. -/
def RNumP (l : List UInt8) (a : Nat) (w : World) (e : Ending) (w' : World) : Prop := ∃ (e' n : Nat) (ok : Bool), e = .returned (.tuple #[.int .i64 (e' : Int), .int .u64 (n : Int), .bool ok]) ∧ n < 18446744073709551616 ∧ NumR ((l.drop a).takeWhile dgt) n ok ∧ (ok = true → e' = a + ((l.drop a).takeWhile dgt).length) ∧ e' ≤ l.length ∧ w' = w

set_option maxHeartbeats 1600000 in
theorem rnumber_any (s : ByteArray) (hs : s.size ≤ 1000000) (a : Nat) (ha : a ≤ s.size) (w : World) :
    Calls Try.prog 25 #[.string s, .int .i64 (a : Int)] w fun e w' => RNumP s.data.toList a w e w' := by
  have hl := data_len s
  generalize hL : s.data.toList = l at *
  have HD : Hid (∀ k (h : k < s.size), l[k]? = some s[k]) := by
    show ∀ k (h : k < s.size), l[k]? = some s[k]
    subst hL; exact fun k h => data_at h
  have HL := Lib.hid hl
  clear hl hL
  have HST : Hid (NRel l a s.size (.int .i64 (a : Int)) (.int .u64 0)) := ⟨0, by omega, by omega, rfl, rfl, by simp [numD]⟩
  go_enter Try.func25, Try.ntmps25
  go_wp2_with fail
  go_loop [7, 8] (fun k m => NRel l a s.size k m) (fun k _ => s.size - (intOf k).toNat)
  case atStart => exact HST.out
  case round =>
    obtain ⟨j, hj, hj19, ht, rfl, rfl⟩ := hrel
    have HT := Lib.hid ht
    have htk := take_dig ht
    have hlen : j ≤ ((l.drop a).takeWhile dgt).length := by unfold PastTo at ht; omega
    have hlt10 : numD ((l.drop a).take j) < 10 ^ j := by
      rw [htk]
      refine numD_lt j _ ?_ fun c hc => tw_dig _ c (List.mem_of_mem_take hc)
      rw [List.length_take]; omega
    have HTK := Lib.hid htk
    have HTL : Hid (numD ((l.drop a).take j) = numD ((l.drop a).take j)) := rfl
    clear ht htk
    generalize hn : numD ((l.drop a).take j) = n at *
    have HN := Lib.hid hn
    clear hn HTL
    by_cases hlt : a + j < s.size
    · have hi : 0 ≤ ((a + j : Nat) : Int) ∧ ((a + j : Nat) : Int) < s.size := by omega
      have hc := HD.out (a + j) hlt
      generalize hcc : s[a + j] = c at *
      have HC := Lib.hid hc
      clear hc
      have hf := rdigit_any c w
      cases hp : dgt c with
      | true =>
        have HP := Lib.hid hp
        rw [hp] at hf
        have HFC := Lib.hid hf
        have hcb : 48 ≤ (c.toNat : Int) ∧ (c.toNat : Int) ≤ 57 := by unfold dgt at hp; simp at hp; omega
        have HST2 := Lib.hid (HT.out.step HC.out HP.out)
        clear hp hf
        by_cases h19 : j = 19
        · subst h19
          have h19 : 19 ≤ ((a + 19 : Nat) : Int) - (a : Int) := by omega
          have HR : Hid (NumR ((l.drop a).takeWhile dgt) 0 false) := numR_long (tw_dig _) (by have := HST2.out; unfold PastTo at this; omega)
          clear hlt10
          go_wp2_with (go_at_call 24; refine HFC.out.mono ?_; rintro e w' ⟨rfl, rfl⟩)
          go_ret3
          exact ⟨a + 19, 0, false, rfl, by omega, HR.out, by simp, by rw [HL.out]; omega, rfl⟩
        · have h19' : ¬ 19 ≤ ((a + j : Nat) : Int) - (a : Int) := by omega
          have hn18 : n < 1000000000000000000 := by
            have h1 : (10 : Nat) ^ j ≤ 10 ^ 18 := Nat.pow_le_pow_right (by omega) (by omega)
            have h2 : (10 : Nat) ^ 18 = 1000000000000000000 := by decide
            omega
          have HN2 : Hid (numD ((l.drop a).take (j + 1)) = 10 * n + (c.toNat - 48)) := by
            show _ = _
            have e : (l.drop a)[j]? = some c := by rw [List.getElem?_drop]; exact HC.out
            obtain ⟨hk3, e⟩ := List.getElem?_eq_some_iff.1 e
            rw [List.take_succ_eq_append_getElem hk3, numD_app, e, HN.out]
          clear hlt10 hlen
          go_wp2_with (go_at_call 24; refine HFC.out.mono ?_; rintro e w' ⟨rfl, rfl⟩)
          go_round
          case rel => exact ⟨j + 1, by omega, by omega, HST2.out, by first | rfl | (exact int_eq (by omega)), by rw [HN2.out]; exact int_eq (by omega)⟩
          case measure => simp [intOf]; omega
      | false =>
        have HP := Lib.hid hp
        rw [hp] at hf
        have HFC := Lib.hid hf
        have HE := Lib.hid (HT.out.stop HC.out HP.out)
        clear hp hf
        have hlt19 : n < 10000000000000000000 := by
          have h1 : (10 : Nat) ^ j ≤ 10 ^ 19 := Nat.pow_le_pow_right (by omega) (by omega)
          have h2 : (10 : Nat) ^ 19 = 10000000000000000000 := by decide
          omega
        have hlj : ((l.drop a).takeWhile dgt).length = j := by have := HE.out; omega
        have hnd : n = numD ((l.drop a).takeWhile dgt) := by rw [← HN.out, HTK.out, List.take_of_length_le (by omega)]
        have HLJ := Lib.hid hlj
        have HND := Lib.hid hnd
        have hways := exit_ways l a j hlj
        clear hnd hlj hlt10 hlen
        rcases hways with ⟨rfl, hds⟩ | ⟨c0, r, hc0, hds, hj0, hal, hw⟩
        · have HR : Hid (NumR ((l.drop a).takeWhile dgt) n false) := by show NumR _ _ _; rw [HND.out, hds]; exact numR_nil
          clear hds
          simp only [Nat.add_zero] at hcc hi hlt ⊢
          go_wp2_with (go_at_call 24; refine HFC.out.mono ?_; rintro e w' ⟨rfl, rfl⟩)
          go_ret3
          exact ⟨a, n, false, rfl, by omega, HR.out, by simp, by rw [HL.out]; omega, rfl⟩
        · rw [HL.out] at hal
          have hsa : s[a] = c0 := by
            have := HD.out a hal
            rw [hc0] at this
            exact (Option.some.inj this).symm
          have hia : 0 ≤ (a : Int) ∧ (a : Int) < s.size := by omega
          have HDS := Lib.hid hds
          rw [← hds] at hw
          clear hc0 hds
          have hgt : (a : Int) < ((a + j : Nat) : Int) := by omega
          rcases hw with ⟨h48, hj1, hr⟩ | ⟨h48, hj1, hr⟩ | ⟨h48, hr⟩
          · subst hj1
            rw [← HND.out] at hr
            have HR := Lib.hid hr
            clear hr
            go_wp2_with (go_at_call 24; refine HFC.out.mono ?_; rintro e w' ⟨rfl, rfl⟩)
            go_ret3
            exact ⟨a + 1, n, true, rfl, by omega, HR.out, fun _ => by rw [HLJ.out], by rw [HL.out]; omega, rfl⟩
          · have hne : (((a + j : Nat) : Int) == (a : Int) + 1) = false := by rw [beq_eq_false_iff_ne]; omega
            have hne2 : ((a : Int) + (j : Int) == (a : Int) + 1) = false := by rw [beq_eq_false_iff_ne]; omega
            rw [← HND.out] at hr
            have HR := Lib.hid hr
            clear hr hj1
            go_wp2_with (go_at_call 24; refine HFC.out.mono ?_; rintro e w' ⟨rfl, rfl⟩)
            go_ret3
            exact ⟨a + j, n, false, rfl, by omega, HR.out, by simp, by rw [HL.out]; omega, rfl⟩
          · rw [← HND.out] at hr
            have HR := Lib.hid hr
            clear hr
            go_wp2_with (go_at_call 24; refine HFC.out.mono ?_; rintro e w' ⟨rfl, rfl⟩)
            go_ret3
            exact ⟨a + j, n, true, rfl, by omega, HR.out, fun _ => by rw [HLJ.out], by rw [HL.out]; omega, rfl⟩
    · have HE := Lib.hid (HT.out.end (by rw [HL.out]; omega))
      have hlt19 : n < 10000000000000000000 := by
        have h1 : (10 : Nat) ^ j ≤ 10 ^ 19 := Nat.pow_le_pow_right (by omega) (by omega)
        have h2 : (10 : Nat) ^ 19 = 10000000000000000000 := by decide
        omega
      have hlj : ((l.drop a).takeWhile dgt).length = j := by have := HE.out; omega
      have hnd : n = numD ((l.drop a).takeWhile dgt) := by rw [← HN.out, HTK.out, List.take_of_length_le (by omega)]
      have HLJ := Lib.hid hlj
      have HND := Lib.hid hnd
      have hways := exit_ways l a j hlj
      clear hnd hlj hlt10 hlen
      rcases hways with ⟨rfl, hds⟩ | ⟨c0, r, hc0, hds, hj0, hal, hw⟩
      · have HR : Hid (NumR ((l.drop a).takeWhile dgt) n false) := by show NumR _ _ _; rw [HND.out, hds]; exact numR_nil
        clear hds
        simp only [Nat.add_zero] at hlt ⊢
        go_wp2_with fail
        go_ret3
        exact ⟨a, n, false, rfl, by omega, HR.out, by simp, by rw [HL.out]; omega, rfl⟩
      · rw [HL.out] at hal
        have hsa : s[a] = c0 := by
          have := HD.out a hal
          rw [hc0] at this
          exact (Option.some.inj this).symm
        have hia : 0 ≤ (a : Int) ∧ (a : Int) < s.size := by omega
        have HDS := Lib.hid hds
        rw [← hds] at hw
        clear hc0 hds
        have hgt : (a : Int) < ((a + j : Nat) : Int) := by omega
        rcases hw with ⟨h48, hj1, hr⟩ | ⟨h48, hj1, hr⟩ | ⟨h48, hr⟩
        · subst hj1
          rw [← HND.out] at hr
          have HR := Lib.hid hr
          clear hr
          go_wp2_with fail
          go_ret3
          exact ⟨a + 1, n, true, rfl, by omega, HR.out, fun _ => by rw [HLJ.out], by rw [HL.out]; omega, rfl⟩
        · have hne : (((a + j : Nat) : Int) == (a : Int) + 1) = false := by rw [beq_eq_false_iff_ne]; omega
          have hne2 : ((a : Int) + (j : Int) == (a : Int) + 1) = false := by rw [beq_eq_false_iff_ne]; omega
          rw [← HND.out] at hr
          have HR := Lib.hid hr
          clear hr hj1
          go_wp2_with fail
          go_ret3
          exact ⟨a + j, n, false, rfl, by omega, HR.out, by simp, by rw [HL.out]; omega, rfl⟩
        · rw [← HND.out] at hr
          have HR := Lib.hid hr
          clear hr
          go_wp2_with fail
          go_ret3
          exact ⟨a + j, n, true, rfl, by omega, HR.out, fun _ => by rw [HLJ.out], by rw [HL.out]; omega, rfl⟩
end Go.Proofs.Ytpedfkigneahgaa
