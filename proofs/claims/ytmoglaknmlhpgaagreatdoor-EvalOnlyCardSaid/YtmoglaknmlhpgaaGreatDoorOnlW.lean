/- Several texts in one: LexLaws, ParTok, LexBits, LexPast, ConvText, LexOne, LexClone, LexOneS, LexNumM. -/
import Derived.Test.YtmoglaknmlhpgaaGreatDoorOnlO
import Derived.Test.YtmoglaknmlhpgaaGreatDoorOnlT
import Derived.Test.YtmoglaknmlhpgaaGreatDoorOnlA
import Derived.Laws.BytesArg
import Derived.Test.YtmoglaknmlhpgaaGreatDoorOnlH
import Derived.Lib.Strings
import Derived.Lib.Walk
import Derived.Lib.BufferWrite
import Derived.Lib.UnsafeStr
import Derived.Laws.MakeOwn
/- Tokens of texts set together, plainly. -/
namespace Go.Proofs.YtmoglaknmlhpgaaGreatDoor
set_option linter.unusedVariables false

def shT (d : Nat) (t : Tk) : Tk := ⟨t.k, t.p + d, t.n, t.s⟩
def shE (d : Nat) : Except Nat (List Tk) → Except Nat (List Tk)
 | .error e => .error (e + d)
 | .ok ts => .ok (ts.map (shT d))
theorem shE_cat (d : Nat) (ts : List Tk) (x : Except Nat (List Tk)) : shE d (cat ts x) = cat (ts.map (shT d)) (shE d x) := by cases x <;> simp [shE, cat]
theorem lexB_shift_n : ∀ (n : Nat) (l : List UInt8) (p d : Nat), l.length ≤ n → lexB l (p + d) = shE d (lexB l p)
 | _, [], p, d, _ => by rw [lexB_nil, lexB_nil]; simp [shE, shT]
 | 0, c :: r, p, d, h => by simp at h
 | n + 1, c :: r, p, d, h => by
  simp only [List.length_cons] at h
  cases hb : blk c with
  | true => rw [lexB_blank hb, lexB_blank hb, show p + d + 1 = p + 1 + d by omega, lexB_shift_n n r (p + 1) d (by omega)]
  | false =>
   cases ht : tokB (c :: r) with
   | none => rw [lexB_bad hb ht, lexB_bad hb ht]; rfl
   | some q =>
    obtain ⟨k, m, s, j⟩ := q
    have hj := tokB_pos ht
    rw [lexB_tok hb ht, lexB_tok hb ht, shE_cat, show p + d + j = p + j + d by omega, lexB_shift_n n _ (p + j) d (by rw [List.length_drop, List.length_cons]; omega)]
    simp [shT]
theorem lexB_shift (l : List UInt8) (p d : Nat) : lexB l (p + d) = shE d (lexB l p) := lexB_shift_n l.length l p d (Nat.le_refl _)
theorem lexB_from (l : List UInt8) (d : Nat) : lexB l d = shE d (lexB l 0) := by have := lexB_shift l 0 d; rwa [Nat.zero_add] at this

theorem lexB_ne : ∀ (n : Nat) (l : List UInt8) (p : Nat) (ts : List Tk), l.length ≤ n → lexB l p = .ok ts → ∃ us, ts = us ++ [⟨7, ((p + l.length : Nat) : Int), 0, ⟨#[]⟩⟩] ∧ us.length ≤ l.length
 | _, [], p, ts, _, h => by rw [lexB_nil] at h; cases h; exact ⟨[], by simp, by simp⟩
 | 0, c :: r, p, ts, hl, h => by simp at hl
 | n + 1, c :: r, p, ts, hl, h => by
  simp only [List.length_cons] at hl
  cases hb : blk c with
  | true =>
   rw [lexB_blank hb] at h
   obtain ⟨us, rfl, h2⟩ := lexB_ne n r (p + 1) ts (by omega) h
   exact ⟨us, by rw [List.length_cons, show p + 1 + r.length = p + (r.length + 1) by omega], by rw [List.length_cons]; omega⟩
  | false =>
   cases ht : tokB (c :: r) with
   | none => rw [lexB_bad hb ht] at h; cases h
   | some q =>
    obtain ⟨k, m, s, j⟩ := q
    have hj := tokB_pos ht
    rw [lexB_tok hb ht] at h
    cases hx : lexB ((c :: r).drop j) (p + j) with
    | error e => rw [hx] at h; cases h
    | ok ts' =>
     rw [hx] at h
     cases h
     obtain ⟨us, rfl, h2⟩ := lexB_ne n _ _ _ (by rw [List.length_drop, List.length_cons]; omega) hx
     rw [List.length_drop] at h2 ⊢
     exact ⟨⟨k, p, m, ⟨s.toArray⟩⟩ :: us, by rw [show p + j + ((c :: r).length - j) = p + (c :: r).length by omega]; rfl, by simp only [List.length_cons] at h2 ⊢; omega⟩
theorem lexB_places : ∀ (n : Nat) (l : List UInt8) (p : Nat) (ts : List Tk), l.length ≤ n → lexB l p = .ok ts → ∀ t ∈ ts, (p : Int) ≤ t.p ∧ t.p ≤ ((p + l.length : Nat) : Int)
 | _, [], p, ts, _, h => by rw [lexB_nil] at h; cases h; intro t ht; simp at ht; subst ht; simp
 | 0, c :: r, p, ts, hl, h => by simp at hl
 | n + 1, c :: r, p, ts, hl, h => by
  simp only [List.length_cons] at hl ⊢
  cases hb : blk c with
  | true =>
   rw [lexB_blank hb] at h
   intro t ht
   have := lexB_places n r (p + 1) ts (by omega) h t ht
   omega
  | false =>
   cases htk : tokB (c :: r) with
   | none => rw [lexB_bad hb htk] at h; cases h
   | some q =>
    obtain ⟨k, m, s, j⟩ := q
    have hj := tokB_pos htk
    rw [lexB_tok hb htk] at h
    cases hx : lexB ((c :: r).drop j) (p + j) with
    | error e => rw [hx] at h; cases h
    | ok ts' =>
     rw [hx] at h
     cases h
     intro t ht
     rcases List.mem_cons.1 ht with rfl | ht
     ·dsimp only; omega
     ·have := lexB_places n _ _ _ (by rw [List.length_drop, List.length_cons]; omega) hx t ht
      rw [List.length_drop] at this
      simp only [List.length_cons] at this hj
      omega
end Go.Proofs.YtmoglaknmlhpgaaGreatDoor
/- The parser, plainly: the tokens it begins with; what it answers. -/
namespace Go.Proofs.YtmoglaknmlhpgaaGreatDoor
set_option linter.unusedVariables false

theorem decD_le {most : Nat} {d : List UInt8} {x : Nat} (h : decD most d = some x) : x ≤ most := by
 unfold decD at h
 split at h
 ·cases h
 ·rename_i hn
  cases h
  exact Nat.le_of_not_lt fun h => hn (.inr (.inr h))
theorem tokB_in {l : List UInt8} {k n : Int} {s : List UInt8} {m : Nat} (h : tokB l = some (k, n, s, m)) : (1 ≤ k ∧ k ≤ 6) ∧ InI n := by
 cases l with
 | nil => cases h
 | cons c r =>
  rw [tokB] at h
  have z : InI 0 := by unfold InI; omega
  split at h
  ·split at h
   ·cases h; exact ⟨by omega, z⟩
   ·cases h
  ·split at h
   ·cases hq : decD 9223372036854775807 ((c :: r).takeWhile dgt) with
    | none => rw [hq] at h; cases h
    | some x =>
     have := decD_le hq
     rw [hq] at h
     cases h
     exact ⟨by omega, by unfold InI; omega⟩
   ·split at h
    ·cases hq : decD 9223372036854775808 (r.takeWhile dgt) with
     | none => rw [hq] at h; cases h
     | some x =>
      have := decD_le hq
      rw [hq] at h
      simp only [Option.bind_some] at h
      split at h
      ·cases h
      ·cases h; exact ⟨by omega, by unfold InI; omega⟩
    ·split at h
     ·cases hq : decD 1099511627776 (r.takeWhile dgt) with
      | none => rw [hq] at h; cases h
      | some x =>
       have := decD_le hq
       rw [hq] at h; cases h; exact ⟨by omega, by unfold InI; omega⟩
     ·split at h
      ·split at h
       ·cases h; exact ⟨by omega, z⟩
       ·cases h
      ·split at h
       ·cases hq : qtB r with
        | none => rw [hq] at h; cases h
        | some q =>
         rw [hq] at h
         simp only [Option.bind_some] at h
         split at h
         ·cases h; exact ⟨by omega, z⟩
         ·cases h
       ·split at h
        ·cases h; exact ⟨by omega, z⟩
        ·cases h
theorem lexB_in : ∀ (n : Nat) (l : List UInt8) (p : Nat) (ts : List Tk), l.length ≤ n → lexB l p = .ok ts → ∀ t ∈ ts, InI t.k ∧ InI t.n ∧ t.s.size ≤ l.length
 | n, [], p, ts, _, h => by
  rw [lexB_nil] at h
  cases h
  intro t ht
  simp at ht
  subst ht
  refine ⟨by unfold InI; simp, by unfold InI; simp, Nat.zero_le _⟩
 | 0, c :: r, p, ts, hl, h => by simp at hl
 | n + 1, c :: r, p, ts, hl, h => by
  cases hb : blk c with
  | true =>
   rw [lexB_blank hb] at h
   intro t ht
   obtain ⟨a, b, c⟩ := lexB_in n r (p + 1) ts (by simpa using hl) h t ht
   exact ⟨a, b, by simp only [List.length_cons]; omega⟩
  | false =>
   cases hq : tokB (c :: r) with
   | none => rw [lexB_bad hb hq] at h; cases h
   | some q =>
    obtain ⟨k, m, s, j⟩ := q
    rw [lexB_tok hb hq] at h
    obtain ⟨j1, j2, j3⟩ := tokB_pos hq
    obtain ⟨⟨k1, k2⟩, hn⟩ := tokB_in hq
    cases hr : lexB ((c :: r).drop j) (p + j) with
    | error e => rw [hr] at h; cases h
    | ok us =>
     rw [hr] at h
     simp only [cat, Except.ok.injEq] at h
     subst h
     intro t ht
     rcases List.mem_append.1 ht with ht | ht
     ·simp at ht
      subst ht
      exact ⟨in_small (by show -100 ≤ k; omega) (by show k ≤ 100; omega), hn, by show s.toArray.size ≤ _; simp only [List.size_toArray]; omega⟩
     ·obtain ⟨a, b, d⟩ := lexB_in n _ _ us (by simp only [List.length_drop]; simp only [List.length_cons] at hl ⊢; omega) hr t ht
      exact ⟨a, b, by simp only [List.length_drop] at d; omega⟩
theorem start_ok {s : ByteArray} {ts : List Tk} (hs : s.size ≤ 4096) (h : lexB s.data.toList 0 = .ok ts) : (⟨ts, 0, 0, 0⟩ : Pz).ok s.size ∧ ts.length ≤ 4097 := by
 have hl : s.data.toList.length = s.size := rfl
 obtain ⟨us, e, hu⟩ := lexB_ne _ _ 0 ts (Nat.le_refl _) h
 have hp := lexB_places _ _ 0 ts (Nat.le_refl _) h
 have hi := lexB_in _ _ 0 ts (Nat.le_refl _) h
 rw [hl] at hu hp hi
 have hlen : ts.length ≤ 4097 := by rw [e]; simp; omega
 refine ⟨⟨⟨_, by rw [e]; exact List.getLast?_concat, rfl⟩, fun t ht => ?_, ⟨by show ts.length ≤ 5000; omega, by show 0 + ts.length ≤ 6000; omega, hs⟩, .inl rfl, Int.le_refl _, by show (0 : Int) ≤ (s.size : Int); omega⟩, hlen⟩
 obtain ⟨a, b, c⟩ := hi t ht
 obtain ⟨d, f⟩ := hp t ht
 exact ⟨a, ⟨by omega, by omega⟩, b, by unfold maxLen; omega⟩
theorem pair_eq {α β : Type} (x : α × β) : ∃ a b, x = (a, b) := ⟨x.1, x.2, rfl⟩
theorem parseR_big {s : ByteArray} (h : 4096 < s.size) : parseR s = (noPol, 6, 4096) := by unfold parseR; rw [if_pos h]
theorem parseR_bad {s : ByteArray} {p : Nat} (h : s.size ≤ 4096) (hl : lexB s.data.toList 0 = .error p) : parseR s = (noPol, 5, (p : Int)) := by unfold parseR; rw [if_neg (by omega), hl]
theorem parseR_ok {s : ByteArray} {ts : List Tk} {p : Pol} {s1 z : Pz} (h : s.size ≤ 4096) (hl : lexB s.data.toList 0 = .ok ts) (hp : polR 5 ⟨ts, 0, 0, 0⟩ = (p, s1)) (hz : endR s1 = z) :
  parseR s = if z.err = 0 then (if rightE p = 0 then (p, 0, 0) else (noPol, 5, (s.size : Int))) else (noPol, z.err, z.at_) := by
 unfold parseR
 rw [if_neg (by omega), hl]
 simp only [hp, hz]
end Go.Proofs.YtmoglaknmlhpgaaGreatDoor
/- The small functions of bytes of package lex. -/
namespace Go.Proofs.YtmoglaknmlhpgaaGreatDoor
set_option linter.unusedVariables false
open Go.RowKit

theorem lett_t {c : UInt8} (h : 97 ≤ (c.toNat : Int) ∧ (c.toNat : Int) ≤ 122) : lett c = true := by unfold lett; simp; omega
theorem lett_f {c : UInt8} (h : (c.toNat : Int) < 97 ∨ 122 < (c.toNat : Int)) : lett c = false := by unfold lett; simp; omega
theorem dgt_t {c : UInt8} (h : 48 ≤ (c.toNat : Int) ∧ (c.toNat : Int) ≤ 57) : dgt c = true := by unfold dgt; simp; omega
theorem dgt_f {c : UInt8} (h : (c.toNat : Int) < 48 ∨ 57 < (c.toNat : Int)) : dgt c = false := by unfold dgt; simp; omega
theorem inm_eq (c : UInt8) : inm c = (lett c || dgt c || decide (c.toNat = 95)) := by unfold inm later dgt; rw [Bool.or_assoc]

set_option maxHeartbeats 800000 in
theorem blank_any (c : UInt8) (w : World) : Calls Tryz.prog 80 #[.int .u8 (c.toNat : Int)] w fun e w' => e = .returned (.bool (blk c)) ∧ w' = w := by
 have hb : blk c = (((c.toNat : Int) == 32) || ((c.toNat : Int) == 10)) := by unfold blk; rw [Bool.eq_iff_iff]; simp; omega
 have HB := Lib.hid hb
 clear hb
 by_cases h1 : (c.toNat : Int) = 32
 ·have e1 : ((c.toNat : Int) == 32) = true := by rw [h1]; rfl
  have H1 := Lib.hid h1
  clear h1
  go_enter Tryz.func80, Tryz.ntmps80
  go_wp2_with fail
  go_ret
  exact ⟨ret_bool (by rw [HB.out, H1.out]; rfl), rfl⟩
 ·have e1 : ((c.toNat : Int) == 32) = false := by rw [beq_eq_false_iff_ne]; exact h1
  have H1 := Lib.hid e1
  clear h1
  go_enter Tryz.func80, Tryz.ntmps80
  go_wp2_with fail
  go_ret
  exact ⟨ret_bool (by rw [HB.out, H1.out]; rfl), rfl⟩

set_option maxHeartbeats 800000 in
theorem letter_any (c : UInt8) (w : World) : Calls Tryz.prog 81 #[.int .u8 (c.toNat : Int)] w fun e w' => e = .returned (.bool (lett c)) ∧ w' = w := by
 have three : (c.toNat : Int) < 97 ∨ (97 ≤ (c.toNat : Int) ∧ (c.toNat : Int) ≤ 122) ∨ (97 ≤ (c.toNat : Int) ∧ 122 < (c.toNat : Int)) := by omega
 rcases three with h | h | h
 all_goals
  go_enter Tryz.func81, Tryz.ntmps81
  go_wp2_with fail
  go_ret
 ·exact ⟨ret_bool (lett_f (by omega)).symm, rfl⟩
 ·exact ⟨ret_bool (lett_t h).symm, rfl⟩
 ·exact ⟨ret_bool (by rw [decide_eq_false (by omega), lett_f (by omega)]), rfl⟩

set_option maxHeartbeats 800000 in
theorem digit_any (c : UInt8) (w : World) : Calls Tryz.prog 82 #[.int .u8 (c.toNat : Int)] w fun e w' => e = .returned (.bool (dgt c)) ∧ w' = w := by
 have three : (c.toNat : Int) < 48 ∨ (48 ≤ (c.toNat : Int) ∧ (c.toNat : Int) ≤ 57) ∨ (48 ≤ (c.toNat : Int) ∧ 57 < (c.toNat : Int)) := by omega
 rcases three with h | h | h
 all_goals
  go_enter Tryz.func82, Tryz.ntmps82
  go_wp2_with fail
  go_ret
 ·exact ⟨ret_bool (dgt_f (by omega)).symm, rfl⟩
 ·exact ⟨ret_bool (dgt_t h).symm, rfl⟩
 ·exact ⟨ret_bool (by rw [decide_eq_false (by omega), dgt_f (by omega)]), rfl⟩

set_option maxHeartbeats 800000 in
theorem inName_any (c : UInt8) (w : World) : Calls Tryz.prog 83 #[.int .u8 (c.toNat : Int)] w fun e w' => e = .returned (.bool (inm c)) ∧ w' = w := by
 have hi := inm_eq c
 have hl := letter_any c w
 have hd := digit_any c w
 have h95 : decide (c.toNat = 95) = ((c.toNat : Int) == 95) := by rw [Bool.eq_iff_iff]; simp; omega
 rw [h95] at hi
 have HI := Lib.hid hi
 have HL := Lib.hid hl
 have HD := Lib.hid hd
 clear hi hl hd h95
 cases h1 : lett c with
 | true =>
  rw [h1] at HI HL
  clear h1
  go_enter Tryz.func83, Tryz.ntmps83
  go_wp2_with (go_at_call 81; refine HL.out.mono ?_; rintro e w' ⟨rfl, rfl⟩)
  go_ret
  exact ⟨ret_bool (by rw [HI.out]; rfl), rfl⟩
 | false =>
  rw [h1] at HI HL
  clear h1
  cases h2 : dgt c with
  | true =>
   rw [h2] at HI HD
   clear h2
   go_enter Tryz.func83, Tryz.ntmps83
   go_wp2_with (first | (go_at_call 81; refine HL.out.mono ?_; rintro e w' ⟨rfl, rfl⟩) | (go_at_call 82; refine HD.out.mono ?_; rintro e w' ⟨rfl, rfl⟩))
   go_ret
   exact ⟨ret_bool (by rw [HI.out]; rfl), rfl⟩
  | false =>
   rw [h2] at HI HD
   clear h2
   go_enter Tryz.func83, Tryz.ntmps83
   go_wp2_with (first | (go_at_call 81; refine HL.out.mono ?_; rintro e w' ⟨rfl, rfl⟩) | (go_at_call 82; refine HD.out.mono ?_; rintro e w' ⟨rfl, rfl⟩))
   go_ret
   exact ⟨ret_bool (by rw [HI.out]; rfl), rfl⟩
end Go.Proofs.YtmoglaknmlhpgaaGreatDoor
/- past: on, as long as there are such bytes. -/
namespace Go.Proofs.YtmoglaknmlhpgaaGreatDoor
set_option linter.unusedVariables false
open Go.RowKit

def PastTo (l : List UInt8) (p : UInt8 → Bool) (a k : Nat) : Prop := k + ((l.drop k).takeWhile p).length = a + ((l.drop a).takeWhile p).length
theorem PastTo.step {l : List UInt8} {p : UInt8 → Bool} {a k : Nat} {c : UInt8} (h : PastTo l p a k) (hc : l[k]? = some c) (hp : p c = true) : PastTo l p a (k + 1) := by
 obtain ⟨hk, e⟩ := List.getElem?_eq_some_iff.1 hc
 unfold PastTo at h ⊢
 rw [← h, List.drop_eq_getElem_cons hk, e, List.takeWhile_cons, if_pos hp, List.length_cons]
 omega
theorem PastTo.stop {l : List UInt8} {p : UInt8 → Bool} {a k : Nat} {c : UInt8} (h : PastTo l p a k) (hc : l[k]? = some c) (hp : p c = false) : k = a + ((l.drop a).takeWhile p).length := by
 obtain ⟨hk, e⟩ := List.getElem?_eq_some_iff.1 hc
 unfold PastTo at h
 rw [← h, List.drop_eq_getElem_cons hk, e, List.takeWhile_cons, if_neg (by rw [hp]; simp)]
 simp
theorem PastTo.end {l : List UInt8} {p : UInt8 → Bool} {a k : Nat} (h : PastTo l p a k) (hk : l.length ≤ k) : k = a + ((l.drop a).takeWhile p).length := by
 unfold PastTo at h
 rw [← h, List.drop_of_length_le hk]
 simp

set_option maxHeartbeats 1600000 in
theorem past_blank (s : ByteArray) (hs : s.size ≤ maxLen) (a : Nat) (ha : a ≤ s.size) (w : World) :
  Calls Tryz.prog 79 #[.string s, .int .i64 (a : Int), .func (.func 80) #[] #[]] w fun e w' => e = .returned (.int .i64 ((a + ((s.data.toList.drop a).takeWhile blk).length : Nat) : Int)) ∧ w' = w := by
 have hl := data_len s
 generalize hL : s.data.toList = l at *
 have HD : Hid (∀ k (h : k < s.size), l[k]? = some s[k]) := by
  show ∀ k (h : k < s.size), l[k]? = some s[k]
  subst hL; exact fun k h => data_at h
 have HL := Lib.hid hl
 unfold maxLen at hs
 clear hl hL
 go_enter Tryz.func79, Tryz.ntmps79
 go_wp2_with fail
 go_loop [1] (fun i => ∃ k : Nat, k ≤ s.size ∧ i = .int .i64 k ∧ PastTo l blk a k) (fun i => s.size - (intOf i).toNat)
 case atStart => exact ⟨a, ha, rfl, rfl⟩
 case round =>
  obtain ⟨k, hk, rfl, ht⟩ := hrel
  have HT := Lib.hid ht
  clear ht
  by_cases hlt : k < s.size
  ·have hi : 0 ≤ (k : Int) ∧ (k : Int) < s.size := by omega
   have hc := HD.out k hlt
   generalize hcc : s[k] = c at *
   have HC := Lib.hid hc
   clear hc
   have hf := blank_any c w
   cases hp : blk c with
   | true =>
    have HP := Lib.hid hp
    rw [hp] at hf
    have HFC := Lib.hid hf
    clear hp hf
    go_wp2_with (go_at_call 80; refine HFC.out.mono ?_; rintro e w' ⟨rfl, rfl⟩)
    go_round
    case rel => exact ⟨k + 1, by omega, by go_num, HT.out.step HC.out HP.out⟩
    case measure => simp [intOf]; omega
   | false =>
    have HP := Lib.hid hp
    rw [hp] at hf
    have HFC := Lib.hid hf
    clear hp hf
    go_wp2_with (go_at_call 80; refine HFC.out.mono ?_; rintro e w' ⟨rfl, rfl⟩)
    go_ret
    exact ⟨ret_int (by have := HT.out.stop HC.out HP.out; omega), rfl⟩
  ·obtain rfl : k = s.size := by omega
   go_wp2_with fail
   go_ret
   exact ⟨ret_int (by have := HT.out.end (by rw [HL.out]; exact Nat.le_refl _); omega), rfl⟩

set_option maxHeartbeats 1600000 in
theorem past_digit (s : ByteArray) (hs : s.size ≤ maxLen) (a : Nat) (ha : a ≤ s.size) (w : World) :
  Calls Tryz.prog 79 #[.string s, .int .i64 (a : Int), .func (.func 82) #[] #[]] w fun e w' => e = .returned (.int .i64 ((a + ((s.data.toList.drop a).takeWhile dgt).length : Nat) : Int)) ∧ w' = w := by
 have hl := data_len s
 generalize hL : s.data.toList = l at *
 have HD : Hid (∀ k (h : k < s.size), l[k]? = some s[k]) := by
  show ∀ k (h : k < s.size), l[k]? = some s[k]
  subst hL; exact fun k h => data_at h
 have HL := Lib.hid hl
 unfold maxLen at hs
 clear hl hL
 go_enter Tryz.func79, Tryz.ntmps79
 go_wp2_with fail
 go_loop [1] (fun i => ∃ k : Nat, k ≤ s.size ∧ i = .int .i64 k ∧ PastTo l dgt a k) (fun i => s.size - (intOf i).toNat)
 case atStart => exact ⟨a, ha, rfl, rfl⟩
 case round =>
  obtain ⟨k, hk, rfl, ht⟩ := hrel
  have HT := Lib.hid ht
  clear ht
  by_cases hlt : k < s.size
  ·have hi : 0 ≤ (k : Int) ∧ (k : Int) < s.size := by omega
   have hc := HD.out k hlt
   generalize hcc : s[k] = c at *
   have HC := Lib.hid hc
   clear hc
   have hf := digit_any c w
   cases hp : dgt c with
   | true =>
    have HP := Lib.hid hp
    rw [hp] at hf
    have HFC := Lib.hid hf
    clear hp hf
    go_wp2_with (go_at_call 82; refine HFC.out.mono ?_; rintro e w' ⟨rfl, rfl⟩)
    go_round
    case rel => exact ⟨k + 1, by omega, by go_num, HT.out.step HC.out HP.out⟩
    case measure => simp [intOf]; omega
   | false =>
    have HP := Lib.hid hp
    rw [hp] at hf
    have HFC := Lib.hid hf
    clear hp hf
    go_wp2_with (go_at_call 82; refine HFC.out.mono ?_; rintro e w' ⟨rfl, rfl⟩)
    go_ret
    exact ⟨ret_int (by have := HT.out.stop HC.out HP.out; omega), rfl⟩
  ·obtain rfl : k = s.size := by omega
   go_wp2_with fail
   go_ret
   exact ⟨ret_int (by have := HT.out.end (by rw [HL.out]; exact Nat.le_refl _); omega), rfl⟩

set_option maxHeartbeats 1600000 in
theorem past_inName (s : ByteArray) (hs : s.size ≤ maxLen) (a : Nat) (ha : a ≤ s.size) (w : World) :
  Calls Tryz.prog 79 #[.string s, .int .i64 (a : Int), .func (.func 83) #[] #[]] w fun e w' => e = .returned (.int .i64 ((a + ((s.data.toList.drop a).takeWhile inm).length : Nat) : Int)) ∧ w' = w := by
 have hl := data_len s
 generalize hL : s.data.toList = l at *
 have HD : Hid (∀ k (h : k < s.size), l[k]? = some s[k]) := by
  show ∀ k (h : k < s.size), l[k]? = some s[k]
  subst hL; exact fun k h => data_at h
 have HL := Lib.hid hl
 unfold maxLen at hs
 clear hl hL
 go_enter Tryz.func79, Tryz.ntmps79
 go_wp2_with fail
 go_loop [1] (fun i => ∃ k : Nat, k ≤ s.size ∧ i = .int .i64 k ∧ PastTo l inm a k) (fun i => s.size - (intOf i).toNat)
 case atStart => exact ⟨a, ha, rfl, rfl⟩
 case round =>
  obtain ⟨k, hk, rfl, ht⟩ := hrel
  have HT := Lib.hid ht
  clear ht
  by_cases hlt : k < s.size
  ·have hi : 0 ≤ (k : Int) ∧ (k : Int) < s.size := by omega
   have hc := HD.out k hlt
   generalize hcc : s[k] = c at *
   have HC := Lib.hid hc
   clear hc
   have hf := inName_any c w
   cases hp : inm c with
   | true =>
    have HP := Lib.hid hp
    rw [hp] at hf
    have HFC := Lib.hid hf
    clear hp hf
    go_wp2_with (go_at_call 83; refine HFC.out.mono ?_; rintro e w' ⟨rfl, rfl⟩)
    go_round
    case rel => exact ⟨k + 1, by omega, by go_num, HT.out.step HC.out HP.out⟩
    case measure => simp [intOf]; omega
   | false =>
    have HP := Lib.hid hp
    rw [hp] at hf
    have HFC := Lib.hid hf
    clear hp hf
    go_wp2_with (go_at_call 83; refine HFC.out.mono ?_; rintro e w' ⟨rfl, rfl⟩)
    go_ret
    exact ⟨ret_int (by have := HT.out.stop HC.out HP.out; omega), rfl⟩
  ·obtain rfl : k = s.size := by omega
   go_wp2_with fail
   go_ret
   exact ⟨ret_int (by have := HT.out.end (by rw [HL.out]; exact Nat.le_refl _); omega), rfl⟩
end Go.Proofs.YtmoglaknmlhpgaaGreatDoor
/- A slice of bytes as a text: string(b). -/
namespace Go.Proofs.YtmoglaknmlhpgaaGreatDoor
set_option linter.unusedVariables false
open Go.RowKit

theorem conv_text {P : Program} {w : World} {src dst e : TypeId} {B n c : Nat} {A : Option Addr} {l : List UInt8} (hs : P.underlying src = some (.slice e)) (he : P.underlying e = some (.int .u8)) (hd : P.underlying dst = some .string)
  (h : Sl w B A n c (bv l)) : (convert src dst (.slice A n c)).run P w = .ok (.string ⟨l.toArray⟩) w := by
 have hlen := h.len
 rw [bv_len] at hlen
 have fin : ∀ ad : Addr, A = some ad → (∀ j u, (bv l)[j]? = some u → w.cell? (ad.add j) = some u) → (convert src dst (.slice A n c)).run P w = .ok (.string ⟨l.toArray⟩) w := by
  rintro ad rfl hc
  have hb : bv l = (l.map fun x : UInt8 => (x.toNat : Int)).map (Value.int .u8) := by simp [bv]
  have hl : (loadCells ad n).run P w = .ok ((l.map fun x : UInt8 => (x.toNat : Int)).map (Value.int .u8)).toArray w := by
   have := run_loadCells_list (P := P) w ad (bv l) hc
   rw [bv_len, hlen, hb] at this
   exact this
  rw [run_convert_bytes_string w src dst e ad n c hs he hd, run_bytesToString w ad n c _ hl, foldl_push_bytes]
  simp [ByteArray.empty, ByteArray.emptyWithCapacity, Function.comp_def]
  rfl
 rcases h.2.2.2 with h0 | ⟨b, o, e, hb, hc⟩
 ·subst h0
  obtain rfl : l = [] := List.eq_nil_of_length_eq_zero hlen
  rcases A with _ | ad
  ·exact run_convert_bytes_nil w src e hs he 0 c dst hd
  ·exact fin ad rfl (fun j u hu => by simp [bv] at hu)
 ·refine fin _ e fun j u hu => ?_
  have := hc j u hu
  by_cases hj : j = 0
  ·subst hj; simpa [Addr.add] using this
  ·simpa [Addr.add, hj] using this

end Go.Proofs.YtmoglaknmlhpgaaGreatDoor
/- alone, sixteenth, mark, one of package lex. -/
namespace Go.Proofs.YtmoglaknmlhpgaaGreatDoor
set_option linter.unusedVariables false
open Go.RowKit

theorem ret_pair {a b c d : Value} (h1 : a = c) (h2 : b = d) : Ending.returned (.tuple #[a, b]) = .returned (.tuple #[c, d]) := by rw [h1, h2]
theorem int_eq {k : IntKind} {a b : Int} (h : a = b) : Value.int k a = .int k b := by rw [h]
theorem odd8_t {c : UInt8} (h : c.toNat < 32 ∨ 126 < c.toNat ∨ c.toNat = 34 ∨ c.toNat = 92) : odd8 c = true := by simpa [odd8, or_assoc] using h
theorem odd8_f {c : UInt8} (h : ¬ (c.toNat < 32 ∨ 126 < c.toNat ∨ c.toNat = 34 ∨ c.toNat = 92)) : odd8 c = false := by
 rw [← Bool.not_eq_true]
 intro h'
 exact h (by simpa [odd8, or_assoc] using h')
theorem byte_ways7 (c : UInt8) : ((c.toNat : Int) < 32) ∨ ((32 ≤ (c.toNat : Int) ∧ 126 < (c.toNat : Int))) ∨ ((c.toNat : Int) = 34) ∨ ((c.toNat : Int) = 92) ∨ ((32 ≤ (c.toNat : Int) ∧ (c.toNat : Int) ≤ 126) ∧ ((c.toNat : Int) == 34) = false ∧ ((c.toNat : Int) == 92) = false ∧ ((c.toNat : Int) != 34) = true ∧ ((c.toNat : Int) != 92) = true) := by
 simp only [beq_eq_false_iff_ne, bne_iff_ne]; omega

set_option maxHeartbeats 800000 in
theorem alone_any (c : UInt8) (w : World) : Calls Tryz.prog 143 #[.int .u8 (c.toNat : Int)] w fun e w' => e = .returned (.bool (!odd8 c)) ∧ w' = w := by
 rcases byte_ways7 c with a | a | a | a | a
 case inr.inr.inl =>
  obtain rfl : c = 34 := UInt8.toNat_inj.1 (by have : (34 : UInt8).toNat = 34 := rfl; omega)
  clear a
  go_enter Tryz.func143, Tryz.ntmps143
  go_wp2_with fail
  go_ret
  exact ⟨rfl, rfl⟩
 case inr.inr.inr.inl =>
  obtain rfl : c = 92 := UInt8.toNat_inj.1 (by have : (92 : UInt8).toNat = 92 := rfl; omega)
  clear a
  go_enter Tryz.func143, Tryz.ntmps143
  go_wp2_with fail
  go_ret
  exact ⟨rfl, rfl⟩
 case inr.inr.inr.inr =>
  have HO : Hid (odd8 c = false) := odd8_f (by obtain ⟨a1, a2, a3, _⟩ := a; simp only [beq_eq_false_iff_ne] at a2 a3; omega)
  go_enter Tryz.func143, Tryz.ntmps143
  go_wp2_with fail
  go_ret
  exact ⟨ret_bool (by rw [HO.out]; rfl), rfl⟩
 all_goals
  have HO : Hid (odd8 c = true) := odd8_t (by omega)
  go_enter Tryz.func143, Tryz.ntmps143
  go_wp2_with fail
  go_ret
  exact ⟨ret_bool (by rw [HO.out]; first | rfl | exact decide_eq_false (by omega)), rfl⟩

theorem hexv_dgt {c : UInt8} (h : dgt c = true) : hexv c = some (c.toNat - 48) := by unfold hexv; rw [if_pos h]
theorem hexv_let {c : UInt8} (h : dgt c = false) (h2 : 97 ≤ c.toNat ∧ c.toNat ≤ 102) : hexv c = some (c.toNat - 87) := by unfold hexv; rw [if_neg (by rw [h]; simp), if_pos h2]
theorem hexv_none {c : UInt8} (h : dgt c = false) (h2 : ¬ (97 ≤ c.toNat ∧ c.toNat ≤ 102)) : hexv c = none := by unfold hexv; rw [if_neg (by rw [h]; simp), if_neg h2]
theorem hexv_lt {c : UInt8} {x : Nat} (h : hexv c = some x) : x < 16 := by
 unfold hexv at h
 split at h
 ·rename_i hd; cases h; unfold dgt at hd; simp at hd; omega
 ·split at h
  ·cases h; omega
  ·cases h

set_option maxHeartbeats 800000 in
theorem sixteenth_any (c : UInt8) (w : World) : Calls Tryz.prog 144 #[.int .u8 (c.toNat : Int)] w fun e w' => e = .returned (.tuple #[.int .u8 (((hexv c).getD 0 : Nat) : Int), .bool (hexv c).isSome]) ∧ w' = w := by
 have hd := digit_any c w
 have HD := Lib.hid hd
 have hlt := c.toNat_lt
 clear hd
 cases h : dgt c with
 | true =>
  rw [h] at HD
  have HX := Lib.hid (hexv_dgt h)
  have hb : 48 ≤ (c.toNat : Int) ∧ (c.toNat : Int) ≤ 57 := by unfold dgt at h; simp at h; omega
  clear h
  go_enter Tryz.func144, Tryz.ntmps144
  go_wp2_with (go_at_call 82; refine HD.out.mono ?_; rintro e w' ⟨rfl, rfl⟩)
  go_ret2
  exact ⟨ret_pair (int_eq (by rw [HX.out]; show (c.toNat : Int) - 48 = ((c.toNat - 48 : Nat) : Int); omega)) (by rw [HX.out]; rfl), rfl⟩
 | false =>
  rw [h] at HD
  have three : (c.toNat : Int) < 97 ∨ (97 ≤ (c.toNat : Int) ∧ (c.toNat : Int) ≤ 102) ∨ (97 ≤ (c.toNat : Int) ∧ 102 < (c.toNat : Int)) := by omega
  rcases three with a | a | a
  case inr.inl =>
   have HX := Lib.hid (hexv_let h (by omega))
   clear h
   go_enter Tryz.func144, Tryz.ntmps144
   go_wp2_with (go_at_call 82; refine HD.out.mono ?_; rintro e w' ⟨rfl, rfl⟩)
   go_ret2
   exact ⟨ret_pair (int_eq (by rw [HX.out]; show (c.toNat : Int) - 97 + 10 = ((c.toNat - 87 : Nat) : Int); omega)) (by rw [HX.out]; rfl), rfl⟩
  all_goals
   have HX := Lib.hid (hexv_none h (by omega))
   clear h
   go_enter Tryz.func144, Tryz.ntmps144
   go_wp2_with (go_at_call 82; refine HD.out.mono ?_; rintro e w' ⟨rfl, rfl⟩)
   go_ret2
   exact ⟨by rw [HX.out]; rfl, rfl⟩

theorem conv_one (c : UInt8) (w : World) : (convert 95 9 (.slice (some ⟨w.heap.size, 0, none⟩) 1 1)).run Tryz.prog (w.alloc (.cells #[.int .u8 (c.toNat : Int)] 5)) = .ok (.string ⟨#[c]⟩) (w.alloc (.cells #[.int .u8 (c.toNat : Int)] 5)) :=
 conv_text Tryz.underlying95 Tryz.underlying5 Tryz.underlying9 (Sl.lit w 5 (bv [c]) 1 rfl (by simp [maxLen]))

theorem conv_lit (c : UInt8) (k : Int) (h : (c.toNat : Int) = k) (w : World) : (convert 95 9 (.slice (some ⟨w.heap.size, 0, none⟩) 1 1)).run Tryz.prog (w.alloc (.cells #[.int .u8 k] 5)) = .ok (.string ⟨#[c]⟩) (w.alloc (.cells #[.int .u8 k] 5)) := by
 subst h
 exact conv_one c w

def markV (c : UInt8) : Value := .tuple #[.string (if mrk c = true then ⟨#[c]⟩ else ⟨#[]⟩), .bool (mrk c)]
theorem mrk_ways (c : UInt8) : c = 123 ∨ c = 125 ∨ c = 40 ∨ c = 41 ∨ c = 46 ∨ c = 44 ∨ c = 59 ∨ c = 61 ∨ c = 60 ∨ c = 62 ∨ c = 33 ∨ mrk c = false := by
 unfold mrk
 simp only [Bool.or_eq_false_iff, decide_eq_false_iff_not]
 by_cases c = 123 <;> by_cases c = 125 <;> by_cases c = 40 <;> by_cases c = 41 <;> by_cases c = 46 <;> by_cases c = 44 <;> by_cases c = 59 <;> by_cases c = 61 <;> by_cases c = 60 <;> by_cases c = 62 <;> by_cases c = 33 <;> simp_all
set_option maxHeartbeats 1600000 in
theorem mark_any (c : UInt8) (w : World) : Calls Tryz.prog 88 #[.int .u8 (c.toNat : Int)] w fun e w' => e = .returned (markV c) ∧ Below w.heap.size w w' := by
 have hc0 := conv_lit 123 123 rfl w
 have hc1 := conv_lit 125 125 rfl w
 have hc2 := conv_lit 40 40 rfl w
 have hc3 := conv_lit 41 41 rfl w
 have hc4 := conv_lit 46 46 rfl w
 have hc5 := conv_lit 44 44 rfl w
 have hc6 := conv_lit 59 59 rfl w
 have hc7 := conv_lit 61 61 rfl w
 have hc8 := conv_lit 60 60 rfl w
 have hc9 := conv_lit 62 62 rfl w
 have hc10 := conv_lit 33 33 rfl w
 have HB : Hid (∀ k : Int, Below w.heap.size w (w.alloc (.cells #[.int .u8 k] 5))) := Lib.hid fun k => (Below.refl _ _).alloc (Nat.le_refl _) _
 rcases mrk_ways c with rfl | rfl | rfl | rfl | rfl | rfl | rfl | rfl | rfl | rfl | rfl | h
 case inr.inr.inr.inr.inr.inr.inr.inr.inr.inr.inr =>
  have e : ∀ k : UInt8, mrk k = true → ((c.toNat : Int) == (k.toNat : Int)) = false := fun k hk => by
   rw [beq_eq_false_iff_ne]
   intro he
   have : c = k := UInt8.toNat_inj.1 (by omega)
   rw [this, hk] at h
   cases h
  have e1 : ((c.toNat : Int) == 123) = false := e 123 rfl
  have e2 : ((c.toNat : Int) == 125) = false := e 125 rfl
  have e3 : ((c.toNat : Int) == 40) = false := e 40 rfl
  have e4 : ((c.toNat : Int) == 41) = false := e 41 rfl
  have e5 : ((c.toNat : Int) == 46) = false := e 46 rfl
  have e6 : ((c.toNat : Int) == 44) = false := e 44 rfl
  have e7 : ((c.toNat : Int) == 59) = false := e 59 rfl
  have e8 : ((c.toNat : Int) == 61) = false := e 61 rfl
  have e9 : ((c.toNat : Int) == 60) = false := e 60 rfl
  have e10 : ((c.toNat : Int) == 62) = false := e 62 rfl
  have e11 : ((c.toNat : Int) == 33) = false := e 33 rfl
  have HH := Lib.hid h
  clear e h
  go_enter Tryz.func88, Tryz.ntmps88
  go_wp2_with fail
  go_ret2
  exact ⟨by unfold markV; rw [HH.out]; rfl, Below.refl _ _⟩
 all_goals
  go_enter Tryz.func88, Tryz.ntmps88
  go_wp2_with fail
  go_ret2
  exact ⟨rfl, HB.out _⟩
end Go.Proofs.YtmoglaknmlhpgaaGreatDoor
/- name of package lex. -/
namespace Go.Proofs.YtmoglaknmlhpgaaGreatDoor
set_option linter.unusedVariables false
open Go.RowKit

def nameV (s : ByteArray) : Value := .tuple #[.string (if Named s.data.toList then s else ⟨#[]⟩), .bool (decide (Named s.data.toList))]
set_option maxHeartbeats 800000 in
theorem lname_any (s : ByteArray) (w : World) (hlim : s.size ≤ 1000000) :
  Calls Tryz.prog 84 #[.string s] w fun e w' => e = .returned (nameV s) ∧ Below w.heap.size w w' := by
 have H := Lib.hid (clone_any s w hlim)
 have HN := Lib.hid (name_any s (by unfold maxLen; omega) w)
 clear hlim
 by_cases h : Named s.data.toList
 ·have HV : Hid (nameV s = .tuple #[.string s, .bool true]) := by show _ = _; unfold nameV; rw [if_pos h, decide_eq_true h]
  rw [decide_eq_true h] at HN
  clear h
  go_enter Tryz.func84, Tryz.ntmps84
  go_wp2_with (first | (go_at_call 49; refine HN.out.mono ?_; rintro e w' ⟨rfl, rfl⟩) | (go_at_call 45; refine H.out.mono ?_; rintro e w' ⟨rfl, hb⟩))
  go_ret2
  exact ⟨by rw [HV.out]; rfl, hb⟩
 ·have HV : Hid (nameV s = .tuple #[.string ⟨#[]⟩, .bool false]) := by show _ = _; unfold nameV; rw [if_neg h, decide_eq_false h]
  rw [decide_eq_false h] at HN
  clear h
  go_enter Tryz.func84, Tryz.ntmps84
  go_wp2_with (first | (go_at_call 49; refine HN.out.mono ?_; rintro e w' ⟨rfl, rfl⟩) | (go_at_call 45; refine H.out.mono ?_; rintro e w' ⟨rfl, hb⟩))
  go_ret2
  exact ⟨by rw [HV.out]; rfl, Below.refl _ _⟩
end Go.Proofs.YtmoglaknmlhpgaaGreatDoor
/- one of package lex: a byte of a quoted text, and by how many it is written. -/
namespace Go.Proofs.YtmoglaknmlhpgaaGreatDoor
set_option linter.unusedVariables false
open Go.RowKit

set_option maxRecDepth 100000 in
theorem or16f : ∀ x : Fin 16, ∀ y : Fin 16, (x.val * 16) ||| y.val = 16 * x.val + y.val := by decide +kernel
theorem u8_or16 {x y : Nat} (hx : x < 16) (hy : y < 16) : bits .or .u8 ((x : Int) * 16) (y : Int) = ((16 * x + y : Nat) : Int) := by
 rw [u8_or _ _ (by omega) (by omega) (by omega) (by omega)]
 have := or16f ⟨x, hx⟩ ⟨y, hy⟩
 dsimp only at this
 rw [show ((x : Int) * 16).toNat = x * 16 by omega, show ((y : Int)).toNat = y by omega, this]

def oneV (l : List UInt8) : Value := .tuple #[.int .u8 ((((oneB l).map Prod.fst).getD 0).toNat : Int), .int .i64 ((((oneB l).map Prod.snd).getD 0 : Nat) : Int)]
theorem oneV_none {l : List UInt8} (h : oneB l = none) : oneV l = .tuple #[.int .u8 0, .int .i64 0] := by unfold oneV; rw [h]; rfl
theorem oneV_some {l : List UInt8} {x : UInt8} {k : Nat} (h : oneB l = some (x, k)) : oneV l = .tuple #[.int .u8 (x.toNat : Int), .int .i64 (k : Int)] := by unfold oneV; rw [h]; rfl
theorem list_three {l : List UInt8} {c a b : UInt8} (h0 : l[0]? = some c) (h1 : l[1]? = some a) (h2 : l[2]? = some b) : ∃ r, l = c :: a :: b :: r := by
 match l, h0, h1, h2 with
 | x :: y :: z :: r, h0, h1, h2 => simp at h0 h1 h2; subst h0 h1 h2; exact ⟨r, rfl⟩
theorem list_one {l : List UInt8} {c : UInt8} (h0 : l[0]? = some c) : ∃ r, l = c :: r := by
 match l, h0 with
 | x :: r, h0 => simp at h0; subst h0; exact ⟨r, rfl⟩

set_option maxHeartbeats 1600000 in
theorem one_any (s : ByteArray) (hs : s.size ≤ maxLen) (h0 : 0 < s.size) (w : World) :
  Calls Tryz.prog 117 #[.string s] w fun e w' => e = .returned (oneV s.data.toList) ∧ w' = w := by
 have hl := data_len s
 have hc0 := data_at h0
 unfold maxLen at hs
 generalize hcc : s[0] = c at *
 have hal := alone_any c w
 have HA := Lib.hid hal
 clear hal
 cases ho : odd8 c with
 | false =>
  rw [ho] at HA
  obtain ⟨r, hr⟩ := list_one hc0
  have HR : Hid (oneV s.data.toList = .tuple #[.int .u8 (c.toNat : Int), .int .i64 ((1 : Nat) : Int)]) := by show _ = _; rw [hr]; exact oneV_some (oneB_plain ho)
  clear hl hc0 hr ho
  go_enter Tryz.func117, Tryz.ntmps117
  go_wp2_with (go_at_call 143; refine HA.out.mono ?_; rintro e w' ⟨rfl, rfl⟩)
  go_ret2
  exact ⟨by rw [HR.out]; rfl, rfl⟩
 | true =>
  rw [ho] at HA
  by_cases h92 : c = 92
  ·subst h92
   replace HA : Hid (Calls Tryz.prog 143 #[.int .u8 92] w fun e w' => e = .returned (.bool (!true)) ∧ w' = w) := HA
   by_cases h3 : s.size < 3
   ·obtain ⟨r, hr⟩ := list_one hc0
    have HR : Hid (oneV s.data.toList = .tuple #[.int .u8 0, .int .i64 0]) := by show _ = _; rw [hr] at hl ⊢; exact oneV_none (oneB_short (by simp only [List.length_cons] at hl; omega))
    clear hl hc0 hr ho
    go_enter Tryz.func117, Tryz.ntmps117
    go_wp2_with (go_at_call 143; refine HA.out.mono ?_; rintro e w' ⟨rfl, rfl⟩)
    go_ret2
    exact ⟨by rw [HR.out]; rfl, rfl⟩
   ·have h1' : 1 < s.size := by omega
    have h2' : 2 < s.size := by omega
    have hc1 := data_at h1'
    have hc2 := data_at h2'
    generalize hca : s[1] = a at *
    generalize hcb : s[2] = b at *
    obtain ⟨r, hr⟩ := list_three hc0 hc1 hc2
    have hsa := sixteenth_any a w
    have hsb := sixteenth_any b w
    have HSA := Lib.hid hsa
    have HSB := Lib.hid hsb
    clear hsa hsb hc0 hc1 hc2 hl ho
    have HR := Lib.hid hr
    clear hr
    cases ha : hexv a with
    | none =>
     rw [ha] at HSA
     have HV : Hid (oneV s.data.toList = .tuple #[.int .u8 0, .int .i64 0]) := by show _ = _; rw [HR.out]; exact oneV_none (by rw [oneB_hex, ha, hexB_none1])
     have hb1 : ((hexv b).getD 0) < 16 := by
      cases hb : hexv b with
      | none => simp
      | some y => simpa using hexv_lt hb
     generalize (hexv b).getD 0 = y at *
     generalize (hexv b).isSome = yo at *
     clear ha
     have hx : ((none : Option Nat).getD 0 : Nat) = 0 := rfl
     go_enter Tryz.func117, Tryz.ntmps117
     go_wp2_with (first | (go_at_call 143; refine HA.out.mono ?_; rintro e w' ⟨rfl, rfl⟩) | (go_at_call 144; first | ((with_reducible refine HSA.out.mono ?_); rintro e w' ⟨rfl, rfl⟩) | ((with_reducible refine HSB.out.mono ?_); rintro e w' ⟨rfl, rfl⟩)))
     go_ret2
     exact ⟨by rw [HV.out]; rfl, rfl⟩
    | some x =>
     rw [ha] at HSA
     have hx := hexv_lt ha
     cases hb : hexv b with
     | none =>
      rw [hb] at HSB
      have HV : Hid (oneV s.data.toList = .tuple #[.int .u8 0, .int .i64 0]) := by show _ = _; rw [HR.out]; exact oneV_none (by rw [oneB_hex, hb, hexB_none2])
      clear ha hb
      go_enter Tryz.func117, Tryz.ntmps117
      go_wp2_with (first | (go_at_call 143; refine HA.out.mono ?_; rintro e w' ⟨rfl, rfl⟩) | (go_at_call 144; first | ((with_reducible refine HSA.out.mono ?_); rintro e w' ⟨rfl, rfl⟩) | ((with_reducible refine HSB.out.mono ?_); rintro e w' ⟨rfl, rfl⟩)))
      go_ret2
      exact ⟨by rw [HV.out]; rfl, rfl⟩
     | some y =>
      rw [hb] at HSB
      have hy := hexv_lt hb
      have hor := u8_or16 hx hy
      have hsum : ((UInt8.ofNat (16 * x + y)).toNat : Int) = 16 * (x : Int) + (y : Int) := by
       rw [ofNat_toNat (by omega)]; omega
      have hal2 := alone_any (UInt8.ofNat (16 * x + y)) w
      have HV := Lib.hid (show oneB (92 :: a :: b :: r) = if odd8 (UInt8.ofNat (16 * x + y)) = true then some (UInt8.ofNat (16 * x + y), 3) else none by rw [oneB_hex, ha, hb, hexB_some])
      clear ha hb
      rw [hsum] at hal2
      have HSUM := Lib.hid hsum
      clear hsum
      have HA2 := Lib.hid hal2
      clear hal2
      generalize hzz : UInt8.ofNat (16 * x + y) = z at *
      cases hoz : odd8 z with
      | true =>
       rw [hoz] at HA2
       have HV2 : Hid (oneV s.data.toList = .tuple #[.int .u8 (16 * (x : Int) + (y : Int)), .int .i64 ((3 : Nat) : Int)]) := by
        show _ = _
        rw [HR.out, ← HSUM.out]
        exact oneV_some (by rw [HV.out, if_pos hoz])
       clear hoz hzz
       go_enter Tryz.func117, Tryz.ntmps117
       go_wp2_with (first | (go_at_call 143; first | ((with_reducible refine HA.out.mono ?_); rintro e w' ⟨rfl, rfl⟩) | ((with_reducible refine HA2.out.mono ?_); rintro e w' ⟨rfl, rfl⟩)) | (go_at_call 144; first | ((with_reducible refine HSA.out.mono ?_); rintro e w' ⟨rfl, rfl⟩) | ((with_reducible refine HSB.out.mono ?_); rintro e w' ⟨rfl, rfl⟩)))
       go_ret2
       exact ⟨by rw [HV2.out]; rfl, rfl⟩
      | false =>
       rw [hoz] at HA2
       have HV2 : Hid (oneV s.data.toList = .tuple #[.int .u8 0, .int .i64 0]) := by
        show _ = _
        rw [HR.out]
        exact oneV_none (by rw [HV.out, if_neg (by rw [hoz]; simp)])
       clear hoz hzz
       go_enter Tryz.func117, Tryz.ntmps117
       go_wp2_with (first | (go_at_call 143; first | ((with_reducible refine HA.out.mono ?_); rintro e w' ⟨rfl, rfl⟩) | ((with_reducible refine HA2.out.mono ?_); rintro e w' ⟨rfl, rfl⟩)) | (go_at_call 144; first | ((with_reducible refine HSA.out.mono ?_); rintro e w' ⟨rfl, rfl⟩) | ((with_reducible refine HSB.out.mono ?_); rintro e w' ⟨rfl, rfl⟩)))
       go_ret2
       exact ⟨by rw [HV2.out]; rfl, rfl⟩
  ·have h92' : ((c.toNat : Int) != 92) = true := by
    rw [bne_iff_ne]
    intro h
    exact h92 (UInt8.toNat_inj.1 (by have : (92 : UInt8).toNat = 92 := rfl; omega))
   obtain ⟨r, hr⟩ := list_one hc0
   have HR : Hid (oneV s.data.toList = .tuple #[.int .u8 0, .int .i64 0]) := by show _ = _; rw [hr]; exact oneV_none (oneB_odd ho h92)
   clear hl hc0 hr ho h92
   go_enter Tryz.func117, Tryz.ntmps117
   go_wp2_with (go_at_call 143; refine HA.out.mono ?_; rintro e w' ⟨rfl, rfl⟩)
   go_ret2
   exact ⟨by rw [HR.out]; rfl, rfl⟩
end Go.Proofs.YtmoglaknmlhpgaaGreatDoor
/- Digits, plainly. -/
namespace Go.Proofs.YtmoglaknmlhpgaaGreatDoor
set_option linter.unusedVariables false

def AllD (l : List UInt8) : Prop := ∀ c ∈ l, dgt c = true
theorem numD_app (l : List UInt8) (c : UInt8) : numD (l ++ [c]) = 10 * numD l + (c.toNat - 48) := by unfold numD; rw [List.foldl_append]; rfl
theorem numD_mono (l m : List UInt8) : numD l ≤ numD (l ++ m) := by
 induction m generalizing l with
 | nil => simp
 | cons c m ih =>
  have h1 := ih (l ++ [c])
  have h2 := numD_app l c
  rw [List.append_assoc] at h1
  simp only [List.cons_append, List.nil_append] at h1
  omega
end Go.Proofs.YtmoglaknmlhpgaaGreatDoor
