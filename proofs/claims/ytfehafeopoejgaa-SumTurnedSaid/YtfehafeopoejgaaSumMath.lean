/- The sums of chapter 2 as plain mathematics: Sum's steps over 32 bits (each of them linear, none of them loses anything), and the chain over 64 bits. No Go, no program. -/
import Derived.WalkKit
namespace Go.Proofs.Ytfehafeopoejgaa

/-- What a bit that falls out turns. -/
def crcTurn : BitVec 32 := BitVec.ofNat 32 3988292384
def crcStep (s : BitVec 32) : BitVec 32 := if s.getLsbD 0 = true then (s >>> 1) ^^^ crcTurn else s >>> 1
def crcSteps : Nat → BitVec 32 → BitVec 32
  | 0, s => s
  | k + 1, s => crcStep (crcSteps k s)
def wide (c : UInt8) : BitVec 32 := BitVec.ofNat 32 c.toNat
def crcByte (s : BitVec 32) (c : UInt8) : BitVec 32 := crcSteps 8 (s ^^^ wide c)
def crcFold (s : BitVec 32) (l : List UInt8) : BitVec 32 := l.foldl crcByte s
def crcStart : BitVec 32 := BitVec.allOnes 32
def crcOf (l : List UInt8) : BitVec 32 := ~~~ crcFold crcStart l

theorem xor_swap (a b c d : BitVec 32) : (a ^^^ b) ^^^ (c ^^^ d) = (a ^^^ c) ^^^ (b ^^^ d) := by
  rw [BitVec.xor_assoc, BitVec.xor_assoc, ← BitVec.xor_assoc b c d, BitVec.xor_comm b c, BitVec.xor_assoc c b d]

theorem crcStep_xor (x y : BitVec 32) : crcStep (x ^^^ y) = crcStep x ^^^ crcStep y := by
  unfold crcStep
  rw [BitVec.getLsbD_xor, BitVec.ushiftRight_xor_distrib]
  cases hx : x.getLsbD 0 <;> cases hy : y.getLsbD 0 <;> simp only [Bool.xor_false, Bool.xor_self, Bool.false_eq_true, if_true, if_false, Bool.xor_true, Bool.not_false]
  · rw [BitVec.xor_assoc]
  · rw [BitVec.xor_assoc, BitVec.xor_assoc, BitVec.xor_comm crcTurn]
  · rw [xor_swap, BitVec.xor_self, BitVec.xor_zero]

theorem crcSteps_xor (k : Nat) (x y : BitVec 32) : crcSteps k (x ^^^ y) = crcSteps k x ^^^ crcSteps k y := by
  induction k with
  | zero => rfl
  | succ k ih => rw [crcSteps, ih, crcStep_xor]; rfl

theorem crcStep_in (k : Nat) (s : BitVec 32) : crcSteps k (crcStep s) = crcStep (crcSteps k s) := by
  induction k with
  | zero => rfl
  | succ k ih => rw [crcSteps, ih]; rfl

theorem turn_top : crcTurn.getLsbD 31 = true := by decide

theorem crcStep_zero {x : BitVec 32} (h : crcStep x = 0#32) : x = 0#32 := by
  have hb : x.getLsbD 0 = false := by
    cases hx : x.getLsbD 0 with
    | false => rfl
    | true =>
      exfalso
      unfold crcStep at h
      rw [if_pos hx] at h
      have := congrArg (fun v => v.getLsbD 31) h
      simp only [BitVec.getLsbD_xor, turn_top, BitVec.getLsbD_ushiftRight] at this
      rw [BitVec.getLsbD_of_ge x (1 + 31) (by omega)] at this
      simp at this
  have hs : x >>> 1 = 0#32 := by
    unfold crcStep at h
    rwa [if_neg (by rw [hb]; simp)] at h
  apply BitVec.eq_of_getLsbD_eq
  intro i hi
  rw [BitVec.getLsbD_zero]
  by_cases h0 : i = 0
  · rw [h0]; exact hb
  · have := congrArg (fun v => v.getLsbD (i - 1)) hs
    simp only [BitVec.getLsbD_ushiftRight, BitVec.getLsbD_zero] at this
    rwa [show 1 + (i - 1) = i from by omega] at this

theorem crcSteps_zero {k : Nat} {x : BitVec 32} (h : crcSteps k x = 0#32) : x = 0#32 := by
  induction k with
  | zero => exact h
  | succ k ih => exact ih (crcStep_zero h)
theorem crcSteps_of_zero (k : Nat) : crcSteps k 0#32 = 0#32 := by
  induction k with
  | zero => rfl
  | succ k ih => rw [crcSteps, ih]; decide
theorem xor_eq_zero {a b : BitVec 32} (h : a ^^^ b = 0#32) : a = b := by
  have := congrArg (· ^^^ b) h
  simpa [BitVec.xor_assoc] using this
theorem crcSteps_inj {k : Nat} {x y : BitVec 32} (h : crcSteps k x = crcSteps k y) : x = y := by
  apply xor_eq_zero
  apply crcSteps_zero (k := k)
  rw [crcSteps_xor, h, BitVec.xor_self]

theorem crcStep_shl {y : BitVec 32} (h : y.getLsbD 31 = false) : crcStep (y <<< 1) = y := by
  unfold crcStep
  rw [if_neg (by simp)]
  apply BitVec.eq_of_getLsbD_eq
  intro i hi
  by_cases h31 : i = 31
  · subst h31
    rw [h]
    simp only [BitVec.getLsbD_ushiftRight]
    exact BitVec.getLsbD_of_ge _ _ (by omega)
  · simp only [BitVec.getLsbD_ushiftRight, BitVec.getLsbD_shiftLeft]
    rw [show 1 + i - 1 = i from by omega]
    have : decide (1 + i < 32) = true := by simp; omega
    simp [this]

theorem crcSteps_shl (k : Nat) : ∀ (y : BitVec 32), y.toNat < 2 ^ (32 - k) → k ≤ 32 → crcSteps k (y <<< k) = y := by
  induction k with
  | zero => intro y _ _; simp [crcSteps]
  | succ k ih =>
    intro y hy hk
    have e : (y <<< k).getLsbD 31 = false := by
      rw [BitVec.getLsbD_shiftLeft]
      have : y.getLsbD (31 - k) = false := by
        rw [BitVec.getLsbD, Nat.testBit_lt_two_pow]
        rwa [show 32 - (k + 1) = 31 - k from by omega] at hy
      rw [this]; simp
    rw [BitVec.shiftLeft_add, crcSteps, ← crcStep_in, crcStep_shl e]
    exact ih y (Nat.lt_of_lt_of_le hy (Nat.pow_le_pow_right (by omega) (by omega))) (by omega)

theorem wide_xor (a b : UInt8) : wide (a ^^^ b) = wide a ^^^ wide b := by
  apply BitVec.eq_of_toNat_eq
  have ha := a.toNat_lt
  have hb := b.toNat_lt
  have hx : a.toNat ^^^ b.toNat < 2 ^ 8 := Nat.xor_lt_two_pow ha hb
  unfold wide
  simp only [BitVec.toNat_xor, BitVec.toNat_ofNat, UInt8.toNat_xor]
  rw [Nat.mod_eq_of_lt (by omega), Nat.mod_eq_of_lt (by omega), Nat.mod_eq_of_lt (by omega)]
theorem wide_nat (c : UInt8) : (wide c).toNat = c.toNat := by
  have := c.toNat_lt
  unfold wide
  rw [BitVec.toNat_ofNat, Nat.mod_eq_of_lt (by omega)]
theorem wide_zero : wide 0 = 0#32 := by decide

theorem crcFold_app (s : BitVec 32) (l m : List UInt8) : crcFold s (l ++ m) = crcFold (crcFold s l) m := by unfold crcFold; rw [List.foldl_append]
theorem crcFold_snoc (s : BitVec 32) (l : List UInt8) (c : UInt8) : crcFold s (l ++ [c]) = crcByte (crcFold s l) c := by rw [crcFold_app]; rfl

/-! Three rows byte by byte exclusive. -/
def xor3 : List UInt8 → List UInt8 → List UInt8 → List UInt8
  | a :: l, b :: m, c :: n => (a ^^^ b ^^^ c) :: xor3 l m n
  | _, _, _ => []

theorem crcByte_xor (s t : BitVec 32) (a b : UInt8) : crcByte (s ^^^ t) (a ^^^ b) = crcByte s a ^^^ crcByte t b := by
  unfold crcByte
  rw [wide_xor, xor_swap, crcSteps_xor]

theorem crcFold_xor3 (l : List UInt8) : ∀ (m n : List UInt8) (s t u : BitVec 32), l.length = m.length → l.length = n.length → crcFold (s ^^^ t ^^^ u) (xor3 l m n) = crcFold s l ^^^ crcFold t m ^^^ crcFold u n := by
  induction l with
  | nil =>
    intro m n s t u h1 h2
    cases m with
    | cons _ _ => simp at h1
    | nil => cases n with
      | cons _ _ => simp at h2
      | nil => rfl
  | cons a l ih =>
    intro m n s t u h1 h2
    cases m with
    | nil => simp at h1
    | cons b m => cases n with
      | nil => simp at h2
      | cons c n =>
        have := ih m n (crcByte s a) (crcByte t b) (crcByte u c) (by simpa using h1) (by simpa using h2)
        rw [← crcByte_xor, ← crcByte_xor] at this
        exact this

theorem not_xor3 (x y z : BitVec 32) : ~~~ (x ^^^ y ^^^ z) = ~~~x ^^^ ~~~y ^^^ ~~~z := by
  apply BitVec.eq_of_getLsbD_eq
  intro i hi
  simp only [BitVec.getLsbD_not, BitVec.getLsbD_xor, hi, decide_true, Bool.true_and]
  cases x.getLsbD i <;> cases y.getLsbD i <;> cases z.getLsbD i <;> rfl

theorem crcOf_xor3 {l m n : List UInt8} (h1 : l.length = m.length) (h2 : l.length = n.length) : crcOf (xor3 l m n) = crcOf l ^^^ crcOf m ^^^ crcOf n := by
  unfold crcOf
  rw [← not_xor3, ← crcFold_xor3 l m n _ _ _ h1 h2]
  have e : crcStart ^^^ crcStart ^^^ crcStart = crcStart := by decide
  rw [e]

theorem xor3_len {l : List UInt8} : ∀ {m n : List UInt8}, l.length = m.length → l.length = n.length → (xor3 l m n).length = l.length := by
  induction l with
  | nil => intro m n _ _; cases m <;> cases n <;> rfl
  | cons a l ih =>
    intro m n h1 h2
    cases m with
    | nil => simp at h1
    | cons b m => cases n with
      | nil => simp at h2
      | cons c n => simp only [xor3, List.length_cons]; rw [ih (by simpa using h1) (by simpa using h2)]

theorem xor3_get {l : List UInt8} : ∀ {m n : List UInt8} {k : Nat} (hl : k < l.length) (hm : k < m.length) (hn : k < n.length), (xor3 l m n)[k]? = some (l[k] ^^^ m[k] ^^^ n[k]) := by
  induction l with
  | nil => intro m n k hl; simp at hl
  | cons a l ih =>
    intro m n k hl hm hn
    cases m with
    | nil => simp at hm
    | cons b m => cases n with
      | nil => simp at hn
      | cons c n =>
        cases k with
        | zero => rfl
        | succ k => simp only [xor3, List.getElem?_cons_succ, List.getElem_cons_succ]; exact ih _ _ _

/-! A run that is turned. -/
def zipXor : List UInt8 → List UInt8 → List UInt8
  | x :: q, t :: ts => (x ^^^ t) :: zipXor q ts
  | q, [] => q
  | [], _ :: _ => []
/-- What the two ways differ by, behind it all. -/
def apartBy (d : BitVec 32) : List UInt8 → List UInt8 → BitVec 32
  | _ :: q, t :: ts => apartBy (crcSteps 8 (d ^^^ wide t)) q ts
  | _ :: q, [] => apartBy (crcSteps 8 d) q []
  | [], _ => d
/-- Are all that are met nought? -/
def allNought : List UInt8 → List UInt8 → Bool
  | _ :: q, t :: ts => (t == 0) && allNought q ts
  | _, _ => true
/-- The turns as one number, the first in the lowest bits. -/
def asWord : List UInt8 → List UInt8 → BitVec 32
  | _ :: q, t :: ts => wide t ^^^ (asWord q ts <<< 8)
  | _, _ => 0#32

theorem apart_eq (q : List UInt8) : ∀ (ts : List UInt8) (s d : BitVec 32), crcFold (s ^^^ d) (zipXor q ts) = crcFold s q ^^^ apartBy d q ts := by
  induction q with
  | nil =>
    intro ts s d
    cases ts <;> rfl
  | cons x q ih =>
    intro ts s d
    cases ts with
    | nil =>
      have h := ih [] (crcByte s x) (crcSteps 8 d)
      have e : zipXor q [] = q := by cases q <;> rfl
      rw [e] at h
      have e2 : crcByte s x ^^^ crcSteps 8 d = crcByte (s ^^^ d) x := by
        unfold crcByte
        rw [← crcSteps_xor, BitVec.xor_assoc, BitVec.xor_assoc, BitVec.xor_comm d]
      rw [e2] at h
      exact h
    | cons t ts =>
      have h := ih ts (crcByte s x) (crcSteps 8 (d ^^^ wide t))
      have e2 : crcByte s x ^^^ crcSteps 8 (d ^^^ wide t) = crcByte (s ^^^ d) (x ^^^ t) := by
        unfold crcByte
        rw [← crcSteps_xor, wide_xor, xor_swap]
      rw [e2] at h
      exact h

theorem apartBy_nil (q : List UInt8) : ∀ d, apartBy d q [] = 0#32 → d = 0#32 := by
  induction q with
  | nil => intro d h; exact h
  | cons x q ih => intro d h; exact crcSteps_zero (ih _ h)

theorem asWord_lt (ts : List UInt8) : ∀ q : List UInt8, ts.length ≤ 4 → (asWord q ts).toNat < 2 ^ (8 * ts.length) := by
  induction ts with
  | nil => intro q _; cases q <;> simp [asWord]
  | cons t ts ih =>
    intro q h
    cases q with
    | nil => simp [asWord]; exact Nat.pow_pos (by omega)
    | cons x q =>
      simp only [List.length_cons] at h
      have h1 := ih q (by omega)
      have ht := t.toNat_lt
      simp only [asWord, BitVec.toNat_xor, wide_nat, List.length_cons]
      apply Nat.xor_lt_two_pow
      · exact Nat.lt_of_lt_of_le ht (Nat.pow_le_pow_right (by omega) (by omega))
      · rw [BitVec.toNat_shiftLeft, Nat.shiftLeft_eq]
        refine Nat.lt_of_le_of_lt (Nat.mod_le _ _) ?_
        rw [show 8 * (ts.length + 1) = 8 * ts.length + 8 from by omega, Nat.pow_add]
        exact Nat.mul_lt_mul_of_pos_right h1 (by omega)

theorem apart_word (ts : List UInt8) : ∀ (q : List UInt8) (d : BitVec 32), ts.length ≤ 4 → apartBy d q ts = 0#32 → d = asWord q ts := by
  induction ts with
  | nil =>
    intro q d _ h
    rw [apartBy_nil q d h]
    cases q <;> rfl
  | cons t ts ih =>
    intro q d hl h
    cases q with
    | nil => exact h
    | cons x q =>
      simp only [List.length_cons] at hl
      have h1 := ih q _ (by omega) h
      have hlt := asWord_lt ts q (by omega)
      rw [← crcSteps_shl 8 (asWord q ts) (Nat.lt_of_lt_of_le hlt (Nat.pow_le_pow_right (by omega) (by omega))) (by omega)] at h1
      have h2 := crcSteps_inj h1
      have := congrArg (· ^^^ wide t) h2
      simp only [BitVec.xor_assoc, BitVec.xor_self, BitVec.xor_zero] at this
      rw [this, BitVec.xor_comm]
      rfl

theorem asWord_zero (ts : List UInt8) : ∀ q : List UInt8, ts.length ≤ 4 → asWord q ts = 0#32 → allNought q ts = true := by
  induction ts with
  | nil => intro q _ _; cases q <;> rfl
  | cons t ts ih =>
    intro q hl h
    cases q with
    | nil => rfl
    | cons x q =>
      simp only [List.length_cons] at hl
      have h1 : wide t = asWord q ts <<< 8 := xor_eq_zero h
      have ht := t.toNat_lt
      have hlt : (asWord q ts).toNat < 2 ^ 24 := Nat.lt_of_lt_of_le (asWord_lt ts q (by omega)) (Nat.pow_le_pow_right (by omega) (by omega))
      have h2 := congrArg BitVec.toNat h1
      rw [wide_nat, BitVec.toNat_shiftLeft, Nat.shiftLeft_eq, Nat.mod_eq_of_lt (by omega)] at h2
      have h3 : t = 0 := UInt8.toNat_inj.1 (by show t.toNat = 0; omega)
      have h4 : asWord q ts = 0#32 := BitVec.eq_of_toNat_eq (by show (asWord q ts).toNat = 0; omega)
      simp only [allNought, h3, beq_self_eq_true, Bool.true_and]
      exact ih q (by omega) h4

theorem zipXor_nought (ts : List UInt8) : ∀ q : List UInt8, allNought q ts = true → zipXor q ts = q := by
  induction ts with
  | nil => intro q _; cases q <;> rfl
  | cons t ts ih =>
    intro q h
    cases q with
    | nil => rfl
    | cons x q =>
      simp only [allNought, Bool.and_eq_true, beq_iff_eq] at h
      rw [zipXor, ih q h.2, h.1]
      simp

theorem crcOf_turned {p q ts : List UInt8} (h : ts.length ≤ 4) : (crcOf (p ++ zipXor q ts) = crcOf (p ++ q)) ↔ allNought q ts = true := by
  constructor
  · intro he
    have h1 : crcFold (crcStart) (p ++ zipXor q ts) = crcFold (crcStart) (p ++ q) := by
      have := congrArg (fun v => ~~~ v) he
      simpa [crcOf] using this
    rw [crcFold_app, crcFold_app] at h1
    have h2 := apart_eq q ts (crcFold (crcStart) p) 0#32
    rw [BitVec.xor_zero, h1] at h2
    have h3 : apartBy 0#32 q ts = 0#32 := by
      have := congrArg (fun v => crcFold (crcFold (crcStart) p) q ^^^ v) h2
      simp only [← BitVec.xor_assoc, BitVec.xor_self, BitVec.zero_xor] at this
      exact this.symm
    exact asWord_zero ts q h (apart_word ts q _ h h3).symm
  · intro hn
    rw [zipXor_nought ts q hn]

/-! The chain. -/
def chTimes : Nat := 1099511628211
def chStart : Nat := 14695981039346656037
def chStep (h c : Nat) : Nat := (h ^^^ c) * chTimes % 18446744073709551616
def chByte (p k : Nat) : Nat := p / 256 ^ k % 256
def chHead (p : Nat) : Nat → Nat
  | 0 => chStart
  | k + 1 => chStep (chHead p k) (chByte p k)
theorem chHead_zero (p : Nat) : chHead p 0 = chStart := by simp only [chHead]
theorem chHead_succ (p k : Nat) : chHead p (k + 1) = chStep (chHead p k) (chByte p k) := by simp only [chHead]
def chFold (h : Nat) (l : List UInt8) : Nat := l.foldl (fun h c => chStep h c.toNat) h
def chOf (p : Nat) (l : List UInt8) : Nat := chFold (chHead p 8) l
theorem chStep_lt (h c : Nat) : chStep h c < 18446744073709551616 := Nat.mod_lt _ (by omega)
theorem chHead_lt (p k : Nat) : chHead p k < 18446744073709551616 := by
  cases k with
  | zero => rw [chHead_zero]; unfold chStart; omega
  | succ k => rw [chHead_succ]; exact chStep_lt _ _
theorem chFold_cons (h : Nat) (c : UInt8) (l : List UInt8) : chFold h (c :: l) = chFold (chStep h c.toNat) l := by unfold chFold; rw [List.foldl_cons]
theorem chFold_nil (h : Nat) : chFold h [] = h := by unfold chFold; rw [List.foldl_nil]
theorem chFold_snoc (h : Nat) (l : List UInt8) (c : UInt8) : chFold h (l ++ [c]) = chStep (chFold h l) c.toNat := by unfold chFold; rw [List.foldl_append, List.foldl_cons, List.foldl_nil]
theorem chFold_lt {h : Nat} (hh : h < 18446744073709551616) : ∀ (l : List UInt8), chFold h l < 18446744073709551616 := by
  intro l
  induction l generalizing h with
  | nil => rw [chFold_nil]; exact hh
  | cons c l ih => rw [chFold_cons]; exact ih (chStep_lt _ _)
theorem chOf_lt (p : Nat) (l : List UInt8) : chOf p l < 18446744073709551616 := chFold_lt (chHead_lt p 8) l
theorem chOf_snoc (p : Nat) (l : List UInt8) (c : UInt8) : chOf p (l ++ [c]) = chStep (chOf p l) c.toNat := chFold_snoc _ _ _
theorem chOf_0_1 : chOf 0 [] ≠ chOf 1 [] := by
  simp [chOf, chFold, chHead, chStep, chByte, chStart, chTimes]

theorem crcOf_nil : crcOf [] = 0#32 := by decide +kernel
theorem crcOf_digits : crcOf [49, 50, 51, 52, 53, 54, 55, 56, 57] = BitVec.ofNat 32 3421780262 := by decide +kernel
end Go.Proofs.Ytfehafeopoejgaa
