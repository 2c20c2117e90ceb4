/- Several texts in one: LexVal, ShowTok, ShowRead, ShowExpr, PolCountsM, ShowPol, ShowLen, ConvText, Make, VQuoteV, VDigitsM, VShowV, ShowAttr, ShowLeaf, Cells, CellRows, ShowRow, ShowTexts, ShowStack, ShowNode, ShowExprW, ShowRul. -/
import Derived.Test.YtincnopaclmppaaDoorUpA
import Derived.Test.YtincnopaclmppaaDoorPolPol
import Derived.Test.YtincnopaclmppaaDoorKeepSmall
import Derived.Lib.ItoaLen
import Derived.Test.YtincnopaclmppaaDoorMade
import Derived.Laws.BytesArg
import Derived.Test.YtincnopaclmppaaDoorVNameV
import Derived.Test.YtincnopaclmppaaDoorVBox
import Derived.Deep.RegionLaw
import Derived.Laws.OwnMore
import Derived.Test.YtincnopaclmppaaDoorVMath
import Derived.Test.YtincnopaclmppaaDoorVRightV
import Derived.Test.YtincnopaclmppaaDoorPolLeaf
import Derived.Laws.StructEq
import Derived.Laws.Tables
import Derived.Laws.Cover2
import Derived.Lib.QuietBelow
import Derived.Deep.CutRange
import Derived.Test.YtincnopaclmppaaDoorHTail
import Derived.Maps.AppendAt
import Derived.Test.YtincnopaclmppaaDoorPolOw
import Derived.Test.YtincnopaclmppaaDoorShelf
import Derived.Test.YtincnopaclmppaaDoorPolExpr
/- A right value's text as a token, plainly. -/
namespace Go.Proofs.YtincnopaclmppaaDoor
set_option linter.unusedVariables false

theorem tw_self {p : UInt8 → Bool} {l : List UInt8} (h : ∀ c ∈ l, p c = true) : l.takeWhile p = l := by
  induction l with
  | nil => rfl
  | cons c r ih => rw [List.takeWhile_cons, if_pos (h c (List.mem_cons_self ..)), ih fun d hd => h d (List.mem_cons_of_mem _ hd)]
theorem numD_dec (u : Nat) : numD (Lib.decDigits u) = u := valD_dec u
theorem dec_digs (u : Nat) : AllD (Lib.decDigits u) := by
  induction u using Nat.strongRecOn with
  | _ u ih =>
    intro c hc
    rw [Lib.decDigits] at hc
    split at hc
    · rename_i h
      simp at hc
      subst hc
      have := ofNat_toNat (show 48 + u < 256 by omega)
      unfold dgt
      simp
      omega
    · rename_i h
      rcases List.mem_append.1 hc with hc | hc
      · exact ih (u / 10) (by omega) c hc
      · simp at hc
        subst hc
        have := ofNat_toNat (show 48 + u % 10 < 256 by omega)
        unfold dgt
        simp
        omega
theorem dec_zero (u : Nat) : ∀ r, Lib.decDigits u = 48 :: r → r = [] := by
  induction u using Nat.strongRecOn with
  | _ u ih =>
    intro r hr
    rw [Lib.decDigits] at hr
    split at hr
    · injection hr with _ h; exact h.symm
    · rename_i h
      obtain ⟨c, r', e, _⟩ := dec_head (u / 10)
      rw [e] at hr
      injection hr with h1 h2
      subst h1
      have h0 := ih (u / 10) (by omega) r' e
      subst h0
      have := valD_dec (u / 10)
      rw [e] at this
      simp [valD] at this
      omega
theorem decD_dec {most u : Nat} (h : u ≤ most) : decD most (Lib.decDigits u) = some u := by
  obtain ⟨c, r, e, _⟩ := dec_head u
  unfold decD
  rw [if_neg, numD_dec]
  rintro (h1 | ⟨h1, h2⟩ | h1)
  · rw [e] at h1; cases h1
  · rw [e] at h1 h2
    simp at h1
    subst h1
    exact h2 (by rw [dec_zero u r e])
  · rw [numD_dec] at h1; omega
/-- A number's text is a token. -/
theorem tok_itoa {n : Int} (h1 : -9223372036854775808 ≤ n) (h2 : n ≤ 9223372036854775807) : tokB (Lib.itoa n) = some (2, n, [], (Lib.itoa n).length) := by
  unfold Lib.itoa
  split
  · rename_i hn
    rw [tokB_cons, if_neg (by decide), if_neg (by decide), if_pos rfl, tw_self (dec_digs _), decD_dec (show n.natAbs ≤ 9223372036854775808 by omega), Option.bind_some, if_neg (by omega)]
    simp
    omega
  · rename_i hn
    obtain ⟨c, r, e, h48, h57⟩ := dec_head n.toNat
    have hd := dec_digs n.toNat
    have ht := tw_self hd
    have hv := decD_dec (most := 9223372036854775807) (u := n.toNat) (by omega)
    rw [e] at hd ht hv ⊢
    have hl : lett c = false := by unfold lett; simp; omega
    rw [tokB_cons, if_neg (by rw [hl]; simp), if_pos (hd c (List.mem_cons_self ..)), ht, hv]
    simp
    omega
theorem tok_tick {n : Int} (h1 : 0 ≤ n) (h2 : n ≤ 1099511627776) : tokB (64 :: Lib.itoa n) = some (3, n, [], (Lib.itoa n).length + 1) := by
  unfold Lib.itoa
  rw [if_neg (by omega), tokB_cons, if_neg (by decide), if_neg (by decide), if_neg (by decide), if_pos rfl, tw_self (dec_digs _), decD_dec (show n.toNat ≤ 1099511627776 by omega)]
  simp
  omega
theorem named_inm {l : List UInt8} (h : Named l) : ∀ c ∈ l, inm c = true := by
  intro c hc
  obtain ⟨j, hj, rfl⟩ := List.getElem_of_mem hc
  have := h.2 j hj
  unfold okAt at this
  unfold inm
  cases hl : lett l[j] with
  | true => rfl
  | false => rw [hl] at this; simp at this; simp [this.2]
theorem tok_id {l : List UInt8} (h : Named l) : tokB (35 :: l) = some (4, 0, l, l.length + 1) := by
  rw [tokB_cons, if_neg (by decide), if_neg (by decide), if_neg (by decide), if_neg (by decide), if_pos rfl, tw_self (named_inm h), if_pos h]
theorem hexv_hexd : ∀ x : Fin 16, hexv (hexd x.val) = some x.val := by decide
theorem qt_quote : ∀ (l : List UInt8), qtB (quoteL l ++ [34]) = some (l, (quoteL l).length + 1)
  | [] => by show qtB [34] = _; rw [qtB_end]; rfl
  | c :: r => by
    have ih := qt_quote r
    show qtB (quoteC c ++ quoteL r ++ [34]) = some (c :: r, (quoteC c ++ quoteL r).length + 1)
    unfold quoteC
    cases ho : odd8 c with
    | true =>
      rw [if_pos rfl]
      have hlt := c.toNat_lt
      have e1 := hexv_hexd ⟨c.toNat / 16, by omega⟩
      have e2 := hexv_hexd ⟨c.toNat % 16, by omega⟩
      dsimp only at e1 e2
      have hc : UInt8.ofNat (16 * (c.toNat / 16) + c.toNat % 16) = c := by
        rw [show 16 * (c.toNat / 16) + c.toNat % 16 = c.toNat by omega]
        simp
      have hone : oneB (92 :: hexd (c.toNat / 16) :: hexd (c.toNat % 16) :: (quoteL r ++ [34])) = some (c, 3) := by
        rw [oneB_hex, e1, e2, hexB_some, hc, if_pos ho]
      show qtB (92 :: hexd (c.toNat / 16) :: hexd (c.toNat % 16) :: (quoteL r ++ [34])) = _
      rw [qtB_one (by decide) hone]
      show (qtB (quoteL r ++ [34])).map _ = _
      rw [ih]
      simp
      omega
    | false =>
      rw [if_neg (by simp)]
      have h34 : c ≠ 34 := by rintro rfl; revert ho; decide
      show qtB (c :: (quoteL r ++ [34])) = _
      rw [qtB_one h34 (oneB_plain ho)]
      show (qtB (quoteL r ++ [34])).map _ = _
      rw [ih]
      simp
      omega
theorem tok_text {l : List UInt8} (h : l.length ≤ 64) : tokB (quoteB l) = some (5, 0, l, (quoteB l).length) := by
  show tokB (34 :: (quoteL l ++ [34])) = some (5, 0, l, (34 :: (quoteL l ++ [34])).length)
  rw [tokB_cons, if_neg (by decide), if_neg (by decide), if_neg (by decide), if_neg (by decide), if_neg (by decide), if_pos rfl, qt_quote, Option.bind_some, if_pos h]
  simp
/-- A text that is one token, and nothing else. -/
theorem lex_one {l s : List UInt8} {k n : Int} (h : tokB l = some (k, n, s, l.length)) (hb : ∀ c r, l = c :: r → blk c = false) (p : Nat) : lexB l p = .ok [⟨k, p, n, ⟨s.toArray⟩⟩, ⟨7, ((p + l.length : Nat) : Int), 0, ⟨#[]⟩⟩] := by
  cases l with
  | nil => cases h
  | cons c r =>
    rw [lexB_tok (hb c r rfl) h, List.drop_length, lexB_nil]
    rfl
/-- What a right value's text is as tokens: the kind, the number, the text of the first. -/
theorem lex_show {v : Vl} (h : v.right) (hn : -9223372036854775808 ≤ v.n ∧ v.n ≤ 9223372036854775807) :
    ∃ (k n : Int) (s : List UInt8), lexB (showB v) 0 = .ok [⟨k, 0, n, ⟨s.toArray⟩⟩, ⟨7, (((showB v).length : Nat) : Int), 0, ⟨#[]⟩⟩] ∧
      (v.k = 1 ∧ k = 1 ∧ (v.n = 1 ∧ s = [116, 114, 117, 101] ∨ v.n = 0 ∧ s = [102, 97, 108, 115, 101]) ∨ v.k = 2 ∧ k = 2 ∧ n = v.n ∨ v.k = 3 ∧ k = 5 ∧ s = v.l ∨ v.k = 4 ∧ k = 3 ∧ n = v.n ∨ v.k = 5 ∧ k = 4 ∧ s = v.l) := by
  have hr := h
  unfold Vl.right RightV at hr
  obtain ⟨c0, r0, e0, h0⟩ := itoa_head v.n
  have hbi : ∀ c r, Lib.itoa v.n = c :: r → blk c = false := fun c r e => by
    rw [e0] at e
    injection e with e1 _
    subst e1
    unfold blk
    simp
    omega
  rcases show_cases h with ⟨hk, _, ⟨hn0, hs⟩ | ⟨hn0, hs⟩⟩ | ⟨hk, _, hs⟩ | ⟨hk, _, hs⟩ | ⟨hk, _, hs⟩ | ⟨hk, _, hs⟩
  all_goals rw [hs]
  · refine ⟨1, 0, [102, 97, 108, 115, 101], ?_, .inl ⟨hk, rfl, .inr ⟨hn0, rfl⟩⟩⟩
    have := lex_one (show tokB [102, 97, 108, 115, 101] = some (1, 0, [102, 97, 108, 115, 101], ([102, 97, 108, 115, 101] : List UInt8).length) by decide +kernel) (fun c r e => by injection e with e1 _; subst e1; decide) 0
    rwa [Nat.zero_add] at this
  · refine ⟨1, 0, [116, 114, 117, 101], ?_, .inl ⟨hk, rfl, .inl ⟨hn0, rfl⟩⟩⟩
    have := lex_one (show tokB [116, 114, 117, 101] = some (1, 0, [116, 114, 117, 101], ([116, 114, 117, 101] : List UInt8).length) by decide +kernel) (fun c r e => by injection e with e1 _; subst e1; decide) 0
    rwa [Nat.zero_add] at this
  · refine ⟨2, v.n, [], ?_, .inr (.inl ⟨hk, rfl, rfl⟩)⟩
    have := lex_one (tok_itoa hn.1 hn.2) hbi 0
    rwa [Nat.zero_add] at this
  · refine ⟨5, 0, v.l, ?_, .inr (.inr (.inl ⟨hk, rfl, rfl⟩))⟩
    have hl : v.l.length ≤ 64 := by rcases hr with h | h | h | h | h <;> omega
    have := lex_one (tok_text hl) (fun c r e => by injection e with e1 _; subst e1; decide) 0
    rwa [Nat.zero_add] at this
  · refine ⟨3, v.n, [], ?_, .inr (.inr (.inr (.inl ⟨hk, rfl, rfl⟩)))⟩
    have hb : 0 ≤ v.n ∧ v.n ≤ 1099511627776 := by rcases hr with h | h | h | h | h <;> omega
    have := lex_one (l := 64 :: Lib.itoa v.n) (tok_tick hb.1 hb.2) (fun c r e => by injection e with e1 _; subst e1; decide) 0
    rwa [Nat.zero_add] at this
  · refine ⟨4, 0, v.l, ?_, .inr (.inr (.inr (.inr ⟨hk, rfl, rfl⟩)))⟩
    have hnm : Named v.l := by rcases hr with h | h | h | h | h <;> first | exact h.2.2 | omega
    have := lex_one (l := 35 :: v.l) (tok_id hnm) (fun c r e => by injection e with e1 _; subst e1; decide) 0
    rwa [Nat.zero_add] at this
end Go.Proofs.YtincnopaclmppaaDoor
/- Policies as text, plainly: the tokens of such a text. -/
namespace Go.Proofs.YtincnopaclmppaaDoor
set_option linter.unusedVariables false

/-- What stands behind ends a name, and a number. -/
def Stp (r : List UInt8) : Prop := ∀ c r', r = c :: r' → inm c = false
theorem Stp.nil : Stp [] := fun c r' h => by cases h
theorem Stp.cons {c : UInt8} {r : List UInt8} (h : inm c = false) : Stp (c :: r) := fun d r' e => by injection e with e _; exact e ▸ h
theorem dgt_inm {c : UInt8} (h : inm c = false) : dgt c = false := by
  unfold inm later at h
  unfold dgt
  simp at h ⊢
  omega
theorem Stp.name {nm r : List UInt8} {zs : List Tk} (hn : Named nm) (hs : Stp r) (h : Zx r zs) : Zx (nm ++ r) (tName ⟨nm.toArray⟩ :: zs) := by
  cases r with
  | cons c r => exact Zx.name hn (hs c r rfl) h
  | nil =>
    rw [List.append_nil]
    have ht := tw_self (named_inm hn)
    cases nm with
    | nil => exact absurd hn.1.1 (by simp)
    | cons a l =>
      have ha : lett a = true := by
        have := hn.2 0 (by simp)
        unfold okAt at this
        simpa using this
      refine Zx.tok (k := 1) (n := 0) (s := a :: l) (m := (a :: l).length) (lett_blk ha) ?_ ?_
      · rw [tokB, if_pos ha, ht, if_pos hn]
      · rw [List.drop_length]
        exact h
/-- A text is these tokens, wherever it stands. -/
def One (t : List UInt8) (z : List Tk) : Prop := ∀ r zs, Stp r → Zx r zs → Zx (t ++ r) (z ++ zs)
theorem one_name {nm : List UInt8} (hn : Named nm) : One nm [tName ⟨nm.toArray⟩] := fun _ _ hs h => hs.name hn h
theorem One.sp {a b : List UInt8} {x y : List Tk} (ha : One a x) (hb : One b y) : One (a ++ 32 :: b) (x ++ y) := fun r zs hs h => by
  rw [List.append_assoc, List.append_assoc]
  exact ha _ _ (Stp.cons (by decide)) (Zx.sp (hb r zs hs h))
/-- A mark behind. -/
theorem One.behind {a : List UInt8} {x : List Tk} {c : UInt8} {t : Tk} (ha : One a x) (hc : inm c = false) (hm : ∀ {r : List UInt8} {zs : List Tk}, Zx r zs → Zx (c :: r) (t :: zs)) : One (a ++ [c]) (x ++ [t]) := fun r zs hs h => by
  rw [List.append_assoc, List.append_assoc]
  exact ha _ _ (Stp.cons hc) (hm h)
/-- A mark ahead. -/
theorem One.ahead {a : List UInt8} {x : List Tk} {c : UInt8} {t : Tk} (ha : One a x) (hm : ∀ {r : List UInt8} {zs : List Tk}, Zx r zs → Zx (c :: r) (t :: zs)) : One (c :: a) (t :: x) := fun r zs hs h => hm (ha r zs hs h)
theorem one_mark {c : UInt8} {t : Tk} (hm : ∀ {r : List UInt8} {zs : List Tk}, Zx r zs → Zx (c :: r) (t :: zs)) : One [c] [t] := fun r zs hs h => hm h

def vZ (v : Vl) : Tk :=
  if v.k = 1 then tName (if v.n = 1 then w_true else w_false) else if v.k = 2 then ⟨2, 0, v.n, ⟨#[]⟩⟩ else if v.k = 3 then ⟨5, 0, 0, v.s⟩ else if v.k = 4 then ⟨3, 0, v.n, ⟨#[]⟩⟩ else ⟨4, 0, 0, v.s⟩
theorem one_tok {l s : List UInt8} {k n : Int} (hb : ∃ c r, l = c :: r ∧ blk c = false) (h : tokB l = some (k, n, s, l.length)) : One l [⟨k, 0, n, ⟨s.toArray⟩⟩] := fun r zs hs hz => by
  obtain ⟨c, l', rfl, hc⟩ := hb
  show Zx (c :: (l' ++ r)) (_ :: zs)
  have hd : ((c :: (l' ++ r)).drop (c :: l').length) = r := by
    rw [← List.cons_append, List.drop_left]
  cases r with
  | nil =>
    refine Zx.tok hc (by rw [List.append_nil]; exact h) ?_
    rw [hd]; exact hz
  | cons x y =>
    have hx := hs x y rfl
    refine Zx.tok hc (by rw [← List.cons_append]; exact tokB_app hx (dgt_inm hx) _ _ h) ?_
    rw [hd]; exact hz
theorem mk_bl (v : Vl) : (⟨v.l.toArray⟩ : ByteArray) = v.s := by
  obtain ⟨k, n, ⟨⟨l⟩⟩⟩ := v
  rfl
theorem one_val {v : Vl} (h : v.right) (hn : InI v.n) : One (showB v) [vZ v] := by
  obtain ⟨c0, r0, e0, h0⟩ := itoa_head v.n
  have hbi : ∃ c r, Lib.itoa v.n = c :: r ∧ blk c = false := ⟨c0, r0, e0, by unfold blk; simp; omega⟩
  have hr := h
  unfold Vl.right RightV at hr
  rcases show_cases h with ⟨hk, hl, ⟨hn0, hs⟩ | ⟨hn0, hs⟩⟩ | ⟨hk, hl, hs⟩ | ⟨hk, hn0, hs⟩ | ⟨hk, hl, hs⟩ | ⟨hk, hn0, hs⟩ <;> rw [hs]
  · rw [show vZ v = tName w_false by unfold vZ; rw [if_pos hk, if_neg (by omega)]]
    exact one_name (nm := [102, 97, 108, 115, 101]) (by decide)
  · rw [show vZ v = tName w_true by unfold vZ; rw [if_pos hk, if_pos hn0]]
    exact one_name (nm := [116, 114, 117, 101]) (by decide)
  · rw [show vZ v = ⟨2, 0, v.n, ⟨#[]⟩⟩ by unfold vZ; rw [if_neg (by omega), if_pos hk]]
    exact one_tok hbi (tok_itoa hn.1 hn.2)
  · rw [show vZ v = ⟨5, 0, 0, ⟨v.l.toArray⟩⟩ by unfold vZ; rw [if_neg (by omega), if_neg (by omega), if_pos hk, mk_bl]]
    exact one_tok ⟨34, _, rfl, by decide⟩ (tok_text (by omega))
  · rw [show vZ v = ⟨3, 0, v.n, ⟨#[]⟩⟩ by unfold vZ; rw [if_neg (by omega), if_neg (by omega), if_neg (by omega), if_pos hk]]
    refine one_tok ⟨64, _, rfl, by decide⟩ ?_
    rw [tok_tick (by omega) (by omega)]; rfl
  · rw [show vZ v = ⟨4, 0, 0, ⟨v.l.toArray⟩⟩ by unfold vZ; rw [if_neg (by omega), if_neg (by omega), if_neg (by omega), if_neg (by omega), mk_bl]]
    refine one_tok ⟨35, _, rfl, by decide⟩ ?_
    have hnm : Named v.l := by
      rcases hr with ⟨a, _⟩ | ⟨a, _⟩ | ⟨a, _⟩ | ⟨a, _⟩ | ⟨_, _, b⟩
      · omega
      · omega
      · omega
      · omega
      · exact b
    rw [tok_id hnm]; rfl

def wTk (l : List UInt8) : Tk := tName ⟨l.toArray⟩
theorem catW_named (n : Int) : Named (catW n) := by
  unfold catW
  repeat' split
  all_goals decide
theorem algW_named (n : Int) : Named (algW n) := by
  unfold algW
  repeat' split
  all_goals decide
theorem fnW_named (n : Int) : Named (fnW n) := by
  unfold fnW
  repeat' split
  all_goals decide
theorem doW_named (n : Int) : Named (doW n) := by
  unfold doW
  repeat' split
  all_goals decide
theorem effW_named (b : Bool) : Named (effW b) := by cases b <;> decide
theorem headW_named (p : Pol) : Named (headW p) := by
  unfold headW
  split <;> decide
def bangZ (b : Bool) : List Tk := if b = true then [tMark 33] else []
def restZ (a : Atr) : List Tk := tMark 46 :: tName a.name :: bangZ a.must
def attrZ (a : Atr) : List Tk := wTk (catW a.cat) :: restZ a
theorem attrB_all {a : Atr} (h : attrB a = true) : (a.cat = 1 ∨ a.cat = 2 ∨ a.cat = 3 ∨ a.cat = 4) ∧ Named (bl a.name) := by
  unfold attrB at h
  simp only [Bool.and_eq_true, decide_eq_true_eq] at h
  exact ⟨by omega, h.2⟩
theorem bl_toArray (s : ByteArray) : (⟨(bl s).toArray⟩ : ByteArray) = s := by
  obtain ⟨⟨l⟩⟩ := s
  rfl
theorem one_id {s : ByteArray} (h : Named (bl s)) : One (bl s) [tName s] := by
  have := one_name h
  rwa [bl_toArray] at this
theorem one_attr {a : Atr} (h : attrB a = true) : One (attrT a) (attrZ a) := fun r zs hs hz => by
  obtain ⟨_, hn⟩ := attrB_all h
  have e : attrT a ++ r = catW a.cat ++ 46 :: (bl a.name ++ ((if a.must = true then [33] else []) ++ r)) := by simp [attrT]
  rw [e]
  refine (Stp.cons (by decide)).name (catW_named _) (Zx.m46 ?_)
  have := one_id hn
  refine this _ (bangZ a.must ++ zs) ?_ ?_
  · cases a.must
    · exact hs
    · exact Stp.cons (by decide)
  · cases a.must
    · exact hz
    · exact Zx.m33 hz
theorem one_attrS {a : Atr} (h : attrB a = true) : One (attrS a) (attrZ a) := by
  unfold attrS
  rw [if_pos h]
  exact one_attr h
def cmpZ (op : Int) : Tk := tMark (if op = 1 then 61 else if op = 2 then 60 else 62)
def matZ (m : Mat) : List Tk := attrZ m.a ++ [cmpZ m.op, vZ m.v]
theorem one_cmp (n : Int) : One (cmpW n) [cmpZ n] := by
  unfold cmpW cmpZ
  split
  · exact one_mark Zx.m61
  · split
    · exact one_mark Zx.m60
    · exact one_mark Zx.m62
theorem one_mat {m : Mat} (h : matE m = 0) (hok : m.ok) : One (matT m) (matZ m) := by
  unfold matE at h
  split at h
  · rename_i hh
    exact (one_attrS hh.1).sp ((one_cmp m.op).sp (one_val hh.2.2.2 hok.2.2.2.1))
  · cases h

/-- A row of things with a mark or a word between. -/
def tailZ {α : Type} (Z : α → List Tk) (b : Tk) : List α → List Tk
  | [] => []
  | x :: l => b :: (Z x ++ tailZ Z b l)
def rowZ {α : Type} (Z : α → List Tk) (b : Tk) : List α → List Tk
  | [] => []
  | x :: l => Z x ++ tailZ Z b l
theorem one_tail {α : Type} {T : α → List UInt8} {Z : α → List Tk} {sep : List UInt8} {b : Tk} (hsep : ∀ {r : List UInt8} {zs : List Tk}, Zx r zs → Zx (sep ++ r) (b :: zs)) (hst : ∀ r, Stp (sep ++ r)) :
    ∀ (l : List α), (∀ x ∈ l, One (T x) (Z x)) → ∀ r zs, Stp r → Zx r zs → Zx (Lib.joinTail sep (l.map T) ++ r) (tailZ Z b l ++ zs) ∧ Stp (Lib.joinTail sep (l.map T) ++ r)
  | [], _, r, zs, hs, hz => ⟨hz, hs⟩
  | x :: l, h, r, zs, hs, hz => by
    obtain ⟨i1, i2⟩ := one_tail hsep hst l (fun y hy => h y (by simp [hy])) r zs hs hz
    have e : Lib.joinTail sep ((x :: l).map T) ++ r = sep ++ (T x ++ (Lib.joinTail sep (l.map T) ++ r)) := by simp [Lib.joinTail]
    rw [e]
    have e2 : tailZ Z b (x :: l) ++ zs = b :: (Z x ++ (tailZ Z b l ++ zs)) := by simp [tailZ]
    rw [e2]
    exact ⟨hsep (h x (by simp) _ _ i2 i1), hst _⟩
theorem one_row {α : Type} {T : α → List UInt8} {Z : α → List Tk} {sep : List UInt8} {b : Tk} (hsep : ∀ {r : List UInt8} {zs : List Tk}, Zx r zs → Zx (sep ++ r) (b :: zs)) (hst : ∀ r, Stp (sep ++ r)) {l : List α} (h : ∀ x ∈ l, One (T x) (Z x)) :
    One (Lib.join (l.map T) sep) (rowZ Z b l) := fun r zs hs hz => by
  cases l with
  | nil => exact hz
  | cons x l =>
    obtain ⟨i1, i2⟩ := one_tail hsep hst l (fun y hy => h y (by simp [hy])) r zs hs hz
    rw [List.map_cons, Lib.join_cons, List.append_assoc]
    show Zx _ ((Z x ++ tailZ Z b l) ++ zs)
    rw [List.append_assoc]
    exact h x (by simp) _ _ i2 i1
def allZ (l : List Mat) : List Tk := rowZ matZ (tMark 44) l
def anyZ (l : List (List Mat)) : List Tk := tMark 40 :: (rowZ allZ (tName w_or) l ++ [tMark 41])
def tgZ (t : Tgt) : List Tk := if t = [] then [] else tName w_when :: rowZ anyZ (tName w_and) t
theorem first_all {α : Type} {f : α → Int} : ∀ {l : List α}, firstE f l = 0 → ∀ x ∈ l, f x = 0
  | [], _, x, hx => by cases hx
  | y :: l, h, x, hx => by
    simp only [firstE] at h
    split at h
    · rename_i h0; exact absurd h h0
    · rename_i h0
      rcases List.mem_cons.1 hx with rfl | hx
      · simpa using h0
      · exact first_all h x hx
theorem allE_all {l : List Mat} (h : allE l = 0) : (1 ≤ l.length ∧ l.length ≤ 8) ∧ ∀ x ∈ l, matE x = 0 := by
  unfold allE at h
  split at h
  · rename_i h0; exact absurd h h0
  · rename_i h0
    refine ⟨?_, first_all h⟩
    unfold partsE at h0
    split at h0
    · simp at h0
    · split at h0
      · simp at h0
      · omega
theorem anyE_all {l : List (List Mat)} (h : anyE l = 0) : (1 ≤ l.length ∧ l.length ≤ 8) ∧ ∀ x ∈ l, allE x = 0 := by
  unfold anyE at h
  split at h
  · rename_i h0; exact absurd h h0
  · rename_i h0
    refine ⟨?_, first_all h⟩
    unfold partsE at h0
    split at h0
    · simp at h0
    · split at h0
      · simp at h0
      · omega
theorem tgE_all {t : Tgt} (h : tgE t = 0) : t.length ≤ 8 ∧ ∀ x ∈ t, anyE x = 0 := by
  unfold tgE at h
  split at h
  · cases h
  · exact ⟨by omega, first_all h⟩
def Tgt.oks (t : Tgt) : Prop := ∀ a ∈ t, ∀ l ∈ a, ∀ m ∈ l, m.ok
theorem one_all {l : List Mat} (h : allE l = 0) (hok : ∀ m ∈ l, m.ok) : One (allT l) (allZ l) :=
  one_row (sep := [44, 32]) (fun h => Zx.m44 (Zx.sp h)) (fun r => Stp.cons (by decide)) fun x hx => one_mat ((allE_all h).2 x hx) (hok x hx)
theorem sep_name {nm : List UInt8} (hn : Named nm) {r : List UInt8} {zs : List Tk} (h : Zx r zs) : Zx ((32 :: (nm ++ [32])) ++ r) (tName ⟨nm.toArray⟩ :: zs) := by
  show Zx (32 :: ((nm ++ [32]) ++ r)) _
  rw [List.append_assoc]
  exact Zx.sp ((Stp.cons (by decide)).name hn (Zx.sp h))
theorem one_anyZ {l : List (List Mat)} (h : anyE l = 0) (hok : ∀ a ∈ l, ∀ m ∈ a, m.ok) : One (anyT l) (anyZ l) :=
  ((one_row (sep := [32, 111, 114, 32]) (b := tName w_or) (fun h => sep_name (nm := [111, 114]) (by decide) h) (fun r => Stp.cons (by decide)) fun x hx => one_all ((anyE_all h).2 x hx) (hok x hx)).behind (by decide) Zx.m41).ahead Zx.m40
theorem one_tg {t : Tgt} (h : tgE t = 0) (hok : Tgt.oks t) : One (tgT t) (rowZ anyZ (tName w_and) t) :=
  one_row (sep := [32, 97, 110, 100, 32]) (b := tName w_and) (fun h => sep_name (nm := [97, 110, 100]) (by decide) h) (fun r => Stp.cons (by decide)) fun x hx => one_anyZ ((tgE_all h).2 x hx) (hok x hx)

/-- Words with one blank between. -/
inductive Wz : List (List UInt8) → List Tk → Prop
  | nil : Wz [] []
  | cons {t : List UInt8} {z : List Tk} {ts : List (List UInt8)} {zs : List Tk} : One t z → Wz ts zs → Wz (t :: ts) (z ++ zs)
theorem Wz.app {a b : List (List UInt8)} {x y : List Tk} (ha : Wz a x) (hb : Wz b y) : Wz (a ++ b) (x ++ y) := by
  induction ha with
  | nil => exact hb
  | cons h _ ih => rw [List.append_assoc]; exact .cons h ih
theorem Wz.one {t : List UInt8} {z : List Tk} (h : One t z) : Wz [t] z := by
  have := Wz.cons h .nil
  rwa [List.append_nil] at this
theorem Wz.map {α : Type} {T : α → List UInt8} {Z : α → List Tk} : ∀ {l : List α}, (∀ x ∈ l, One (T x) (Z x)) → Wz (l.map T) (l.flatMap Z)
  | [], _ => .nil
  | x :: l, h => by
    rw [List.map_cons, List.flatMap_cons]
    exact .cons (h x (by simp)) (Wz.map fun y hy => h y (by simp [hy]))
theorem Wz.flat {α : Type} {T : α → List (List UInt8)} {Z : α → List Tk} : ∀ {l : List α}, (∀ x ∈ l, Wz (T x) (Z x)) → Wz (l.map T).flatten (l.flatMap Z)
  | [], _ => .nil
  | x :: l, h => by
    rw [List.map_cons, List.flatMap_cons, List.flatten_cons]
    exact (h x (by simp)).app (Wz.flat fun y hy => h y (by simp [hy]))
theorem Wz.tail {ws : List (List UInt8)} {z : List Tk} (h : Wz ws z) : ∀ r zs, Stp r → Zx r zs → Zx (Lib.joinTail [32] ws ++ r) (z ++ zs) ∧ Stp (Lib.joinTail [32] ws ++ r) := by
  induction h with
  | nil => exact fun r zs hs hz => ⟨hz, hs⟩
  | @cons t z ts zs' h _ ih =>
    intro r zs hs hz
    obtain ⟨i1, i2⟩ := ih r zs hs hz
    have e : Lib.joinTail [32] (t :: ts) ++ r = 32 :: (t ++ (Lib.joinTail [32] ts ++ r)) := by simp [Lib.joinTail]
    rw [e, List.append_assoc]
    exact ⟨Zx.sp (h _ _ i2 i1), Stp.cons (by decide)⟩
theorem Wz.join {ws : List (List UInt8)} {z : List Tk} (h : Wz ws z) : One (Lib.join ws [32]) z := by
  cases h with
  | nil => exact fun r zs hs hz => hz
  | cons h1 h2 =>
    intro r zs hs hz
    obtain ⟨i1, i2⟩ := h2.tail r zs hs hz
    rw [Lib.join_cons, List.append_assoc, List.append_assoc]
    exact h1 _ _ i2 i1
theorem wz_tg {t : Tgt} (h : tgE t = 0) (hok : Tgt.oks t) : Wz (tgW t) (tgZ t) := by
  unfold tgW tgZ
  split
  · exact .nil
  · exact .cons (z := [tName w_when]) (one_name (nm := [119, 104, 101, 110]) (by decide)) (.one (one_tg h hok))
def dutZ (o : Dut) : List Tk := [tName w_on, wTk (effW (decide (o.on = 2))), wTk (doW o.kind), tName o.arg]
theorem dutE_all {o : Dut} (h : dutE o = 0) : (o.on = 1 ∨ o.on = 2) ∧ (o.kind = 1 ∨ o.kind = 2 ∨ o.kind = 3 ∨ o.kind = 4) ∧ Named (bl o.arg) := by
  unfold dutE at h
  split at h
  · rename_i hh; exact ⟨hh.1, by omega, hh.2.2.2⟩
  · cases h
theorem one_dut {o : Dut} (h : dutE o = 0) : One (dutT o) (dutZ o) := by
  have hn := (dutE_all h).2.2
  have : One ([111, 110] ++ 32 :: (effW (decide (o.on = 2)) ++ 32 :: (doW o.kind ++ 32 :: bl o.arg))) _ := (one_name (nm := [111, 110]) (by decide)).sp ((one_name (effW_named _)).sp ((one_name (doW_named o.kind)).sp (one_id hn)))
  exact this
theorem obE_all {l : List Dut} (h : obE l = 0) : l.length ≤ 8 ∧ ∀ x ∈ l, dutE x = 0 := by
  unfold obE at h
  split at h
  · cases h
  · exact ⟨by omega, first_all h⟩
theorem wz_ob {l : List Dut} (h : obE l = 0) : Wz (l.map dutT) (l.flatMap dutZ) := .map fun x hx => one_dut ((obE_all h).2 x hx)
end Go.Proofs.YtincnopaclmppaaDoor
/- Policies as text, plainly: what is read of such tokens. -/
namespace Go.Proofs.YtincnopaclmppaaDoor
set_option linter.unusedVariables false

/-- A state without errors and places. -/
abbrev St (zs : List Tk) (m : Nat) : Pz := ⟨zs, m, 0, 0⟩
/-- None of these words stands ahead. -/
def Nx (ws : List ByteArray) (zs : List Tk) : Prop := seesR ws (St zs 0) = 0
theorem Nx.at_ {ws : List ByteArray} {zs : List Tk} (h : Nx ws zs) (m : Nat) : seesR ws (St zs m) = 0 := h
theorem take_no {ws : List ByteArray} {zs : List Tk} (h : Nx ws zs) (m : Nat) : takeR ws (St zs m) = (0, St zs m) := by
  unfold takeR
  rw [if_pos (h.at_ m)]
theorem take_yes {ws : List ByteArray} {t : Tk} {i : Nat} (h : seesR ws (St [t] 0) = i) (hi : i ≠ 0) (zs : List Tk) (m : Nat) : takeR ws (St (t :: zs) m) = (i, St zs m) := by
  have e : seesR ws (St (t :: zs) m) = i := h
  unfold takeR
  rw [if_neg (by rw [e]; exact hi), e]
  rfl
theorem must_yes {ws : List ByteArray} {t : Tk} {i : Nat} (h : seesR ws (St [t] 0) = i) (hi : i ≠ 0) (zs : List Tk) (m : Nat) : mustR ws (St (t :: zs) m) = (i, St zs m) := by
  have e : seesR ws (St (t :: zs) m) = i := h
  unfold mustR
  rw [if_neg (by rw [e]; exact hi), e]
  rfl
theorem nx_of {ws : List ByteArray} {t : Tk} (h : seesR ws (St [t] 0) = 0) (zs : List Tk) : Nx ws (t :: zs) := h
theorem name_read (s : ByteArray) (zs : List Tk) (m : Nat) : nameR (St (tName s :: zs) m) = (s, St zs m) := rfl

theorem cat_read {n : Int} (h : n = 1 ∨ n = 2 ∨ n = 3 ∨ n = 4) (zs : List Tk) (m : Nat) : catR (St (wTk (catW n) :: zs) m) = (n.toNat, St zs m) := by
  unfold catR
  rcases h with rfl | rfl | rfl | rfl <;> exact take_yes (by decide +kernel) (by decide) zs m
theorem attr_read {a : Atr} (h : a.cat ≠ 0) {zs : List Tk} (hb : Nx [m_bang] zs) (m : Nat) : attrR a.cat (St (restZ a ++ zs) m) = (a, St zs m) := by
  obtain ⟨c, nm, must⟩ := a
  have e : restZ ⟨c, nm, must⟩ ++ zs = tMark 46 :: tName nm :: (bangZ must ++ zs) := rfl
  rw [e]
  unfold attrR
  simp only
  rw [if_neg h, must_yes (i := 1) (by decide +kernel) (by decide)]
  simp only
  rw [name_read]
  simp only
  cases must with
  | true =>
    have : bangZ true ++ zs = tMark 33 :: zs := rfl
    rw [this, take_yes (i := 1) (by decide +kernel) (by decide)]
    rfl
  | false =>
    have : bangZ false ++ zs = zs := rfl
    rw [this, take_no hb]
    rfl
theorem val_read {v : Vl} (h : v.right) (zs : List Tk) (m : Nat) : valueR (St (vZ v :: zs) m) = (v, St zs m) := by
  have fin : ∀ (k : Int) (t : Tk), kindR t.k = k → k ≠ 1 → valueR (St (t :: zs) m) = (⟨k, t.n, t.s⟩, St zs m) := by
    intro k t hk h1
    unfold valueR
    have e : (St (t :: zs) m).hd = t := rfl
    rw [e, hk, if_neg h1]
    rfl
  rcases show_cases h with ⟨hk, hl, ⟨hn0, hs⟩ | ⟨hn0, hs⟩⟩ | ⟨hk, hl, hs⟩ | ⟨hk, hn0, hs⟩ | ⟨hk, hl, hs⟩ | ⟨hk, hn0, hs⟩
  · rw [show vZ v = tName w_false by unfold vZ; rw [if_pos hk, if_neg (by omega)]]
    unfold valueR
    have e : (St (tName w_false :: zs) m).hd = tName w_false := rfl
    rw [e, if_pos (by decide), must_yes (i := 1) (by decide +kernel) (by decide)]
    exact Prod.ext (Vl.ext' hk.symm (by rw [hn0]; rfl) (by rw [hl]; rfl)) rfl
  · rw [show vZ v = tName w_true by unfold vZ; rw [if_pos hk, if_pos hn0]]
    unfold valueR
    have e : (St (tName w_true :: zs) m).hd = tName w_true := rfl
    rw [e, if_pos (by decide), must_yes (i := 2) (by decide +kernel) (by decide)]
    exact Prod.ext (Vl.ext' hk.symm (by rw [hn0]; rfl) (by rw [hl]; rfl)) rfl
  · rw [show vZ v = ⟨2, 0, v.n, ⟨#[]⟩⟩ by unfold vZ; rw [if_neg (by omega), if_pos hk], fin 2 _ (show kindR 2 = 2 by decide) (by decide)]
    exact Prod.ext (Vl.ext' hk.symm rfl (by rw [hl]; rfl)) rfl
  · rw [show vZ v = ⟨5, 0, 0, v.s⟩ by unfold vZ; rw [if_neg (by omega), if_neg (by omega), if_pos hk], fin 3 _ (show kindR 5 = 3 by decide) (by decide)]
    exact Prod.ext (Vl.ext' hk.symm hn0.symm rfl) rfl
  · rw [show vZ v = ⟨3, 0, v.n, ⟨#[]⟩⟩ by unfold vZ; rw [if_neg (by omega), if_neg (by omega), if_neg (by omega), if_pos hk], fin 4 _ (show kindR 3 = 4 by decide) (by decide)]
    exact Prod.ext (Vl.ext' hk.symm rfl (by rw [hl]; rfl)) rfl
  · rw [show vZ v = ⟨4, 0, 0, v.s⟩ by unfold vZ; rw [if_neg (by omega), if_neg (by omega), if_neg (by omega), if_neg (by omega)], fin 5 _ (show kindR 4 = 5 by decide) (by decide)]
    exact Prod.ext (Vl.ext' hk.symm hn0.symm rfl) rfl
theorem matE_all {x : Mat} (h : matE x = 0) : attrB x.a = true ∧ (x.op = 1 ∨ x.op = 2 ∨ x.op = 3) ∧ x.v.right := by
  unfold matE at h
  split at h
  · rename_i hh; exact ⟨hh.1, by omega, hh.2.2.2⟩
  · cases h
theorem toNat_cat {n : Int} (h : n = 1 ∨ n = 2 ∨ n = 3 ∨ n = 4) : ((n.toNat : Nat) : Int) = n := by omega
theorem match_read {x : Mat} (h : matE x = 0) (zs : List Tk) (m : Nat) : matchR (St (matZ x ++ zs) m) = (x, St zs m) := by
  obtain ⟨ha, ho, hv⟩ := matE_all h
  obtain ⟨hc, _⟩ := attrB_all ha
  have e : matZ x ++ zs = wTk (catW x.a.cat) :: (restZ x.a ++ cmpZ x.op :: vZ x.v :: zs) := by simp [matZ, attrZ]
  rw [e]
  unfold matchR
  simp only
  rw [cat_read hc]
  simp only
  rw [toNat_cat hc, attr_read (by omega) (by rcases ho with h | h | h <;> (rw [h]; exact nx_of (by decide +kernel) _))]
  simp only
  rw [must_yes (t := cmpZ x.op) (i := x.op.toNat) (by rcases ho with h | h | h <;> (rw [h]; decide +kernel)) (by omega)]
  simp only
  rw [val_read hv]
  have e2 : ((x.op.toNat : Nat) : Int) = x.op := by omega
  rw [e2]

/-- A row is read as it stands. -/
theorem tail_len {α : Type} (Z : α → List Tk) (b : Tk) : ∀ l : List α, l.length ≤ (tailZ Z b l).length
  | [] => Nat.zero_le _
  | x :: l => by
    have := tail_len Z b l
    simp only [tailZ, List.length_cons, List.length_append]
    omega
theorem most_no {n l : Int} (h : ¬ l < n) (s : Pz) : mostR n l s = s := by
  unfold mostR
  rw [if_neg h]
theorem row_read {α : Type} {one : Pz → α × Pz} {btw : ByteArray} {Z : α → List Tk} {b : Tk} (hb : seesR [btw] (St [b] 0) = 1) (Q : List Tk → Prop) (hQ : ∀ zs, Q (b :: zs)) :
    ∀ (l : List α) (x : α) (n : Nat) (acc : List α) (zs : List Tk) (m : Nat), (∀ y ∈ x :: l, ∀ zs m, Q zs → one (St (Z y ++ zs) m) = (y, St zs m)) → acc.length + (x :: l).length ≤ 8 → (x :: l).length ≤ n → Q zs → Nx [btw] zs →
      rowR one btw n acc (St (Z x ++ (tailZ Z b l ++ zs)) m) = (acc ++ x :: l, St zs m)
  | [], x, 0, _, _, _, _, _, hn, _, _ => by simp at hn
  | [], x, n + 1, acc, zs, m, h, hlen, _, hz, hx => by
    unfold rowR
    simp only
    rw [show tailZ Z b [] ++ zs = zs from rfl, h x (by simp) zs m hz]
    simp only
    rw [most_no (by simp at hlen ⊢; omega), take_no hx]
    rfl
  | y :: l, x, 0, _, _, _, _, _, hn, _, _ => by simp at hn
  | y :: l, x, n + 1, acc, zs, m, h, hlen, hn, hz, hx => by
    have e : tailZ Z b (y :: l) ++ zs = b :: (Z y ++ (tailZ Z b l ++ zs)) := by simp [tailZ]
    unfold rowR
    simp only
    rw [e, h x (by simp) _ m (hQ _)]
    simp only
    rw [most_no (by simp at hlen ⊢; omega), take_yes hb (by decide)]
    simp only
    rw [if_neg (by decide), row_read hb Q hQ l y n (acc ++ [x]) zs m (fun z hz => h z (by simp [hz])) (by simp at hlen ⊢; omega) (by simp at hn ⊢; omega) hz hx, List.append_assoc]
    rfl
theorem row_all {α : Type} {one : Pz → α × Pz} {btw : ByteArray} {Z : α → List Tk} {b : Tk} (hb : seesR [btw] (St [b] 0) = 1) (Q : List Tk → Prop) (hQ : ∀ zs, Q (b :: zs))
    {l : List α} (h1 : 1 ≤ l.length) (h8 : l.length ≤ 8) (h : ∀ y ∈ l, ∀ zs m, Q zs → one (St (Z y ++ zs) m) = (y, St zs m)) (hz1 : ∀ y ∈ l, 1 ≤ (Z y).length) {zs : List Tk} (hz : Q zs) (hx : Nx [btw] zs) (m : Nat) :
    rowR one btw (rowZ Z b l ++ zs).length [] (St (rowZ Z b l ++ zs) m) = (l, St zs m) := by
  cases l with
  | nil => simp at h1
  | cons x l =>
    have e : rowZ Z b (x :: l) ++ zs = Z x ++ (tailZ Z b l ++ zs) := by simp [rowZ]
    have hl : (x :: l).length ≤ (rowZ Z b (x :: l) ++ zs).length := by
      have := tail_len Z b l
      have := hz1 x (by simp)
      rw [e]
      simp only [List.length_append, List.length_cons]
      omega
    generalize (rowZ Z b (x :: l) ++ zs).length = n at *
    rw [e]
    exact row_read hb Q hQ l x n [] zs m h (by simpa using h8) hl hz hx
theorem matZ_len (x : Mat) : 1 ≤ (matZ x).length := by simp [matZ, attrZ]
theorem all_read {l : List Mat} (h : allE l = 0) {zs : List Tk} (hz : Nx [m_comma] zs) (m : Nat) : allOfR (St (allZ l ++ zs) m) = (l, St zs m) :=
  row_all (by decide +kernel) (fun _ => True) (fun _ => trivial) (allE_all h).1.1 (allE_all h).1.2 (fun y hy zs m _ => match_read ((allE_all h).2 y hy) zs m) (fun y _ => matZ_len y) trivial hz m
theorem allZ_len {l : List Mat} (h : 1 ≤ l.length) : 1 ≤ (allZ l).length := by
  cases l with
  | nil => simp at h
  | cons x l =>
    have := matZ_len x
    simp only [allZ, rowZ, List.length_append]
    omega
theorem any_read {l : List (List Mat)} (h : anyE l = 0) (zs : List Tk) (m : Nat) : anyOfR (St (anyZ l ++ zs) m) = (l, St zs m) := by
  obtain ⟨⟨h1, h8⟩, hl⟩ := anyE_all h
  have e : anyZ l ++ zs = tMark 40 :: (rowZ allZ (tName w_or) l ++ tMark 41 :: zs) := by simp [anyZ]
  rw [e]
  unfold anyOfR
  simp only
  rw [must_yes (i := 1) (by decide +kernel) (by decide)]
  simp only
  rw [row_all (by decide +kernel) (Nx [m_comma]) (fun zs => nx_of (by decide +kernel) zs) h1 h8 (fun y hy zs m hz => all_read (hl y hy) hz m) (fun y hy => allZ_len (allE_all (hl y hy)).1.1) (nx_of (by decide +kernel) _) (nx_of (by decide +kernel) _) m]
  simp only
  rw [must_yes (i := 1) (by decide +kernel) (by decide)]
theorem anyZ_len (l : List (List Mat)) : 1 ≤ (anyZ l).length := by simp [anyZ]
theorem target_read {t : Tgt} (h : tgE t = 0) {zs : List Tk} (h1 : Nx [w_when] zs) (h2 : Nx [w_and] zs) (m : Nat) : targetR (St (tgZ t ++ zs) m) = (t, St zs m) := by
  obtain ⟨h8, hl⟩ := tgE_all h
  unfold tgZ targetR
  split
  · rename_i h0
    rw [h0, List.nil_append, take_no h1]
    rfl
  · rename_i h0
    rw [List.cons_append, take_yes (i := 1) (by decide +kernel) (by decide)]
    simp only
    rw [if_neg (by decide)]
    exact row_all (by decide +kernel) (fun _ => True) (fun _ => trivial) (List.length_pos_iff.2 h0) h8 (fun y hy zs m _ => any_read (hl y hy) zs m) (fun y _ => anyZ_len y) trivial h2 m
theorem duts_read : ∀ (l : List Dut) (n : Nat) (acc : List Dut) (zs : List Tk) (m : Nat), (∀ o ∈ l, dutE o = 0) → acc.length + l.length ≤ 8 → l.length < n → Nx [w_on] zs → dutiesR n acc (St (l.flatMap dutZ ++ zs) m) = (acc ++ l, St zs m)
  | [], 0, _, _, _, _, _, hn, _ => by simp at hn
  | [], n + 1, acc, zs, m, _, _, _, hx => by
    unfold dutiesR
    rw [show List.flatMap dutZ [] ++ zs = zs from rfl, take_no hx]
    simp
  | o :: l, 0, _, _, _, _, _, hn, _ => by simp at hn
  | o :: l, n + 1, acc, zs, m, h, h8, hn, hx => by
    obtain ⟨h1, h2, h3⟩ := dutE_all (h o (by simp))
    have e : (o :: l).flatMap dutZ ++ zs = tName w_on :: wTk (effW (decide (o.on = 2))) :: wTk (doW o.kind) :: tName o.arg :: (l.flatMap dutZ ++ zs) := by simp [dutZ]
    unfold dutiesR
    rw [e, take_yes (i := 1) (by decide +kernel) (by decide)]
    simp only
    rw [if_neg (by decide), must_yes (t := wTk (effW (decide (o.on = 2)))) (i := o.on.toNat) (by rcases h1 with h | h <;> (rw [h]; decide +kernel)) (by omega)]
    simp only
    rw [must_yes (t := wTk (doW o.kind)) (i := o.kind.toNat) (by rcases h2 with h | h | h | h <;> (rw [h]; decide +kernel)) (by omega)]
    simp only
    rw [name_read]
    simp only
    have e1 : ((o.on.toNat : Nat) : Int) = o.on := by omega
    have e2 : ((o.kind.toNat : Nat) : Int) = o.kind := by omega
    rw [e1, e2, most_no (by simp at h8 ⊢; omega), duts_read l n (acc ++ [o]) zs m (fun x hx => h x (by simp [hx])) (by simp at h8 ⊢; omega) (by simp at hn ⊢; omega) hx, List.append_assoc]
    rfl
theorem ob_read {l : List Dut} (h : obE l = 0) {zs : List Tk} (hz : 1 ≤ zs.length) (hx : Nx [w_on] zs) (m : Nat) : dutsR (St (l.flatMap dutZ ++ zs) m) = (l, St zs m) := by
  have hl : ∀ l : List Dut, l.length ≤ (l.flatMap dutZ).length := by
    intro l
    induction l with
    | nil => simp
    | cons o l ih => simp only [List.flatMap_cons, List.length_append, List.length_cons]; have : (dutZ o).length = 4 := rfl; omega
  unfold dutsR
  exact duts_read l _ [] zs m (obE_all h).2 (by simpa using (obE_all h).1) (by have := hl l; simp only [List.length_append]; omega) hx
end Go.Proofs.YtincnopaclmppaaDoor
/- Expressions as text, plainly: as trees; their tokens; what is read of them. -/
namespace Go.Proofs.YtincnopaclmppaaDoor
set_option linter.unusedVariables false

inductive Xt where
  | leaf (n : Nod)
  | one (n : Nod) (x : Xt)
  | two (n : Nod) (x y : Xt)
def Xt.flat : Xt → List Nod
  | .leaf n => [n]
  | .one n x => x.flat ++ [n]
  | .two n x y => x.flat ++ (y.flat ++ [n])
def Xt.bag : Xt → Bool
  | .leaf n => decide (n.op = 2)
  | _ => false
def twoOp (op : Int) : Prop := op = 6 ∨ op = 7 ∨ op = 8 ∨ op = 9 ∨ op = 10 ∨ op = 12 ∨ op = 13
def Xt.fits : Xt → Prop
  | .leaf n => (n.op = 1 ∨ n.op = 2) ∧ holdsB n = true
  | .one n x => holdsB n = true ∧ ((n.op = 3 ∨ n.op = 4) ∧ x.bag = true ∨ n.op = 11 ∧ x.bag = false) ∧ x.fits
  | .two n x y => holdsB n = true ∧ (n.op = 5 ∧ x.bag = true ∨ twoOp n.op ∧ x.bag = false) ∧ y.bag = false ∧ x.fits ∧ y.fits
def Xt.txt : Xt → List UInt8
  | .leaf n => nodeT n []
  | .one n x => nodeT n [x.txt]
  | .two n x y => nodeT n [x.txt, y.txt]

theorem stepT_app (S P : List (List UInt8)) (n : Nod) (h : P.length = takesN n.op) : stepT (S ++ P) n = S ++ [nodeT n P] := by
  unfold stepT
  have e : (S ++ P).length - takesN n.op = S.length := by rw [List.length_append]; omega
  rw [e, List.take_left, List.drop_left]
/-- The stack, the last one first. -/
def flats (ts : List Xt) : List Nod := (ts.reverse.map Xt.flat).flatten
def txts (ts : List Xt) : List (List UInt8) := ts.reverse.map Xt.txt
theorem flats_cons (x : Xt) (ts : List Xt) : flats (x :: ts) = flats ts ++ x.flat := by simp [flats]
theorem txts_cons (x : Xt) (ts : List Xt) : txts (x :: ts) = txts ts ++ [x.txt] := by simp [txts]
theorem popX_cases {op : Int} {st st' : List Bool} (h : popX op st = some st') :
    (op = 1 ∨ op = 2) ∧ st' = decide (op = 2) :: st ∨ (∃ r, ((op = 3 ∨ op = 4) ∧ st = true :: r ∨ op = 11 ∧ st = false :: r) ∧ st' = false :: r) ∨ (∃ r, (op = 5 ∧ st = false :: true :: r ∨ twoOp op ∧ st = false :: false :: r) ∧ st' = false :: r) := by
  rcases ops_cases op with rfl | rfl | rfl | rfl | rfl | rfl | rfl | rfl | rfl | rfl | rfl | rfl | rfl | hh
  case inr.inr.inr.inr.inr.inr.inr.inr.inr.inr.inr.inr.inr =>
    obtain ⟨h1, h2, h3, h4, h5, h6, h7, h8, h9, h10, h11, h12, h13⟩ := hh
    simp [popX, h1, h2, h3, h4, h5, h6, h7, h8, h9, h10, h11, h12, h13] at h
  all_goals
    rcases st with _ | ⟨_ | _, _ | ⟨_ | _, st⟩⟩ <;> simp [popX] at h <;> subst h <;> simp [twoOp]
theorem run_trees : ∀ (l : List Nod) (st : List Xt) (st' : List Bool), (∀ x ∈ st, x.fits) → runX l (st.map Xt.bag) = some st' →
    ∃ ts : List Xt, (∀ x ∈ ts, x.fits) ∧ ts.map Xt.bag = st' ∧ flats st ++ l = flats ts ∧ l.foldl stepT (txts st) = txts ts
  | [], st, st', hf, h => by
    simp only [runX, Option.some.injEq] at h
    exact ⟨st, hf, h, by simp, rfl⟩
  | n :: l, st, st', hf, h => by
    have key : ∃ st1 : List Xt, (∀ x ∈ st1, x.fits) ∧ stepX n (st.map Xt.bag) = some (st1.map Xt.bag) ∧ flats st ++ [n] = flats st1 ∧ stepT (txts st) n = txts st1 := by
      simp only [runX] at h
      cases hs : stepX n (st.map Xt.bag) with
      | none => rw [hs] at h; cases h
      | some s1 =>
        have hs' := hs
        unfold stepX at hs'
        split at hs'
        · rename_i hh
          rcases popX_cases hs' with ⟨ho, he⟩ | ⟨r, ho, he⟩ | ⟨r, ho, he⟩
          · refine ⟨.leaf n :: st, ?_, ?_, ?_, ?_⟩
            · intro x hx
              rcases List.mem_cons.1 hx with rfl | hx
              · exact ⟨ho, hh⟩
              · exact hf x hx
            · rw [he]; rfl
            · rw [flats_cons]; rfl
            · have := stepT_app (txts st) [] n (by unfold takesN; rw [if_pos ho]; rfl)
              rw [List.append_nil] at this
              rw [txts_cons]
              exact this
          · obtain ⟨x, xs, rfl, hb, hr⟩ : ∃ x xs, st = x :: xs ∧ ((n.op = 3 ∨ n.op = 4) ∧ x.bag = true ∨ n.op = 11 ∧ x.bag = false) ∧ xs.map Xt.bag = r := by
              cases st with
              | nil => rcases ho with ⟨_, ho⟩ | ⟨_, ho⟩ <;> cases ho
              | cons x xs =>
                simp only [List.map_cons, List.cons.injEq] at ho
                rcases ho with ⟨a, b, c⟩ | ⟨a, b, c⟩
                · exact ⟨x, xs, rfl, .inl ⟨a, b⟩, c⟩
                · exact ⟨x, xs, rfl, .inr ⟨a, b⟩, c⟩
            refine ⟨.one n x :: xs, ?_, ?_, ?_, ?_⟩
            · intro y hy
              rcases List.mem_cons.1 hy with rfl | hy
              · exact ⟨hh, hb, hf x (by simp)⟩
              · exact hf y (by simp [hy])
            · rw [he, ← hr]; rfl
            · rw [flats_cons, flats_cons, List.append_assoc]; rfl
            · rw [txts_cons, txts_cons, stepT_app _ [x.txt] n (by unfold takesN; rw [if_neg (by rcases hb with ⟨h, _⟩ | ⟨h, _⟩ <;> omega), if_pos (by rcases hb with ⟨h, _⟩ | ⟨h, _⟩ <;> omega)]; rfl)]
              rfl
          · obtain ⟨x, y, xs, rfl, hb, hy, hr⟩ : ∃ x y xs, st = y :: x :: xs ∧ (n.op = 5 ∧ x.bag = true ∨ twoOp n.op ∧ x.bag = false) ∧ y.bag = false ∧ xs.map Xt.bag = r := by
              rcases st with _ | ⟨y, _ | ⟨x, xs⟩⟩
              · rcases ho with ⟨_, ho⟩ | ⟨_, ho⟩ <;> cases ho
              · rcases ho with ⟨_, ho⟩ | ⟨_, ho⟩ <;> simp at ho
              · simp only [List.map_cons, List.cons.injEq] at ho
                rcases ho with ⟨a, b, c, d⟩ | ⟨a, b, c, d⟩
                · exact ⟨x, y, xs, rfl, .inl ⟨a, c⟩, b, d⟩
                · exact ⟨x, y, xs, rfl, .inr ⟨a, c⟩, b, d⟩
            refine ⟨.two n x y :: xs, ?_, ?_, ?_, ?_⟩
            · intro z hz
              rcases List.mem_cons.1 hz with rfl | hz
              · exact ⟨hh, hb, hy, hf x (by simp), hf y (by simp)⟩
              · exact hf z (by simp [hz])
            · rw [he, ← hr]; rfl
            · rw [flats_cons, flats_cons, flats_cons]
              simp only [List.append_assoc]
              rfl
            · rw [txts_cons, txts_cons, txts_cons, List.append_assoc, stepT_app _ ([x.txt] ++ [y.txt]) n (by unfold takesN; unfold twoOp at hb; rw [if_neg (by rcases hb with ⟨h, _⟩ | ⟨h, _⟩ <;> omega), if_neg (by rcases hb with ⟨h, _⟩ | ⟨h, _⟩ <;> omega)]; rfl)]
              rfl
        · cases hs'
    obtain ⟨st1, f1, b1, l1, t1⟩ := key
    have h2 : runX l (st1.map Xt.bag) = some st' := by
      simp only [runX, b1] at h
      exact h
    obtain ⟨ts, f2, b2, l2, t2⟩ := run_trees l st1 st' f1 h2
    refine ⟨ts, f2, b2, ?_, ?_⟩
    · rw [← l2, ← l1, List.append_assoc]; rfl
    · rw [List.foldl_cons, t1, t2]
/-- A right expression is a tree. -/
theorem expr_tree {l : List Nod} (h : exprE l = 0) (hn : l ≠ []) : ∃ t : Xt, t.fits ∧ t.bag = false ∧ l = t.flat ∧ exprT l = t.txt ∧ l.length ≤ 32 := by
  have h32 : l.length ≤ 32 ∧ runX l [] = some [false] := by
    unfold exprE at h
    split at h
    · cases h
    · rename_i h32
      refine ⟨by omega, ?_⟩
      cases hr : runX l [] with
      | none => rw [hr] at h; cases h
      | some st =>
        rw [hr] at h
        simp only at h
        split at h
        · rename_i hh
          rcases hh with hh | hh
          · exact absurd hh hn
          · rw [hh]
        · cases h
  obtain ⟨ts, hf, hb, hl, ht⟩ := run_trees l [] [false] (fun x hx => by cases hx) h32.2
  rcases ts with _ | ⟨t, _ | ⟨u, ts⟩⟩
  · cases hb
  · simp only [List.map_cons, List.map_nil, List.cons.injEq, and_true] at hb
    refine ⟨t, hf t (by simp), hb, ?_, ?_, h32.1⟩
    · have : l = flats [t] := hl
      rw [this]
      simp [flats]
    · unfold exprT stackT
      have : l.foldl stepT [] = txts [t] := ht
      rw [this]
      rfl
  · simp at hb

def Xt.toks : Xt → List Tk
  | .leaf n => if n.op = 1 then [vZ n.v] else attrZ n.a
  | .one n x => tMark 40 :: wTk (fnW n.op) :: (x.toks ++ [tMark 41])
  | .two n x y => tMark 40 :: wTk (fnW n.op) :: ((x.toks ++ y.toks) ++ [tMark 41])
theorem holds_lit {n : Nod} (h : holdsB n = true) (h1 : n.op = 1) : n.v.right ∧ n = ⟨1, n.v, zeroA⟩ := by
  unfold holdsB at h
  rw [if_pos h1, Bool.and_eq_true, decide_eq_true_eq, decide_eq_true_eq] at h
  exact ⟨h.1, Nod.ext' h1 rfl h.2⟩
theorem holds_att {n : Nod} (h : holdsB n = true) (h2 : n.op = 2) : attrB n.a = true ∧ n = ⟨2, zeroV, n.a⟩ := by
  unfold holdsB at h
  rw [if_neg (by omega), if_pos h2, Bool.and_eq_true, decide_eq_true_eq] at h
  exact ⟨h.2, Nod.ext' h2 h.1 rfl⟩
theorem holds_fun {n : Nod} (h : holdsB n = true) (h1 : n.op ≠ 1) (h2 : n.op ≠ 2) : n = ⟨n.op, zeroV, zeroA⟩ := by
  unfold holdsB at h
  rw [if_neg h1, if_neg h2, Bool.and_eq_true, decide_eq_true_eq, decide_eq_true_eq] at h
  exact Nod.ext' rfl h.1 h.2
theorem join_two (a b : List UInt8) : Lib.join [a, b] [32] = a ++ 32 :: b := by
  rw [Lib.join_cons]; simp [Lib.joinTail]
theorem nodeT_fun {n : Nod} (h1 : n.op ≠ 1) (h2 : n.op ≠ 2) (ps : List (List UInt8)) : nodeT n ps = 40 :: (fnW n.op ++ 32 :: (Lib.join ps [32] ++ [41])) := by
  unfold nodeT
  rw [if_neg h1, if_neg h2]
theorem one_op {n : Nod} {b : Bool} (h : (n.op = 3 ∨ n.op = 4) ∧ b = true ∨ n.op = 11 ∧ b = false) : n.op ≠ 1 ∧ n.op ≠ 2 := by omega
theorem two_op {n : Nod} {b : Bool} (h : n.op = 5 ∧ b = true ∨ twoOp n.op ∧ b = false) : n.op ≠ 1 ∧ n.op ≠ 2 := by unfold twoOp at h; omega
theorem one_tree : ∀ {t : Xt}, t.fits → (∀ n ∈ t.flat, n.ok) → One t.txt t.toks
  | .leaf n, hf, hok => by
    obtain ⟨ho, hh⟩ := hf
    simp only [Xt.txt, Xt.toks, nodeT]
    rcases ho with ho | ho
    · rw [if_pos ho, if_pos ho]
      exact one_val (holds_lit hh ho).1 (hok n (by simp [Xt.flat])).2.1.2.1
    · rw [if_neg (by omega), if_pos ho, if_neg (by omega)]
      exact one_attrS (holds_att hh ho).1
  | .one n x, hf, hok => by
    obtain ⟨hh, ho, hx⟩ := hf
    have hn := one_op ho
    have i := one_tree hx (fun k hk => hok k (by simp [Xt.flat, hk]))
    simp only [Xt.txt, Xt.toks]
    rw [nodeT_fun hn.1 hn.2, Lib.join_one]
    exact ((one_name (fnW_named n.op)).sp (i.behind (by decide) Zx.m41)).ahead Zx.m40
  | .two n x y, hf, hok => by
    obtain ⟨hh, ho, hy, fx, fy⟩ := hf
    have hn := two_op ho
    have i := one_tree fx (fun k hk => hok k (by simp [Xt.flat, hk]))
    have j := one_tree fy (fun k hk => hok k (by simp [Xt.flat, hk]))
    simp only [Xt.txt, Xt.toks]
    rw [nodeT_fun hn.1 hn.2, join_two]
    exact ((one_name (fnW_named n.op)).sp ((i.sp j).behind (by decide) Zx.m41)).ahead Zx.m40

/-- No value's token is one of these words. -/
theorem val_no {v : Vl} (h : v.right) {ws : List ByteArray} (hw : seesR ws (St [tName w_true] 0) = 0 ∧ seesR ws (St [tName w_false] 0) = 0) (zs : List Tk) : Nx ws (vZ v :: zs) := by
  have hk := show_cases h
  have other : ∀ (k n : Int) (s : ByteArray), k ≠ 1 → k ≠ 6 → Nx ws (⟨k, 0, n, s⟩ :: zs) := by
    intro k n s h1 h6
    unfold Nx seesR
    have e : (St (⟨k, 0, n, s⟩ :: zs) 0).hd.k = k := rfl
    rw [e, if_neg (by omega)]
  unfold vZ
  split
  · split
    · exact hw.1
    · exact hw.2
  · split
    · exact other 2 _ _ (by decide) (by decide)
    · split
      · exact other 5 _ _ (by decide) (by decide)
      · split
        · exact other 3 _ _ (by decide) (by decide)
        · exact other 4 _ _ (by decide) (by decide)
theorem cat_no {n : Int} (h : n = 1 ∨ n = 2 ∨ n = 3 ∨ n = 4) {ws : List ByteArray} (hw : ∀ c ∈ [w_subject, w_action, w_case, w_env], seesR ws (St [tName c] 0) = 0) (zs : List Tk) : Nx ws (wTk (catW n) :: zs) := by
  rcases h with rfl | rfl | rfl | rfl
  · exact hw w_subject (by simp)
  · exact hw w_action (by simp)
  · exact hw w_case (by simp)
  · exact hw w_env (by simp)
/-- What an expression begins with is none of these words. -/
theorem tree_no {t : Xt} (hf : t.fits) {ws : List ByteArray} (h1 : seesR ws (St [tName w_true] 0) = 0 ∧ seesR ws (St [tName w_false] 0) = 0) (h2 : ∀ c ∈ [w_subject, w_action, w_case, w_env], seesR ws (St [tName c] 0) = 0) (h3 : seesR ws (St [tMark 40] 0) = 0) (zs : List Tk) : Nx ws (t.toks ++ zs) := by
  cases t with
  | leaf n =>
    obtain ⟨ho, hh⟩ := hf
    simp only [Xt.toks]
    rcases ho with ho | ho
    · rw [if_pos ho]; exact val_no (holds_lit hh ho).1 h1 zs
    · rw [if_neg (by omega)]; exact cat_no (attrB_all (holds_att hh ho).1).1 h2 _
  | one n x => exact h3
  | two n x y => exact h3
theorem fn_read {op : Int} (h : 3 ≤ op ∧ op ≤ 13) (zs : List Tk) (m : Nat) : mustR [w_one, w_size, w_has, w_eq, w_less, w_add, w_sub, w_mul, w_not, w_and, w_or] (St (wTk (fnW op) :: zs) m) = ((op - 2).toNat, St zs m) := by
  have : op = 3 ∨ op = 4 ∨ op = 5 ∨ op = 6 ∨ op = 7 ∨ op = 8 ∨ op = 9 ∨ op = 10 ∨ op = 11 ∨ op = 12 ∨ op = 13 := by omega
  rcases this with rfl | rfl | rfl | rfl | rfl | rfl | rfl | rfl | rfl | rfl | rfl <;> exact must_yes (by decide +kernel) (by decide) zs m
theorem nod_read {bag : Bool} {n : Nod} {acc : List Nod} (hb : bag = decide (n.op = 2)) (hl : acc.length < 32) (p : Int) (s : Pz) : nodR bag p acc n s = (acc ++ [n], s) := by
  unfold nodR
  rw [most_no (by simp only [List.length_append, List.length_cons, List.length_nil]; omega)]
  rw [hb]
  simp
theorem expr_read : ∀ {t : Xt}, t.fits → ∀ (n : Nat) (acc : List Nod) (zs : List Tk) (m : Nat), acc.length + t.flat.length ≤ 32 → t.flat.length ≤ n → Nx [m_bang] zs → exprR n acc t.bag (St (t.toks ++ zs) m) = (acc ++ t.flat, St zs m)
  | .leaf k, hf, 0, _, _, _, _, hn, _ => by simp [Xt.flat] at hn
  | .leaf k, hf, n + 1, acc, zs, m, hl, hn, hb => by
    obtain ⟨ho, hh⟩ := hf
    simp only [Xt.flat, List.length_cons, List.length_nil] at hl
    simp only [Xt.toks, Xt.flat, Xt.bag]
    unfold exprR
    rcases ho with ho | ho
    · obtain ⟨hr, he⟩ := holds_lit hh ho
      rw [if_pos ho, List.singleton_append, take_no (val_no hr (by decide +kernel) zs)]
      simp only
      rw [if_neg (by omega)]
      unfold leafR
      have hc : catR (St (vZ k.v :: zs) m) = (0, St (vZ k.v :: zs) m) := take_no (val_no hr (by decide +kernel) zs) m
      rw [hc]
      simp only
      rw [if_neg (by omega), val_read hr, ← he]
      exact nod_read rfl (by omega) _ _
    · obtain ⟨ha, he⟩ := holds_att hh ho
      obtain ⟨hc, _⟩ := attrB_all ha
      rw [if_neg (show ¬ k.op = 1 by omega)]
      have e : attrZ k.a ++ zs = wTk (catW k.a.cat) :: (restZ k.a ++ zs) := rfl
      rw [e, take_no (cat_no hc (by decide +kernel) _)]
      simp only
      rw [if_neg (by omega)]
      unfold leafR
      rw [cat_read hc]
      simp only
      rw [if_pos (by omega), toNat_cat hc, attr_read (by omega) hb, ← he]
      exact nod_read rfl (by omega) _ _
  | .one k x, hf, 0, _, _, _, _, hn, _ => by simp [Xt.flat] at hn
  | .one k x, hf, n + 1, acc, zs, m, hl, hn, hb => by
    obtain ⟨hh, ho, hx⟩ := hf
    have hne := one_op ho
    have he := holds_fun hh hne.1 hne.2
    simp only [Xt.flat, List.length_append, List.length_cons, List.length_nil] at hl hn
    have e : (Xt.one k x).toks ++ zs = tMark 40 :: wTk (fnW k.op) :: (x.toks ++ tMark 41 :: zs) := by simp [Xt.toks]
    have hop : 2 + (((k.op - 2).toNat : Nat) : Int) = k.op := by omega
    have hib : isBag k.op = x.bag := by
      unfold isBag
      rcases ho with ⟨a, b⟩ | ⟨a, b⟩
      · rw [b]; rcases a with a | a <;> rw [a] <;> decide
      · rw [b, a]; decide
    have hit : isTwo k.op = false := by
      unfold isTwo
      rcases ho with ⟨a | a, b⟩ | ⟨a, b⟩ <;> rw [a] <;> decide
    have ih := expr_read hx n acc (tMark 41 :: zs) m (by omega) (by omega) (nx_of (by decide +kernel) _)
    unfold exprR
    rw [e, take_yes (i := 1) (by decide +kernel) (by decide)]
    simp only
    rw [if_pos (by omega)]
    unfold callR
    simp only
    rw [fn_read (by omega)]
    simp only
    rw [hop, hib, hit, ih]
    simp only [Bool.false_eq_true, if_false]
    rw [must_yes (i := 1) (by decide +kernel) (by decide)]
    simp only
    rw [← he, show (Xt.one k x).bag = false from rfl, nod_read (show false = decide (k.op = 2) by rw [decide_eq_false hne.2]) (by simp only [List.length_append]; omega)]
    simp [Xt.flat]
  | .two k x y, hf, 0, _, _, _, _, hn, _ => by simp [Xt.flat] at hn
  | .two k x y, hf, n + 1, acc, zs, m, hl, hn, hb => by
    obtain ⟨hh, ho, hy, fx, fy⟩ := hf
    have hne := two_op ho
    have he := holds_fun hh hne.1 hne.2
    simp only [Xt.flat, List.length_append, List.length_cons, List.length_nil] at hl hn
    have e : (Xt.two k x y).toks ++ zs = tMark 40 :: wTk (fnW k.op) :: (x.toks ++ (y.toks ++ tMark 41 :: zs)) := by simp [Xt.toks]
    have hop : 2 + (((k.op - 2).toNat : Nat) : Int) = k.op := by unfold twoOp at ho; omega
    have hib : isBag k.op = x.bag := by
      unfold isBag
      unfold twoOp at ho
      rcases ho with ⟨a, b⟩ | ⟨a, b⟩
      · rw [b, a]; decide
      · rw [b]; rcases a with a | a | a | a | a | a | a <;> rw [a] <;> decide
    have hit : isTwo k.op = true := by
      unfold isTwo
      unfold twoOp at ho
      rcases ho with ⟨a, b⟩ | ⟨a | a | a | a | a | a | a, b⟩ <;> rw [a] <;> decide
    have ih := expr_read fx n acc (y.toks ++ tMark 41 :: zs) m (by omega) (by omega) (tree_no fy (by decide +kernel) (by decide +kernel) (by decide +kernel) _)
    have jh := expr_read fy n (acc ++ x.flat) (tMark 41 :: zs) m (by simp only [List.length_append]; omega) (by omega) (nx_of (by decide +kernel) _)
    rw [hy] at jh
    unfold exprR
    rw [e, take_yes (i := 1) (by decide +kernel) (by decide)]
    simp only
    rw [if_pos (by omega)]
    unfold callR
    simp only
    rw [fn_read (by unfold twoOp at ho; omega)]
    simp only
    rw [hop, hib, hit, ih]
    simp only [if_true]
    rw [jh]
    simp only
    rw [must_yes (i := 1) (by decide +kernel) (by decide)]
    simp only
    rw [← he, show (Xt.two k x y).bag = false from rfl, nod_read (show false = decide (k.op = 2) by rw [decide_eq_false hne.2]) (by simp only [List.length_append]; omega)]
    simp [Xt.flat]
end Go.Proofs.YtincnopaclmppaaDoor
/- What a right policy's run leaves; a kid of it by itself (plain). -/
namespace Go.Proofs.YtincnopaclmppaaDoor
set_option linter.unusedVariables false

/-- Fewer names met, fewer rules. -/
def Sub (t s : Seen) : Prop := (∀ x, metB x t.ids = true → metB x s.ids = true) ∧ t.n ≤ s.n
theorem metB_app (x : ByteArray) (l m : List ByteArray) : metB x (l ++ m) = (metB x l || metB x m) := by simp [metB, List.any_append]
theorem Sub.app {t s : Seen} (h : Sub t s) (add : List ByteArray) (m : Nat) : Sub ⟨t.ids ++ add, t.n + m⟩ ⟨s.ids ++ add, s.n + m⟩ := by
  refine ⟨fun x hx => ?_, by have := h.2; show t.n + m ≤ s.n + m; omega⟩
  rw [metB_app, Bool.or_eq_true] at hx ⊢
  exact hx.imp (h.1 x) id
/-- A run without an error adds the same names, as many rules, wherever fewer were met. -/
def Fine {α : Type} (f f' : α → Seen → Int × Seen) (x : α) : Prop := ∀ s s', f x s = (0, s') → ∃ add m, s' = ⟨s.ids ++ add, s.n + m⟩ ∧ ∀ t, Sub t s → f' x t = (0, ⟨t.ids ++ add, t.n + m⟩)
theorem fine_first {α : Type} {f f' : α → Seen → Int × Seen} (h : ∀ x, Fine f f' x) : ∀ (l : List α) s s', firstS f l s = (0, s') → ∃ add m, s' = ⟨s.ids ++ add, s.n + m⟩ ∧ ∀ t, Sub t s → firstS f' l t = (0, ⟨t.ids ++ add, t.n + m⟩)
  | [], s, s', e => by
    simp [firstS] at e
    subst e
    exact ⟨[], 0, by simp, fun t _ => by simp [firstS]⟩
  | x :: l, s, s', e => by
    simp only [firstS] at e
    split at e
    · rename_i h0
      rw [e] at h0
      exact absurd rfl h0
    · rename_i h0
      have h0 : (f x s).1 = 0 := by simpa using h0
      have e1 : f x s = (0, (f x s).2) := by rw [← h0]
      obtain ⟨a1, m1, r1, q1⟩ := h x s _ e1
      obtain ⟨a2, m2, r2, q2⟩ := fine_first h l _ _ e
      refine ⟨a1 ++ a2, m1 + m2, ?_, fun t ht => ?_⟩
      · rw [r2, r1]; simp [Nat.add_assoc]
      · simp only [firstS, q1 t ht, ne_eq, not_true, if_false]
        have hs := ht.app a1 m1
        rw [← r1] at hs
        rw [q2 _ hs]
        simp [Nat.add_assoc]
theorem idS_sub {x : ByteArray} {s t s1 : Seen} (h : idS x s = some s1) (hs : Sub t s) : idS x t = some ⟨t.ids ++ [x], t.n⟩ ∧ s1 = ⟨s.ids ++ [x], s.n⟩ := by
  unfold idS at h ⊢
  split at h
  · rename_i hc
    refine ⟨?_, (Option.some.inj h).symm⟩
    rw [if_pos]
    refine ⟨hc.1, ?_⟩
    cases hm : metB x t.ids with
    | false => rfl
    | true =>
      have := hs.1 x hm
      rw [hc.2] at this
      cases this
  · cases h
theorem fine_rule (r : Rul) : Fine ruleS ruleS r := by
  intro s s' h
  unfold ruleS at h
  cases hi : idS r.id s with
  | none => rw [hi] at h; simp at h
  | some s1 =>
    rw [hi] at h
    simp only at h
    split at h
    · simp at h
    · rename_i hn
      simp only [Prod.mk.injEq] at h
      have h1 := (idS_sub hi (t := s) ⟨fun _ h => h, Nat.le_refl _⟩).2
      subst h1
      refine ⟨[r.id], 1, h.2.symm, fun t ht => ?_⟩
      obtain ⟨e1, _⟩ := idS_sub hi ht
      unfold ruleS
      rw [e1]
      have hn' : ¬ 64 < t.n + 1 := by have := ht.2; simp only at hn; omega
      simp only [hn', if_false, h.1]
theorem fine_pol : ∀ (d d' : Nat), d ≤ d' → ∀ p, Fine (polS d) (polS d') p
  | 0, d', _, p => by intro s s' h; simp [polS] at h
  | d + 1, 0, hd, p => by omega
  | d + 1, d' + 1, hd, p => by
    intro s s' h
    simp only [polS] at h
    cases hi : idS p.id s with
    | none => rw [hi] at h; simp at h
    | some s1 =>
      rw [hi] at h
      simp only at h
      have h1 := (idS_sub hi (t := s) ⟨fun _ h => h, Nat.le_refl _⟩).2
      subst h1
      split at h
      · simp at h
      rename_i c1
      split at h
      · rename_i c2; simp only [Prod.mk.injEq] at h; exact absurd h.1 c2
      rename_i c2
      split at h
      · simp at h
      rename_i c3
      split at h
      · rename_i c4; rw [h] at c4; exact absurd rfl c4
      rename_i c4
      have c4' : (firstS ruleS p.rules ⟨s.ids ++ [p.id], s.n⟩).1 = 0 := by simpa using c4
      have e1 : firstS ruleS p.rules ⟨s.ids ++ [p.id], s.n⟩ = (0, (firstS ruleS p.rules ⟨s.ids ++ [p.id], s.n⟩).2) := by rw [← c4']
      obtain ⟨a1, m1, r1, q1⟩ := fine_first fine_rule _ _ _ e1
      obtain ⟨a2, m2, r2, q2⟩ := fine_first (fine_pol d d' (by omega)) _ _ _ h
      rw [r1] at r2 q2
      refine ⟨[p.id] ++ a1 ++ a2, m1 + m2, by rw [r2]; simp [Nat.add_assoc], fun t ht => ?_⟩
      obtain ⟨e2, _⟩ := idS_sub hi ht
      have ht1 : Sub ⟨t.ids ++ [p.id], t.n⟩ ⟨s.ids ++ [p.id], s.n⟩ := ht.app [p.id] 0
      have g1 := q1 _ ht1
      have g2 := q2 _ (ht1.app a1 m1)
      simp only [polS, e2, c1, if_false, c2, c3, g1, ne_eq, not_true, g2]
      simp [Nat.add_assoc]
theorem rule_n {r : Rul} {s s' : Seen} (h : ruleS r s = (0, s')) : s'.n = s.n + 1 ∧ s'.n ≤ 64 := by
  unfold ruleS at h
  cases hi : idS r.id s with
  | none => rw [hi] at h; simp at h
  | some s1 =>
    rw [hi] at h
    simp only at h
    have h1 := (idS_sub hi (t := s) ⟨fun _ h => h, Nat.le_refl _⟩).2
    split at h
    · simp at h
    · rename_i hn
      simp only [Prod.mk.injEq] at h
      rw [← h.2]
      subst h1
      exact ⟨rfl, Nat.le_of_not_lt hn⟩
theorem rules_n : ∀ {l : List Rul} {s s' : Seen}, firstS ruleS l s = (0, s') → s.n ≤ 64 → s'.n = s.n + l.length ∧ s'.n ≤ 64
  | [], s, s', h, hs => by simp [firstS] at h; subst h; simp; exact hs
  | r :: l, s, s', h, hs => by
    simp only [firstS] at h
    split at h
    · rename_i h0; rw [h] at h0; exact absurd rfl h0
    · rename_i h0
      have h0 : (ruleS r s).1 = 0 := by simpa using h0
      have e1 : ruleS r s = (0, (ruleS r s).2) := by rw [← h0]
      obtain ⟨a, b⟩ := rule_n e1
      obtain ⟨c, d⟩ := rules_n h b
      simp only [List.length_cons]
      omega
theorem pol_n : ∀ {d : Nat} {p : Pol} {s s' : Seen}, polS d p s = (0, s') → s.n ≤ 64 → s'.n ≤ 64
  | 0, p, s, s', h, _ => by simp [polS] at h
  | d + 1, p, s, s', h, hs => by
    simp only [polS] at h
    cases hi : idS p.id s with
    | none => rw [hi] at h; simp at h
    | some s1 =>
      rw [hi] at h
      simp only at h
      have h1 := (idS_sub hi (t := s) ⟨fun _ h => h, Nat.le_refl _⟩).2
      subst h1
      split at h
      · simp at h
      split at h
      · rename_i c2; simp only [Prod.mk.injEq] at h; exact absurd h.1 c2
      split at h
      · simp at h
      split at h
      · rename_i c4; rw [h] at c4; exact absurd rfl c4
      rename_i c4
      have c4' : (firstS ruleS p.rules ⟨s.ids ++ [p.id], s.n⟩).1 = 0 := by simpa using c4
      have e1 : firstS ruleS p.rules ⟨s.ids ++ [p.id], s.n⟩ = (0, (firstS ruleS p.rules ⟨s.ids ++ [p.id], s.n⟩).2) := by rw [← c4']
      have hr := (rules_n e1 hs).2
      have kids : ∀ (l : List Pol) (a b : Seen), firstS (polS d) l a = (0, b) → a.n ≤ 64 → b.n ≤ 64 := by
        intro l
        induction l with
        | nil => intro a b h ha; simp [firstS] at h; subst h; exact ha
        | cons x l ih =>
          intro a b h ha
          simp only [firstS] at h
          split at h
          · rename_i h0; rw [h] at h0; exact absurd rfl h0
          · rename_i h0
            have h0 : (polS d x a).1 = 0 := by simpa using h0
            have e1 : polS d x a = (0, (polS d x a).2) := by rw [← h0]
            exact ih _ _ h (pol_n e1 ha)
      exact kids _ _ _ h hr
/-- A policy that is right anywhere is right by itself, with as many rules. -/
theorem kid_alone {p : Pol} {s s' : Seen} (h : polS 3 p s = (0, s')) : rightE p = 0 ∧ s'.n = s.n + rulesN p := by
  obtain ⟨add, m, e, q⟩ := fine_pol 3 4 (by omega) p s s' h
  have := q ⟨[], 0⟩ ⟨fun x hx => by simp [metB] at hx, Nat.zero_le _⟩
  unfold rightE rulesN
  rw [this, e]
  simp
theorem kids_alone : ∀ {l : List Pol} {s s' : Seen}, firstS (polS 3) l s = (0, s') → (∀ k ∈ l, rightE k = 0) ∧ s'.n = s.n + sumC rulesN l
  | [], s, s', h => by simp [firstS] at h; subst h; simp [sumC]
  | x :: l, s, s', h => by
    simp only [firstS] at h
    split at h
    · rename_i h0; rw [h] at h0; exact absurd rfl h0
    · rename_i h0
      have h0 : (polS 3 x s).1 = 0 := by simpa using h0
      have e1 : polS 3 x s = (0, (polS 3 x s).2) := by rw [← h0]
      obtain ⟨a, b⟩ := kid_alone e1
      obtain ⟨c, d⟩ := kids_alone h
      refine ⟨fun k hk => ?_, by rw [d, b]; simp only [sumC]; omega⟩
      rcases List.mem_cons.1 hk with rfl | hk
      · exact a
      · exact c k hk
/-- What is known of a right policy. -/
theorem right_all {p : Pol} (h : rightE p = 0) : (∀ k ∈ p.kids, rightE k = 0) ∧ rulesN p = p.rules.length + sumC rulesN p.kids ∧ rulesN p ≤ 64 ∧ p.rules.length ≤ 16 ∧ p.kids.length ≤ 16 := by
  have e0 : polS (3 + 1) p ⟨[], 0⟩ = (0, (polS 4 p ⟨[], 0⟩).2) := by unfold rightE at h; rw [← h]
  have hn := pol_n e0 (Nat.zero_le _)
  unfold rulesN
  generalize (polS 4 p ⟨[], 0⟩).2 = s' at *
  rw [polS] at e0
  cases hi : idS p.id ⟨[], 0⟩ with
  | none => rw [hi] at e0; simp at e0
  | some s1 =>
    rw [hi] at e0
    simp only at e0
    have h1 := (idS_sub hi (t := ⟨[], 0⟩) ⟨fun _ h => h, Nat.le_refl _⟩).2
    subst h1
    split at e0
    · simp at e0
    split at e0
    · rename_i c2; simp only [Prod.mk.injEq] at e0; exact absurd e0.1 c2
    split at e0
    · simp at e0
    rename_i c3
    split at e0
    · rename_i c4; rw [e0] at c4; exact absurd rfl c4
    rename_i c4
    have c4' : (firstS ruleS p.rules ⟨[] ++ [p.id], 0⟩).1 = 0 := by simpa using c4
    have e1 : firstS ruleS p.rules ⟨[] ++ [p.id], 0⟩ = (0, (firstS ruleS p.rules ⟨[] ++ [p.id], 0⟩).2) := by rw [← c4']
    obtain ⟨r1, _⟩ := rules_n e1 (Nat.zero_le _)
    obtain ⟨k1, k2⟩ := kids_alone e0
    refine ⟨k1, ?_, hn, by omega, by omega⟩
    rw [k2, r1]
    simp
    rfl
end Go.Proofs.YtincnopaclmppaaDoor
/- Rules and policies as text, plainly: their tokens; what is read of them; a text says which policy it is of. -/
namespace Go.Proofs.YtincnopaclmppaaDoor
set_option linter.unusedVariables false

theorem cond_both {l : List Nod} (h : exprE l = 0) (hok : ∀ n ∈ l, n.ok) : ∃ z : List Tk, Wz (condW l) z ∧ (z = [] ∨ ∃ y, z = tName w_if :: y) ∧ ∀ zs m, Nx [w_if] zs → Nx [m_bang] zs → condR (St (z ++ zs) m) = (l, St zs m) := by
  by_cases hn : l = []
  · subst hn
    refine ⟨[], .nil, .inl rfl, fun zs m hi _ => ?_⟩
    unfold condR
    rw [List.nil_append, take_no hi]
    rfl
  · obtain ⟨t, hf, hb, hl, ht, h32⟩ := expr_tree h hn
    have hok' : ∀ n ∈ t.flat, n.ok := by rw [← hl]; exact hok
    have hw : condW l = [[105, 102], t.txt] := by
      unfold condW exprS
      rw [if_neg hn, if_pos ⟨hn, h⟩, ht]
    refine ⟨[tName w_if] ++ t.toks, ?_, .inr ⟨_, rfl⟩, fun zs m hi hb' => ?_⟩
    · rw [hw]
      exact .cons (one_name (nm := [105, 102]) (by decide)) (.one (one_tree hf hok'))
    · unfold condR
      rw [List.append_assoc, List.singleton_append, take_yes (i := 1) (by decide +kernel) (by decide)]
      simp only
      rw [if_neg (by decide)]
      have fl : ∀ t : Xt, t.flat.length ≤ t.toks.length := by
        intro t
        induction t with
        | leaf n => simp only [Xt.flat, Xt.toks]; split <;> simp [attrZ]
        | one n x ih => simp only [Xt.flat, Xt.toks, List.length_append, List.length_cons, List.length_nil]; omega
        | two n x y ih jh => simp only [Xt.flat, Xt.toks, List.length_append, List.length_cons, List.length_nil]; omega
      have := expr_read hf (t.toks ++ zs).length [] zs m (by rw [← hl]; simpa using h32) (by have := fl t; simp only [List.length_append]; omega) hb'
      rw [hb] at this
      have e : (St (t.toks ++ zs) m).rest.length = (t.toks ++ zs).length := rfl
      rw [e, this, ← hl]
      rfl

def Rul.oks (r : Rul) : Prop := Tgt.oks r.tg ∧ ∀ n ∈ r.cond, n.ok
def polOks : Nat → Pol → Prop
  | 0, _ => True
  | d + 1, p => Tgt.oks p.tg ∧ (∀ r ∈ p.rules, r.oks) ∧ ∀ k ∈ p.kids, polOks d k
/-- What is right of a rule by itself. -/
def Rul.fine (r : Rul) : Prop := Named (bl r.id) ∧ tgE r.tg = 0 ∧ exprE r.cond = 0 ∧ obE r.ob = 0
theorem Nx.word {ws : List ByteArray} {t : Tk} (h : seesR ws (St [t] 0) = 0) (zs : List Tk) : Nx ws (t :: zs) := h
theorem ob_no {l : List Dut} {zs : List Tk} {ws : List ByteArray} (h : seesR ws (St [tName w_on] 0) = 0) (hz : Nx ws zs) : Nx ws (l.flatMap dutZ ++ zs) := by
  cases l with
  | nil => exact hz
  | cons o l => exact h
theorem rule_both {r : Rul} (hf : r.fine) (hok : r.oks) : ∃ z : List Tk, One (rulT r) z ∧ (∀ zs m, ruleR (St (z ++ zs) m) = (r, St zs m)) ∧ (∀ zs, seesR [w_permit, w_deny] (St (z ++ zs) 0) ≠ 0) ∧ 1 ≤ z.length := by
  obtain ⟨hn, ht, hc, ho⟩ := hf
  obtain ⟨zc, wc, hzc, rc⟩ := cond_both hc hok.2
  have hw : Wz (rulW r) ([wTk (effW r.deny)] ++ ([tName r.id] ++ ((tgZ r.tg ++ zc) ++ r.ob.flatMap dutZ))) :=
    .cons (one_name (effW_named _)) (.cons (one_id hn) (((wz_tg ht hok.1).app wc).app (wz_ob ho)))
  refine ⟨_, hw.join.behind (c := 59) (by decide) Zx.m59, fun zs m => ?_, fun zs => ?_, by simp⟩
  · have e : (([wTk (effW r.deny)] ++ ([tName r.id] ++ ((tgZ r.tg ++ zc) ++ r.ob.flatMap dutZ))) ++ [tMark 59]) ++ zs = wTk (effW r.deny) :: tName r.id :: (tgZ r.tg ++ (zc ++ (r.ob.flatMap dutZ ++ tMark 59 :: zs))) := by simp
    have k1 : ∀ ws : List ByteArray, seesR ws (St [tName w_on] 0) = 0 → seesR ws (St [tMark 59] 0) = 0 → Nx ws (r.ob.flatMap dutZ ++ tMark 59 :: zs) := fun ws a b => ob_no a (Nx.word b _)
    have k3 : ∀ ws : List ByteArray, seesR ws (St [tName w_if] 0) = 0 → seesR ws (St [tName w_on] 0) = 0 → seesR ws (St [tMark 59] 0) = 0 → Nx ws (zc ++ (r.ob.flatMap dutZ ++ tMark 59 :: zs)) := by
      intro ws a b c
      rcases hzc with rfl | ⟨y, rfl⟩
      · exact k1 ws b c
      · exact a
    rw [e]
    unfold ruleR
    simp only
    rw [must_yes (t := wTk (effW r.deny)) (i := if r.deny = true then 2 else 1) (by cases r.deny <;> decide +kernel) (by split <;> decide)]
    simp only
    rw [name_read]
    simp only
    rw [target_read ht (k3 _ (by decide +kernel) (by decide +kernel) (by decide +kernel)) (k3 _ (by decide +kernel) (by decide +kernel) (by decide +kernel))]
    simp only
    rw [rc _ m (k1 _ (by decide +kernel) (by decide +kernel)) (k1 _ (by decide +kernel) (by decide +kernel))]
    simp only
    rw [ob_read ho (by simp) (Nx.word (by decide +kernel) _)]
    simp only
    rw [must_yes (i := 1) (by decide +kernel) (by decide)]
    obtain ⟨i, d, t, c, o⟩ := r
    cases d <;> rfl
  · show seesR _ (St (wTk (effW r.deny) :: _) 0) ≠ 0
    have : ∀ zs : List Tk, seesR [w_permit, w_deny] (St (wTk (effW r.deny) :: zs) 0) = if r.deny = true then 2 else 1 := by
      intro zs
      cases r.deny
      · show seesR _ (St [wTk (effW false)] 0) = _
        decide +kernel
      · show seesR _ (St [wTk (effW true)] 0) = _
        decide +kernel
    rw [this]
    split <;> decide
theorem rule_fine {r : Rul} {s s' : Seen} (h : ruleS r s = (0, s')) : r.fine ∧ s'.n = s.n + 1 ∧ s'.n ≤ 64 := by
  refine ⟨?_, rule_n h⟩
  unfold ruleS at h
  cases hi : idS r.id s with
  | none => rw [hi] at h; simp at h
  | some s1 =>
    rw [hi] at h
    simp only at h
    split at h
    · simp at h
    · simp only [Prod.mk.injEq] at h
      have h0 := h.1
      unfold orE at h0
      have hid : Named (bl r.id) := by
        unfold idS at hi
        split at hi
        · rename_i hh; exact hh.1
        · cases hi
      by_cases h1 : tgE r.tg = 0
      · by_cases h2 : exprE r.cond = 0
        · exact ⟨hid, h1, h2, by simpa [h1, h2] using h0⟩
        · exact absurd h0 (by simp [h1, h2])
      · exact absurd h0 (by simp [h1])
theorem first_cons {α : Type} {f : α → Seen → Int × Seen} {x : α} {l : List α} {s s' : Seen} (h : firstS f (x :: l) s = (0, s')) : ∃ s1, f x s = (0, s1) ∧ firstS f l s1 = (0, s') := by
  simp only [firstS] at h
  split at h
  · rename_i h0; rw [h] at h0; exact absurd rfl h0
  · rename_i h0
    have h0 : (f x s).1 = 0 := by simpa using h0
    exact ⟨(f x s).2, by rw [← h0], h⟩
theorem rules_both : ∀ {l : List Rul} {s s' : Seen}, firstS ruleS l s = (0, s') → (∀ r ∈ l, r.oks) → s.n ≤ 64 → s'.n = s.n + l.length ∧ s'.n ≤ 64 ∧
    ∃ z : List Tk, Wz (l.map rulT) z ∧ l.length ≤ z.length ∧ ∀ n acc zs, acc.length + l.length ≤ 16 → l.length < n → Nx [w_permit, w_deny] zs → rulesR n acc (St (z ++ zs) s.n) = (acc ++ l, St zs s'.n)
  | [], s, s', h, _, hs => by
    simp [firstS] at h
    subst h
    refine ⟨rfl, hs, [], .nil, Nat.le_refl _, fun n acc zs _ hn hx => ?_⟩
    cases n with
    | zero => simp at hn
    | succ n =>
      unfold rulesR
      rw [List.nil_append, if_pos (hx.at_ _), List.append_nil]
  | r :: l, s, s', h, hok, hs => by
    obtain ⟨s1, h1, h2⟩ := first_cons h
    obtain ⟨hf, hn1, h64⟩ := rule_fine h1
    obtain ⟨z1, o1, r1, e1, l1⟩ := rule_both hf (hok r (by simp))
    obtain ⟨q1, q2, z2, w2, l2, r2⟩ := rules_both h2 (fun x hx => hok x (by simp [hx])) h64
    refine ⟨by simp only [List.length_cons]; omega, q2, z1 ++ z2, ?_, by simp only [List.length_cons, List.length_append]; omega, fun n acc zs hl hn hx => ?_⟩
    · exact .cons o1 w2
    · cases n with
      | zero => simp at hn
      | succ n =>
        simp only [List.length_cons] at hl hn
        unfold rulesR
        rw [List.append_assoc, if_neg (show ¬ seesR [w_permit, w_deny] (St (z1 ++ (z2 ++ zs)) s.n) = 0 from e1 _)]
        simp only
        rw [most_no (n := (acc.length : Int) + 1) (l := 16) (by omega)]
        have em : metR (St (z1 ++ (z2 ++ zs)) s.n) = St (z1 ++ (z2 ++ zs)) s1.n := by rw [hn1]; rfl
        rw [em, most_no (by show ¬ (64 : Int) < (s1.n : Int); omega), r1]
        simp only
        rw [r2 n (acc ++ [r]) zs (by simp only [List.length_append, List.length_cons, List.length_nil]; omega) (by omega) hx, List.append_assoc]
        rfl
/-- What a right policy is of. -/
theorem pol_parts {d : Nat} {p : Pol} {s s' : Seen} (h : polS (d + 1) p s = (0, s')) : Named (bl p.id) ∧ fitsB p = true ∧ tgE p.tg = 0 ∧ obE p.ob = 0 ∧ (p.rules.length ≤ 16 ∧ p.kids.length ≤ 16) ∧
    ∃ s1 s2, s1.n = s.n ∧ firstS ruleS p.rules s1 = (0, s2) ∧ firstS (polS d) p.kids s2 = (0, s') := by
  simp only [polS] at h
  cases hi : idS p.id s with
  | none => rw [hi] at h; simp at h
  | some s1 =>
    rw [hi] at h
    simp only at h
    have h1 := (idS_sub hi (t := s) ⟨fun _ h => h, Nat.le_refl _⟩).2
    have hid : Named (bl p.id) := by
      unfold idS at hi
      split at hi
      · rename_i hh; exact hh.1
      · cases hi
    split at h
    · simp at h
    rename_i c1
    split at h
    · rename_i c2; simp only [Prod.mk.injEq] at h; exact absurd h.1 c2
    rename_i c2
    split at h
    · simp at h
    rename_i c3
    split at h
    · rename_i c4; rw [h] at c4; exact absurd rfl c4
    rename_i c4
    have c4' : (firstS ruleS p.rules s1).1 = 0 := by simpa using c4
    have e1 : firstS ruleS p.rules s1 = (0, (firstS ruleS p.rules s1).2) := by rw [← c4']
    have c2' : orE (tgE p.tg) (obE p.ob) = 0 := by simpa using c2
    unfold orE at c2'
    have ht : tgE p.tg = 0 := by
      by_cases h1 : tgE p.tg = 0
      · exact h1
      · rw [if_pos h1] at c2'; exact c2'
    have ho : obE p.ob = 0 := by rw [if_neg (by rw [ht]; simp)] at c2'; exact c2'
    exact ⟨hid, by simpa using c1, ht, ho, by omega, s1, _, by rw [h1], e1, h⟩
theorem fits_all {p : Pol} (h : fitsB p = true) : (p.alg = 1 ∨ p.alg = 2 ∨ p.alg = 3 ∨ p.alg = 4 ∨ p.alg = 5 ∨ p.alg = 6) ∧ (p.set = true → p.rules = []) ∧ (p.set = false → p.kids = []) := by
  unfold fitsB at h
  simp only [Bool.and_eq_true, decide_eq_true_eq] at h
  refine ⟨by omega, fun hs => ?_, fun hs => ?_⟩
  · have := h.2
    rw [if_pos hs, decide_eq_true_eq] at this
    exact List.length_eq_zero_iff.1 this
  · have := h.2
    rw [if_neg (by rw [hs]; simp), Bool.and_eq_true, decide_eq_true_eq] at this
    exact List.length_eq_zero_iff.1 this.1
theorem one_lb : One [123] [tMark 123] := one_mark Zx.m123
theorem one_rb : One [125] [tMark 125] := one_mark Zx.m125
def PolBoth (d : Nat) : Prop := ∀ {p : Pol} {s s' : Seen}, polS d p s = (0, s') → polOks d p → s.n ≤ 64 → s.n ≤ s'.n ∧ s'.n ≤ 64 ∧
    ∃ z : List Tk, Wz (polW d p) z ∧ 1 ≤ z.length ∧ (∀ zs, seesR [w_policy, w_set] (St (z ++ zs) 0) ≠ 0) ∧ ∀ zs, 1 ≤ zs.length → Nx [w_on] zs → polR (d + 1) (St (z ++ zs) s.n) = (p, St zs s'.n)
/-- What stands ahead of the rest where a policy ends. -/
theorem kids_both {d : Nat} (ih : PolBoth d) (hd : d ≤ 3) : ∀ {l : List Pol} {s s' : Seen}, firstS (polS d) l s = (0, s') → (∀ k ∈ l, polOks d k) → s.n ≤ 64 → s.n ≤ s'.n ∧ s'.n ≤ 64 ∧
    ∃ z : List Tk, Wz (l.map (polW d)).flatten z ∧ l.length ≤ z.length ∧ (z = [] ∨ ∀ zs, seesR [w_policy, w_set] (St (z ++ zs) 0) ≠ 0) ∧ ∀ n acc zs, acc.length + l.length ≤ 16 → l.length < n → 1 ≤ zs.length → Nx [w_policy, w_set] zs → Nx [w_on] zs → kidsR (polR (d + 1)) n acc (St (z ++ zs) s.n) = (acc ++ l, St zs s'.n)
  | [], s, s', h, _, hs => by
    simp [firstS] at h
    subst h
    refine ⟨Nat.le_refl _, hs, [], .nil, Nat.le_refl _, .inl rfl, fun n acc zs _ hn _ hx _ => ?_⟩
    cases n with
    | zero => simp at hn
    | succ n =>
      unfold kidsR
      rw [List.nil_append, if_pos (hx.at_ _), List.append_nil]
  | p :: l, s, s', h, hok, hs => by
    obtain ⟨s1, h1, h2⟩ := first_cons h
    obtain ⟨a1, a2, z1, w1, l1, e1, r1⟩ := ih h1 (hok p (by simp)) hs
    obtain ⟨b1, b2, z2, w2, l2, e2, r2⟩ := kids_both ih hd h2 (fun k hk => hok k (by simp [hk])) a2
    refine ⟨by omega, b2, z1 ++ z2, ?_, by simp only [List.length_cons, List.length_append]; omega, .inr fun zs => by rw [List.append_assoc]; exact e1 _, fun n acc zs hl hn hz hx ho => ?_⟩
    · rw [List.map_cons, List.flatten_cons]
      exact w1.app w2
    · cases n with
      | zero => simp at hn
      | succ n =>
        simp only [List.length_cons] at hl hn
        have ho2 : Nx [w_on] (z2 ++ zs) := by
          rcases e2 with rfl | e2
          · exact ho
          · have := e2 zs
            unfold Nx seesR
            unfold seesR at this
            split at this
            · rename_i hk
              rw [if_pos hk]
              have hd : (St (z2 ++ zs) 0).hd.s = w_policy ∨ (St (z2 ++ zs) 0).hd.s = w_set := by
                generalize (St (z2 ++ zs) 0).hd.s = x at this
                by_cases hp : x = w_policy
                · exact .inl hp
                · by_cases hq : x = w_set
                  · exact .inr hq
                  · simp [idxW, hp, hq] at this
              rcases hd with h | h <;> rw [h] <;> decide +kernel
            · exact absurd rfl this
        unfold kidsR
        rw [List.append_assoc, if_neg (show ¬ seesR [w_policy, w_set] (St (z1 ++ (z2 ++ zs)) s.n) = 0 from e1 _)]
        simp only
        rw [most_no (by omega), r1 (z2 ++ zs) (by simp only [List.length_append]; omega) ho2]
        simp only
        rw [r2 n (acc ++ [p]) zs (by simp only [List.length_append, List.length_cons, List.length_nil]; omega) (by omega) hz hx ho, List.append_assoc]
        rfl
theorem alg_read {n : Int} (h : n = 1 ∨ n = 2 ∨ n = 3 ∨ n = 4 ∨ n = 5 ∨ n = 6) (zs : List Tk) (m : Nat) : mustR w_algs (St (wTk (algW n) :: zs) m) = (n.toNat, St zs m) := by
  rcases h with rfl | rfl | rfl | rfl | rfl | rfl <;> exact must_yes (by decide +kernel) (by decide) zs m
theorem head_read (p : Pol) (zs : List Tk) (m : Nat) : mustR [w_policy, w_set] (St (wTk (headW p) :: zs) m) = (if p.set = true then 2 else 1, St zs m) := by
  unfold headW
  split
  · exact must_yes (by decide +kernel) (by decide) zs m
  · exact must_yes (by decide +kernel) (by decide) zs m
theorem pol_both : ∀ d : Nat, d ≤ 4 → PolBoth d
  | 0, _, p, s, s', h, _, _ => by
    simp [polS] at h
  | d + 1, hd, p, s, s', h, hok, hs => by
    obtain ⟨hid, hfit, ht, ho, ⟨h16, k16⟩, s1, s2, hs1, hr, hk⟩ := pol_parts h
    obtain ⟨hok1, hok2, hok3⟩ := hok
    obtain ⟨halg, hset, hpol⟩ := fits_all hfit
    obtain ⟨a1, a2, zr, wr, lr, rr⟩ := rules_both hr hok2 (by omega)
    obtain ⟨b1, b2, zk, wk, lk, ek, rk⟩ := kids_both (pol_both d (by omega)) (by omega) hk hok3 a2
    have hw : Wz (polW (d + 1) p) ([wTk (headW p)] ++ ([tName p.id] ++ ([wTk (algW p.alg)] ++ (((((tgZ p.tg ++ [tMark 123]) ++ zr) ++ zk) ++ [tMark 125]) ++ p.ob.flatMap dutZ)))) :=
      .cons (one_name (headW_named _)) (.cons (one_id hid) (.cons (one_name (algW_named _)) ((((((wz_tg ht hok1).app (.one one_lb)).app wr).app wk).app (.one one_rb)).app (wz_ob ho))))
    refine ⟨by omega, b2, _, hw, by simp, fun zs => ?_, fun zs hz hx => ?_⟩
    · have := head_read p zs 0
      show seesR _ (St (wTk (headW p) :: _) 0) ≠ 0
      have e : ∀ zs, seesR [w_policy, w_set] (St (wTk (headW p) :: zs) 0) = if p.set = true then 2 else 1 := by
        intro zs
        unfold headW
        split
        · show seesR _ (St [wTk [115, 101, 116]] 0) = _
          decide +kernel
        · show seesR _ (St [wTk [112, 111, 108, 105, 99, 121]] 0) = _
          decide +kernel
      rw [e]
      split <;> decide
    · have e : ([wTk (headW p)] ++ ([tName p.id] ++ ([wTk (algW p.alg)] ++ (((((tgZ p.tg ++ [tMark 123]) ++ zr) ++ zk) ++ [tMark 125]) ++ p.ob.flatMap dutZ)))) ++ zs =
          wTk (headW p) :: tName p.id :: wTk (algW p.alg) :: (tgZ p.tg ++ tMark 123 :: (zr ++ (zk ++ tMark 125 :: (p.ob.flatMap dutZ ++ zs)))) := by simp
      rw [e]
      have hin : inR (d + 1) (if p.set = true then 2 else 1) (St (zr ++ (zk ++ tMark 125 :: (p.ob.flatMap dutZ ++ zs))) s.n) = (p.rules, p.kids, St (tMark 125 :: (p.ob.flatMap dutZ ++ zs)) s'.n) := by
        unfold inR
        cases hps : p.set with
        | true =>
          have hr0 := hset hps
          rw [hr0] at wr hr a1
          have : zr = [] := by
            have e0 : ([] : List Rul).map rulT = [] := rfl
            rw [e0] at wr
            cases wr
            rfl
          subst this
          simp only [if_true, List.nil_append]
          have hs2 : s2.n = s.n := by rw [a1]; simp; exact hs1
          have := rk (zk ++ tMark 125 :: (p.ob.flatMap dutZ ++ zs)).length [] (tMark 125 :: (p.ob.flatMap dutZ ++ zs)) (by simpa using k16) (by simp only [List.length_append, List.length_cons]; omega) (by simp) (nx_of (by decide +kernel) _) (nx_of (by decide +kernel) _)
          rw [hs2] at this
          have e1 : (St (zk ++ tMark 125 :: (p.ob.flatMap dutZ ++ zs)) s.n).rest.length = (zk ++ tMark 125 :: (p.ob.flatMap dutZ ++ zs)).length := rfl
          rw [e1, this, hr0]
          rfl
        | false =>
          have hk0 := hpol hps
          rw [hk0] at wk hk
          have : zk = [] := by
            have e0 : (([] : List Pol).map (polW d)).flatten = [] := rfl
            rw [e0] at wk
            cases wk
            rfl
          subst this
          simp [firstS] at hk
          subst hk
          simp only [Bool.false_eq_true, if_false, List.nil_append]
          rw [if_neg (by decide)]
          have := rr (zr ++ tMark 125 :: (p.ob.flatMap dutZ ++ zs)).length [] (tMark 125 :: (p.ob.flatMap dutZ ++ zs)) (by simpa using h16) (by simp only [List.length_append, List.length_cons]; omega) (nx_of (by decide +kernel) _)
          rw [hs1] at this
          have e1 : (St (zr ++ tMark 125 :: (p.ob.flatMap dutZ ++ zs)) s.n).rest.length = (zr ++ tMark 125 :: (p.ob.flatMap dutZ ++ zs)).length := rfl
          rw [e1, this, hk0]
          rfl
      have hp := polR_eq (d + 1) (St (wTk (headW p) :: tName p.id :: wTk (algW p.alg) :: (tgZ p.tg ++ tMark 123 :: (zr ++ (zk ++ tMark 125 :: (p.ob.flatMap dutZ ++ zs))))) s.n)
        (most_no (by omega) _) (head_read p _ _) (name_read _ _ _) (alg_read halg _ _) (target_read ht (nx_of (by decide +kernel) _) (nx_of (by decide +kernel) _) _) (must_yes (t := tMark 123) (i := 1) (by decide +kernel) (by decide) _ _) hin (must_yes (t := tMark 125) (i := 1) (by decide +kernel) (by decide) _ _) (ob_read ho hz hx _)
      rw [hp]
      obtain ⟨i, st, al, tg, ru, ki, ob⟩ := p
      have e2 : ((al.toNat : Nat) : Int) = al := by
        have : al = 1 ∨ al = 2 ∨ al = 3 ∨ al = 4 ∨ al = 5 ∨ al = 6 := halg
        omega
      show (Pol.mk i (decide ((if st = true then 2 else 1) = 2)) ((al.toNat : Nat) : Int) tg ru ki ob, _) = _
      rw [e2]
      cases st <;> rfl

/-- A right policy's text: its tokens, and what is read of them. -/
theorem show_toks {p : Pol} (h : rightE p = 0) (hok : polOks 4 p) : ∃ z m, Zx (polT p) (z ++ [tEnd]) ∧ polR 5 ⟨z ++ [tEnd], 0, 0, 0⟩ = (p, ⟨[tEnd], m, 0, 0⟩) := by
  have e0 : polS 4 p ⟨[], 0⟩ = (0, (polS 4 p ⟨[], 0⟩).2) := by unfold rightE at h; rw [← h]
  obtain ⟨_, _, z, hw, _, _, hr⟩ := pol_both 4 (Nat.le_refl _) e0 hok (Nat.zero_le _)
  refine ⟨z, _, ?_, hr [tEnd] (by simp) (by unfold Nx; decide +kernel)⟩
  have := hw.join [] [tEnd] Stp.nil Zx.nil
  rwa [List.append_nil] at this
/-- .. is read as that policy, if it isn't too long. -/
theorem show_read {p : Pol} (h : rightE p = 0) (hok : polOks 4 p) {s : ByteArray} (hs : s.size ≤ 4096) (ht : s.data.toList = polT p) : parseR s = (p, 0, 0) := by
  obtain ⟨z, m, hz, hr⟩ := show_toks h hok
  rw [← ht] at hz
  exact hz.read hs hr rfl h
/-- Two right policies have one text just if they are the same. -/
theorem show_same {p q : Pol} (hp : rightE p = 0) (hq : rightE q = 0) (okp : polOks 4 p) (okq : polOks 4 q) (h : polT p = polT q) : p = q := by
  obtain ⟨z, m, hz, hr⟩ := show_toks hp okp
  obtain ⟨z', m', hz', hr'⟩ := show_toks hq okq
  rw [h] at hz
  obtain ⟨ts, h1, h2⟩ := hz
  obtain ⟨ts', h1', h2'⟩ := hz'
  rw [h1] at h1'
  obtain rfl : ts = ts' := by injection h1'
  rw [← h2, h2', hr'] at hr
  exact (Prod.mk.inj hr).1.symm
theorem show_some {p : Pol} : polT p ≠ [] := by
  have : polW 4 p = headW p :: (bl p.id :: algW p.alg :: (tgW p.tg ++ [[123]] ++ p.rules.map rulT ++ (p.kids.map (polW 3)).flatten ++ [[125]] ++ p.ob.map dutT)) := rfl
  unfold polT
  rw [this, Lib.join_cons]
  intro h
  have := (List.append_eq_nil_iff.1 h).1
  unfold headW at this
  split at this <;> cases this
end Go.Proofs.YtincnopaclmppaaDoor
/- Policies as text, plainly: how long such texts are. -/
namespace Go.Proofs.YtincnopaclmppaaDoor
set_option linter.unusedVariables false

theorem val_len {v : Vl} (h : v.right) (hn : InI v.n) : (showB v).length ≤ 400 := by
  have hr := h
  unfold Vl.right RightV at hr
  have hi := Lib.itoa_length_le v.n hn.1 hn.2
  have hq := quoteL_len v.l
  rcases show_cases h with ⟨_, _, ⟨_, hs⟩ | ⟨_, hs⟩⟩ | ⟨_, _, hs⟩ | ⟨hk, _, hs⟩ | ⟨_, _, hs⟩ | ⟨hk, _, hs⟩
  all_goals rw [hs]
  · simp
  · simp
  · omega
  · have : v.l.length ≤ 64 := by rcases hr with h | h | h | h | h <;> omega
    unfold quoteB
    simp
    omega
  · simp; omega
  · have : v.l.length ≤ 16 := by rcases hr with h | h | h | h | h <;> first | exact h.2.2.1.2 | omega
    simp; omega
theorem catW_len (n : Int) : (catW n).length ≤ 7 := by
  unfold catW; repeat' split
  all_goals decide
theorem algW_len (n : Int) : (algW n).length ≤ 12 := by
  unfold algW; repeat' split
  all_goals decide
theorem fnW_len (n : Int) : (fnW n).length ≤ 4 := by
  unfold fnW; repeat' split
  all_goals decide
theorem doW_len (n : Int) : (doW n).length ≤ 6 := by
  unfold doW; repeat' split
  all_goals decide
theorem cmpW_len (n : Int) : (cmpW n).length ≤ 1 := by
  unfold cmpW; repeat' split
  all_goals decide
theorem effW_len (b : Bool) : (effW b).length ≤ 6 := by cases b <;> decide
theorem headW_len (p : Pol) : (headW p).length ≤ 6 := by
  unfold headW
  split <;> decide
theorem attr_len {a : Atr} (h : attrB a = true) : (attrS a).length ≤ 25 := by
  have hn := (attrB_all h).2.1.2
  have hc := catW_len a.cat
  unfold attrS attrT
  rw [if_pos h]
  simp only [List.length_append, List.length_cons]
  split <;> simp <;> omega
theorem mat_len {m : Mat} (h : matE m = 0) (hok : m.ok) : (matT m).length ≤ 500 := by
  obtain ⟨ha, _, hv⟩ := matE_all h
  have := attr_len ha
  have := cmpW_len m.op
  have := val_len hv hok.2.2.2.1
  simp only [matT, List.length_append, List.length_cons]
  omega
/-- A row of texts, none longer than so much. -/
theorem tail_le {B : Nat} (sep : List UInt8) : ∀ xs : List (List UInt8), (∀ x ∈ xs, x.length ≤ B) → (Lib.joinTail sep xs).length ≤ xs.length * (B + sep.length)
  | [], _ => by simp [Lib.joinTail]
  | x :: xs, h => by
    have i := tail_le sep xs fun y hy => h y (by simp [hy])
    have j := h x (by simp)
    have e : Lib.joinTail sep (x :: xs) = sep ++ (x ++ Lib.joinTail sep xs) := by simp [Lib.joinTail]
    rw [e, List.length_append, List.length_append, List.length_cons, Nat.succ_mul]
    omega
theorem join_le {B : Nat} (sep : List UInt8) (xs : List (List UInt8)) (h : ∀ x ∈ xs, x.length ≤ B) : (Lib.join xs sep).length ≤ xs.length * (B + sep.length) := by
  cases xs with
  | nil => simp [Lib.join_nil]
  | cons x xs =>
    have i := tail_le sep xs fun y hy => h y (by simp [hy])
    have j := h x (by simp)
    rw [Lib.join_cons, List.length_append, List.length_cons, Nat.succ_mul]
    omega
theorem join_map {α : Type} {T : α → List UInt8} {B n : Nat} (sep : List UInt8) (l : List α) (h : ∀ x ∈ l, (T x).length ≤ B) (hn : l.length ≤ n) : (Lib.join (l.map T) sep).length ≤ n * (B + sep.length) := by
  have := join_le (B := B) sep (l.map T) (fun y hy => by obtain ⟨x, hx, rfl⟩ := List.mem_map.1 hy; exact h x hx)
  rw [List.length_map] at this
  exact Nat.le_trans this (Nat.mul_le_mul_right _ hn)
theorem all_len {l : List Mat} (h : allE l = 0) (hok : ∀ m ∈ l, m.ok) : (allT l).length ≤ 5000 := by
  have := join_map (T := matT) (B := 500) (n := 8) [44, 32] l (fun x hx => mat_len ((allE_all h).2 x hx) (hok x hx)) (allE_all h).1.2
  exact Nat.le_trans this (by decide)
theorem any_len {l : List (List Mat)} (h : anyE l = 0) (hok : ∀ a ∈ l, ∀ m ∈ a, m.ok) : (anyT l).length ≤ 41000 := by
  have := join_map (T := allT) (B := 5000) (n := 8) [32, 111, 114, 32] l (fun x hx => all_len ((anyE_all h).2 x hx) (hok x hx)) (anyE_all h).1.2
  simp only [anyT, List.length_cons, List.length_append, List.length_nil] at this ⊢
  omega
theorem tg_len {t : Tgt} (h : tgE t = 0) (hok : Tgt.oks t) : (tgT t).length ≤ 330000 := by
  have := join_map (T := anyT) (B := 41000) (n := 8) [32, 97, 110, 100, 32] t (fun x hx => any_len ((tgE_all h).2 x hx) (hok x hx)) (tgE_all h).1
  exact Nat.le_trans this (by decide)
theorem dut_len {o : Dut} (h : dutE o = 0) : (dutT o).length ≤ 100 := by
  have := (dutE_all h).2.2.1.2
  have := doW_len o.kind
  have := effW_len (decide (o.on = 2))
  simp only [dutT, List.length_append, List.length_cons, List.length_nil]
  omega
theorem tree_len : ∀ {t : Xt}, t.fits → (∀ n ∈ t.flat, n.ok) → t.txt.length ≤ 430 * t.flat.length
  | .leaf n, hf, hok => by
    obtain ⟨ho, hh⟩ := hf
    simp only [Xt.txt, nodeT, Xt.flat]
    rcases ho with ho | ho
    · rw [if_pos ho]
      have := val_len (holds_lit hh ho).1 (hok n (by simp [Xt.flat])).2.1.2.1
      simp; omega
    · rw [if_neg (by omega), if_pos ho]
      have := attr_len (holds_att hh ho).1
      simp; omega
  | .one n x, hf, hok => by
    obtain ⟨hh, ho, hx⟩ := hf
    have hn := one_op ho
    have i := tree_len hx (fun k hk => hok k (by simp [Xt.flat, hk]))
    have := fnW_len n.op
    simp only [Xt.txt, Xt.flat]
    rw [nodeT_fun hn.1 hn.2, Lib.join_one]
    simp only [List.length_append, List.length_cons, List.length_nil]
    omega
  | .two n x y, hf, hok => by
    obtain ⟨hh, ho, hy, fx, fy⟩ := hf
    have hn := two_op ho
    have i := tree_len fx (fun k hk => hok k (by simp [Xt.flat, hk]))
    have j := tree_len fy (fun k hk => hok k (by simp [Xt.flat, hk]))
    have := fnW_len n.op
    simp only [Xt.txt, Xt.flat]
    rw [nodeT_fun hn.1 hn.2, join_two]
    simp only [List.length_append, List.length_cons, List.length_nil]
    omega
theorem expr_len {l : List Nod} (h : exprE l = 0) (hok : ∀ n ∈ l, n.ok) : (exprS l).length ≤ 14000 := by
  unfold exprS
  split
  · rename_i hh
    obtain ⟨t, hf, hb, hl, ht, h32⟩ := expr_tree h hh.1
    have := tree_len hf (by rw [← hl]; exact hok)
    rw [ht]
    rw [← hl] at this
    omega
  · simp
theorem tgW_len {t : Tgt} (h : tgE t = 0) (hok : Tgt.oks t) : (tgW t).length ≤ 2 ∧ ∀ x ∈ tgW t, x.length ≤ 330000 := by
  have := tg_len h hok
  unfold tgW
  split
  · simp
  · refine ⟨by simp, fun x hx => ?_⟩
    simp at hx
    rcases hx with rfl | rfl
    · simp
    · exact this
theorem condW_len {l : List Nod} (h : exprE l = 0) (hok : ∀ n ∈ l, n.ok) : (condW l).length ≤ 2 ∧ ∀ x ∈ condW l, x.length ≤ 330000 := by
  have := expr_len h hok
  unfold condW
  split
  · simp
  · refine ⟨by simp, fun x hx => ?_⟩
    simp at hx
    rcases hx with rfl | rfl
    · simp
    · omega
theorem rulW_len {r : Rul} (h : r.fine) (hok : r.oks) : (rulW r).length ≤ 14 ∧ ∀ x ∈ rulW r, x.length ≤ 330000 := by
  obtain ⟨hn, ht, hc, ho⟩ := h
  obtain ⟨t1, t2⟩ := tgW_len ht hok.1
  obtain ⟨c1, c2⟩ := condW_len hc hok.2
  obtain ⟨o1, o2⟩ := obE_all ho
  refine ⟨by simp only [rulW, List.length_cons, List.length_append, List.length_map]; omega, fun x hx => ?_⟩
  have he := effW_len r.deny
  have hid := hn.1.2
  simp only [rulW, List.mem_cons, List.mem_append, List.mem_map] at hx
  rcases hx with rfl | rfl | (hx | hx) | ⟨o, ho', rfl⟩
  · omega
  · omega
  · exact t2 x hx
  · exact c2 x hx
  · have := dut_len (o2 o ho'); omega
theorem rul_len {r : Rul} (h : r.fine) (hok : r.oks) : (rulT r).length ≤ 5000000 := by
  obtain ⟨a, b⟩ := rulW_len h hok
  have := join_le (B := 330000) [32] (rulW r) b
  have : (Lib.join (rulW r) [32]).length ≤ 14 * 330001 := Nat.le_trans this (Nat.mul_le_mul_right _ a)
  simp only [rulT, List.length_append, List.length_cons, List.length_nil]
  omega
/-- How many words a policy may have. -/
def wordsN : Nat → Nat
  | 0 => 0
  | d + 1 => 40 + 16 * wordsN d
theorem rules_fine : ∀ {l : List Rul} {s s' : Seen}, firstS ruleS l s = (0, s') → ∀ r ∈ l, r.fine
  | [], _, _, _, r, hr => by cases hr
  | x :: l, s, s', h, r, hr => by
    obtain ⟨s1, h1, h2⟩ := first_cons h
    rcases List.mem_cons.1 hr with rfl | hr
    · exact (rule_fine h1).1
    · exact rules_fine h2 r hr
theorem kids_fine {d : Nat} : ∀ {l : List Pol} {s s' : Seen}, firstS (polS d) l s = (0, s') → ∀ k ∈ l, ∃ s1 s2, polS d k s1 = (0, s2)
  | [], _, _, _, r, hr => by cases hr
  | x :: l, s, s', h, r, hr => by
    obtain ⟨s1, h1, h2⟩ := first_cons h
    rcases List.mem_cons.1 hr with rfl | hr
    · exact ⟨_, _, h1⟩
    · exact kids_fine h2 r hr
theorem flatten_le {B : Nat} : ∀ l : List (List (List UInt8)), (∀ x ∈ l, x.length ≤ B) → l.flatten.length ≤ l.length * B
  | [], _ => by simp
  | x :: l, h => by
    have := flatten_le l fun y hy => h y (by simp [hy])
    have := h x (by simp)
    rw [List.flatten_cons, List.length_append, List.length_cons, Nat.succ_mul]
    omega
theorem polW_len : ∀ (d : Nat) {p : Pol} {s s' : Seen}, polS d p s = (0, s') → polOks d p → (polW d p).length ≤ wordsN d ∧ ∀ x ∈ polW d p, x.length ≤ 5000000
  | 0, p, s, s', h, _ => by simp [polS] at h
  | d + 1, p, s, s', h, hok => by
    obtain ⟨hid, hfit, ht, ho, ⟨h16, k16⟩, s1, s2, hs1, hr, hk⟩ := pol_parts h
    obtain ⟨hok1, hok2, hok3⟩ := hok
    obtain ⟨t1, t2⟩ := tgW_len ht hok1
    obtain ⟨o1, o2⟩ := obE_all ho
    have hrf := rules_fine hr
    have kf : ∀ k ∈ p.kids, (polW d k).length ≤ wordsN d ∧ ∀ x ∈ polW d k, x.length ≤ 5000000 := fun k hkk => by
      obtain ⟨a, b, e⟩ := kids_fine hk k hkk
      exact polW_len d e (hok3 k hkk)
    have kl := flatten_le (B := wordsN d) (p.kids.map (polW d)) (fun x hx => by obtain ⟨k, hkk, rfl⟩ := List.mem_map.1 hx; exact (kf k hkk).1)
    rw [List.length_map] at kl
    have kl2 : p.kids.length * wordsN d ≤ 16 * wordsN d := Nat.mul_le_mul_right _ k16
    refine ⟨?_, fun x hx => ?_⟩
    · simp only [polW, wordsN, List.length_cons, List.length_append, List.length_map, List.length_nil]
      omega
    · have hh := headW_len p
      have ha := algW_len p.alg
      have hi := hid.1.2
      simp only [polW, List.mem_cons, List.mem_append, List.mem_map, List.mem_flatten, List.not_mem_nil, or_false] at hx
      rcases hx with rfl | rfl | rfl | ((((hx | rfl) | ⟨r, hr', rfl⟩) | ⟨ws, ⟨k, hk', rfl⟩, hx⟩) | rfl) | ⟨o, ho', rfl⟩
      · omega
      · omega
      · omega
      · have := t2 x hx; omega
      · simp
      · exact rul_len (hrf r hr') (hok2 r hr')
      · exact (kf k hk').2 x hx
      · simp
      · have := dut_len (o2 o ho'); omega
theorem wordsN_4 : wordsN 4 = 174760 := rfl
theorem wordsN_le : ∀ {d : Nat}, d ≤ 4 → wordsN d ≤ 174760 := by
  intro d h
  have : d = 0 ∨ d = 1 ∨ d = 2 ∨ d = 3 ∨ d = 4 := by omega
  rcases this with rfl | rfl | rfl | rfl | rfl <;> decide
theorem polT_len {p : Pol} (h : rightE p = 0) (hok : polOks 4 p) : (polT p).length ≤ 1000000000000 := by
  have e0 : polS 4 p ⟨[], 0⟩ = (0, (polS 4 p ⟨[], 0⟩).2) := by unfold rightE at h; rw [← h]
  obtain ⟨a, b⟩ := polW_len 4 e0 hok
  have := join_le (B := 5000000) [32] (polW 4 p) b
  rw [wordsN_4] at a
  have h2 : (polW 4 p).length * (5000000 + ([32] : List UInt8).length) ≤ 174760 * 5000001 := Nat.mul_le_mul_right _ a
  unfold polT
  omega
end Go.Proofs.YtincnopaclmppaaDoor
/- A slice of bytes as a text: string(b). -/
namespace Go.Proofs.YtincnopaclmppaaDoor
set_option linter.unusedVariables false
open Go.RowKit

theorem conv_text {P : Program} {w : World} {src dst e : TypeId} {B n c : Nat} {A : Option Addr} {l : List UInt8} (hs : P.underlying src = some (.slice e)) (he : P.underlying e = some (.int .u8)) (hd : P.underlying dst = some .string)
    (h : Sl w B A n c (bv l)) : (convert src dst (.slice A n c)).run P w = .ok (.string ⟨l.toArray⟩) w := by
  have hlen := h.len
  rw [bv_len] at hlen
  have fin : ∀ ad : Addr, A = some ad → (∀ j u, (bv l)[j]? = some u → w.cell? (ad.add j) = some u) → (convert src dst (.slice A n c)).run P w = .ok (.string ⟨l.toArray⟩) w := by
    rintro ad rfl hc
    have hb : bv l = (l.map fun x : UInt8 => (x.toNat : Int)).map (Value.int .u8) := by simp [bv]
    have hl : (loadCells ad n).run P w = .ok ((l.map fun x : UInt8 => (x.toNat : Int)).map (Value.int .u8)).toArray w := by
      have := run_loadCells_list (P := P) w ad (bv l) hc
      rw [bv_len, hlen, hb] at this
      exact this
    rw [run_convert_bytes_string w src dst e ad n c hs he hd, run_bytesToString w ad n c _ hl, foldl_push_bytes]
    simp [ByteArray.empty, ByteArray.emptyWithCapacity, Function.comp_def]
    rfl
  rcases h.2.2.2 with h0 | ⟨b, o, e, hb, hc⟩
  · subst h0
    obtain rfl : l = [] := List.eq_nil_of_length_eq_zero hlen
    rcases A with _ | ad
    · exact run_convert_bytes_nil w src e hs he 0 c dst hd
    · exact fin ad rfl (fun j u hu => by simp [bv] at hu)
  · refine fin _ e fun j u hu => ?_
    have := hc j u hu
    by_cases hj : j = 0
    · subst hj; simpa [Addr.add] using this
    · simpa [Addr.add, hj] using this

end Go.Proofs.YtincnopaclmppaaDoor
/- Rows of bytes in new memory: what a byte's type is, and make. -/
namespace Go.Proofs.YtincnopaclmppaaDoor
open Go.RowKit

theorem u8info : (Tryd.prog.info? 5).map (fun i => (i.zero, i.size, i.bytes)) = some (some (.int .u8 0), 1, 1) := by kernel_rfl

theorem madeBytes (n : Nat) : madeCells (Value.int .u8 0).cells (n * 1) = (List.replicate n (Value.int .u8 0)).toArray := by
  apply Array.ext
  · simp [madeCells]
  · intro i h1 h2; simp [madeCells, Value.cells, Nat.mod_one]

theorem make_bytes (n c : Nat) (hnc : n ≤ c) (h : c ≤ 140737488355328) (W : World) :
    (Instr.makeSlice 74 (.int .i64 (n : Int)) (.int .i64 (c : Int))).run Tryd.prog W = .ok (.slice (some ⟨W.heap.size, 0, none⟩) n c) (W.alloc (.cells (List.replicate c (Value.int .u8 0)).toArray 5)) := by
  obtain ⟨i, hi, hz0, hz1, hz2⟩ := info_parts u8info
  have hr := run_make (P := Tryd.prog) W 74 5 i _ Tryd.underlying74 hi hz0 .i64 .i64 n c (by omega) (by omega) (by rw [hz2]; omega) (by omega)
  rw [hz1] at hr
  simp only [Int.toNat_natCast, madeBytes] at hr
  exact hr

end Go.Proofs.YtincnopaclmppaaDoor
/- Quoted texts: the project's and the reference's. -/
namespace Go.Proofs.YtincnopaclmppaaDoor
set_option linter.unusedVariables false
open Go.RowKit

theorem odd_of {c : UInt8} (h : c.toNat < 32 ∨ 126 < c.toNat ∨ c.toNat = 34 ∨ c.toNat = 92) : odd8 c = true := by simpa [odd8, or_assoc] using h
theorem odd_not {c : UInt8} (h : ¬ (c.toNat < 32 ∨ 126 < c.toNat ∨ c.toNat = 34 ∨ c.toNat = 92)) : odd8 c = false := by
  rw [← Bool.not_eq_true]
  intro h'
  exact h (by simpa [odd8, or_assoc] using h')
theorem byte_ways (c : UInt8) : ((c.toNat : Int) < 32) ∨ ((32 ≤ (c.toNat : Int) ∧ 126 < (c.toNat : Int))) ∨ ((c.toNat : Int) = 34) ∨ ((c.toNat : Int) = 92) ∨ ((32 ≤ (c.toNat : Int) ∧ (c.toNat : Int) ≤ 126) ∧ ((c.toNat : Int) == 34) = false ∧ ((c.toNat : Int) == 92) = false) := by
  simp only [beq_eq_false_iff_ne]; omega
theorem byte_odd {c : UInt8} (h : ((c.toNat : Int) < 32) ∨ ((32 ≤ (c.toNat : Int) ∧ 126 < (c.toNat : Int))) ∨ ((c.toNat : Int) = 34) ∨ ((c.toNat : Int) = 92)) : odd8 c = true := odd_of (by omega)

set_option maxRecDepth 100000 in
theorem and15 : ∀ x : Nat, x < 256 → x &&& 15 = x % 16 := by decide +kernel
theorem u8_and15 {x : Int} (h1 : 0 ≤ x) (h2 : x < 256) : bits .and .u8 x 15 = x % 16 := by
  rw [u8_and x 15 h1 h2 (by omega) (by omega)]
  have e : (15 : Int).toNat = 15 := rfl
  rw [e, and15 _ (by omega)]; omega

/-- The digits to the base 16. -/
def digs : ByteArray := ⟨#[48, 49, 50, 51, 52, 53, 54, 55, 56, 57, 97, 98, 99, 100, 101, 102]⟩
theorem digs_at : ∀ x : Fin 16, digs[x.val]? = some (hexd x.val) := by decide
theorem digs_get {i : Int} {x : Nat} (hi : i.toNat = x) (hx : x < 16) (h : i.toNat < digs.size) : digs[i.toNat]'h = hexd x := by
  subst hi
  have := digs_at ⟨i.toNat, hx⟩
  dsimp only at this
  rw [getElem?_pos digs i.toNat h] at this
  exact Option.some.inj this

def QRel (w : World) (l : List UInt8) (o i : Value) (wr : World) : Prop :=
  ∃ (k n c : Nat) (A : Option Addr), k ≤ l.length ∧ i = .int .i64 (k : Int) ∧ o = .slice A n c ∧ wr.ownsRow w.heap.size 5 1 (.slice A n c) n (bv ([34] ++ quoteL (l.take k))) ∧ Below w.heap.size w wr

theorem own_lit (w : World) (x : UInt8) : (w.alloc (.cells #[.int .u8 (x.toNat : Int)] 5)).ownsRow w.heap.size 5 1 (.slice (some ⟨w.heap.size, 0, none⟩) 1 1) 1 (bv [x]) :=
  ⟨rfl, .inr ⟨w.heap.size, 1, #[.int .u8 (x.toNat : Int)], rfl, Nat.le_refl _, heap_alloc_new w _, Nat.le_refl _, by simp [maxLen], rfl, rfl⟩⟩

theorem quoteL_step {l : List UInt8} {k : Nat} {b : UInt8} (h : l[k]? = some b) : quoteL (l.take (k + 1)) = quoteL (l.take k) ++ quoteC b := by
  obtain ⟨hk, e⟩ := List.getElem?_eq_some_iff.1 h
  rw [List.take_succ_eq_append_getElem hk, quoteL_app, e]
  simp [quoteL]

/-- A literal's bytes, appended. -/
theorem append_bytes {w : World} {base n c m : Nat} {A : Option Addr} {l : List UInt8} (h : w.ownsRow base 5 1 (.slice A n c) n (bv l)) (cs : List UInt8) (hm : cs.length = m) (hn : n + m ≤ 140737488355328) (hb : base ≤ w.heap.size) :
    ∃ A' c' w', (Builtin.append_ #[74, 74] 74 #[.slice A n c, .slice (some ⟨w.heap.size, 0, none⟩) m m]).run Tryd.prog (w.alloc (.cells (bv cs).toArray 5)) = .ok (.slice A' (n + m) c') w' ∧
      w'.ownsRow base 5 1 (.slice A' (n + m) c') (n + m) (bv (l ++ cs)) ∧ Below base w w' := by
  obtain ⟨i, hi, hz0, hz1, hz2⟩ := info_parts u8info
  obtain ⟨A', c', w', h1, h2, h3⟩ := append_row (P := Tryd.prog) (ty := 74) Tryd.underlying74 hi hz0 hz1 hz2 (h.alloc _) (Sl.lit w 5 (bv cs) m (by rw [bv_len, hm]) (by unfold maxLen; omega)) one_bv hn (by rw [size_al]; omega)
  exact ⟨A', c', w', h1, by rw [bv_app]; exact h2, ((Below.refl base w).alloc hb _).trans h3⟩

set_option maxHeartbeats 1600000 in
set_option maxRecDepth 100000 in
theorem quoted_any (s : ByteArray) (hs : s.size ≤ 1000000) (w : World) :
    Calls Tryd.prog 75 #[.string s] w fun e w' => e = .returned (.string ⟨(quoteB s.data.toList).toArray⟩) ∧ Below w.heap.size w w' := by
  have hl := data_len s
  generalize hL : s.data.toList = l at *
  have HD : Hid (∀ k (h : k < s.size), l[k]? = some s[k]) := by
    show ∀ k (h : k < s.size), l[k]? = some s[k]
    subst hL; exact fun k h => data_at h
  have HL := Lib.hid hl
  have hstart : QRel w l (.slice (some ⟨w.heap.size, 0, none⟩) 1 1) (.int .i64 0) (w.alloc (.cells #[.int .u8 34] 5)) :=
    ⟨0, 1, 1, _, by omega, rfl, rfl, by simpa [quoteL] using own_lit w 34, (Below.refl _ _).alloc (Nat.le_refl _) _⟩
  have HS := Lib.hid hstart
  clear hl hL hstart
  go_enter Tryd.func75, Tryd.ntmps75
  go_wp2_with fail
  go_loopw [3, 9] (fun o i wr => QRel w l o i wr) (fun _ i _ => s.size - (intOf i).toNat)
  case atStart => exact HS.out
  case round =>
    obtain ⟨k, n, c, A, hk, rfl, rfl, hown, hbel⟩ := hrel
    have hn : n ≤ 3000001 := by
      have := hown.1
      have h2 := quoteL_len (l.take k)
      have h3 := HL.out
      simp [bv_len] at this h2
      omega
    have hkl : k ≤ s.size := by have := HL.out; omega
    have HB := Lib.hid hbel
    by_cases hlt : k < s.size
    · have hc := HD.out k hlt
      have hi2 : 0 ≤ (k : Int) ∧ (k : Int) < s.size := by omega
      generalize hcc : s[k] = b at *
      have HC := Lib.hid hc
      clear hc
      rcases byte_ways b with a | a | a | a | a
      case inr.inr.inr.inr =>
        obtain ⟨A2, c2, w2, hap, hown2, hbel2⟩ := append_bytes hown [b] (m := 1) rfl (by omega) hbel.size
        have HO2 := Lib.hid hown2
        have HB2 := Lib.hid (hbel.trans hbel2)
        have HODD : Hid (odd8 b = false) := odd_not (by obtain ⟨a1, a2, a3⟩ := a; simp only [beq_eq_false_iff_ne] at a2 a3; omega)
        have HAP := Lib.hid hap
        clear hown hbel hown2 hbel2 hk hap
        go_wp2_with (at_builtin; refine wpList_append_run rfl _ _ _ _ rfl rfl rfl HAP.out ?_)
        go_roundw
        case rel =>
          refine ⟨k + 1, n + 1, c2, A2, by have := HL.out; omega, by go_num, rfl, ?_, HB2.out⟩
          have e : quoteL (l.take (k + 1)) = quoteL (l.take k) ++ [b] := by rw [quoteL_step HC.out]; unfold quoteC; rw [HODD.out]; rfl
          rw [e, ← List.append_assoc]
          exact HO2.out
        case measure => simp [intOf]; omega
      case inr.inr.inl =>
        obtain rfl : b = 34 := UInt8.toNat_inj.1 (by have : (34 : UInt8).toNat = 34 := rfl; omega)
        have HODD : Hid (odd8 34 = true) := rfl
        have hb1 : bits .and .u8 34 15 = 2 := by decide
        have hd1 : ∀ h, (⟨#[48, 49, 50, 51, 52, 53, 54, 55, 56, 57, 97, 98, 99, 100, 101, 102]⟩ : ByteArray)[2]'h = 50 := fun h => rfl
        have hd2 : ∀ h, (⟨#[48, 49, 50, 51, 52, 53, 54, 55, 56, 57, 97, 98, 99, 100, 101, 102]⟩ : ByteArray)[2]'h = 50 := fun h => rfl
        clear a
        obtain ⟨A2, c2, w2, hap, hown2, hbel2⟩ := append_bytes (w := wr.drew) (base := w.heap.size) (A := A) (n := n) (c := c) (l := [34] ++ quoteL (l.take k)) hown [92, 50, 50] (m := 3) rfl (by omega) hbel.size
        have HO2 := Lib.hid hown2
        have HB2 := Lib.hid ((below_drewN hbel 1).trans hbel2)
        have hap' : (Builtin.append_ #[74, 74] 74 #[.slice A n c, .slice (some ⟨wr.heap.size, 0, none⟩) 3 3]).run Tryd.prog ((wr.alloc (.cells #[.int .u8 92, .int .u8 50, .int .u8 50] 5)).drew) = .ok (.slice A2 (n + 3) c2) w2 := hap
        have HAP := Lib.hid hap'
        clear hown hbel hown2 hbel2 hk hap hap'
        go_wp2_with fail
        go_region_law (refine step_append_run rfl (.tmp 29) (.tmp 36) _ _ rfl (by simp [Act.eval]) (by simp [Act.eval]) HAP.out ?_)
        all_goals
         go_wp2_with fail
         go_roundw
         case rel =>
          refine ⟨k + 1, n + 3, c2, A2, by have := HL.out; omega, by go_num, rfl, ?_, HB2.out⟩
          have e : quoteL (l.take (k + 1)) = quoteL (l.take k) ++ [92, 50, 50] := by rw [quoteL_step HC.out]; unfold quoteC; rw [HODD.out]; rfl
          rw [e, ← List.append_assoc]
          exact HO2.out
         case measure => simp [intOf]; omega
      case inr.inr.inr.inl =>
        obtain rfl : b = 92 := UInt8.toNat_inj.1 (by have : (92 : UInt8).toNat = 92 := rfl; omega)
        have HODD : Hid (odd8 92 = true) := rfl
        have hb1 : bits .and .u8 92 15 = 12 := by decide
        have hd1 : ∀ h, (⟨#[48, 49, 50, 51, 52, 53, 54, 55, 56, 57, 97, 98, 99, 100, 101, 102]⟩ : ByteArray)[5]'h = 53 := fun h => rfl
        have hd2 : ∀ h, (⟨#[48, 49, 50, 51, 52, 53, 54, 55, 56, 57, 97, 98, 99, 100, 101, 102]⟩ : ByteArray)[12]'h = 99 := fun h => rfl
        clear a
        obtain ⟨A2, c2, w2, hap, hown2, hbel2⟩ := append_bytes (w := wr.drew) (base := w.heap.size) (A := A) (n := n) (c := c) (l := [34] ++ quoteL (l.take k)) hown [92, 53, 99] (m := 3) rfl (by omega) hbel.size
        have HO2 := Lib.hid hown2
        have HB2 := Lib.hid ((below_drewN hbel 1).trans hbel2)
        have hap' : (Builtin.append_ #[74, 74] 74 #[.slice A n c, .slice (some ⟨wr.heap.size, 0, none⟩) 3 3]).run Tryd.prog ((wr.alloc (.cells #[.int .u8 92, .int .u8 53, .int .u8 99] 5)).drew) = .ok (.slice A2 (n + 3) c2) w2 := hap
        have HAP := Lib.hid hap'
        clear hown hbel hown2 hbel2 hk hap hap'
        go_wp2_with fail
        go_region_law (refine step_append_run rfl (.tmp 29) (.tmp 36) _ _ rfl (by simp [Act.eval]) (by simp [Act.eval]) HAP.out ?_)
        all_goals
         go_wp2_with fail
         go_roundw
         case rel =>
          refine ⟨k + 1, n + 3, c2, A2, by have := HL.out; omega, by go_num, rfl, ?_, HB2.out⟩
          have e : quoteL (l.take (k + 1)) = quoteL (l.take k) ++ [92, 53, 99] := by rw [quoteL_step HC.out]; unfold quoteC; rw [HODD.out]; rfl
          rw [e, ← List.append_assoc]
          exact HO2.out
         case measure => simp [intOf]; omega
      all_goals
        have HODD : Hid (odd8 b = true) := odd_of (by omega)
        have hb8 : b.toNat < 256 := b.toNat_lt
        have hx1 : 0 ≤ (b.toNat : Int) / 16 ∧ (b.toNat : Int) / 16 < 16 := by omega
        have hx2 : 0 ≤ (b.toNat : Int) % 16 ∧ (b.toNat : Int) % 16 < 16 := by omega
        have hb1 : bits .and .u8 (b.toNat : Int) 15 = (b.toNat : Int) % 16 := u8_and15 (by omega) (by omega)
        have hd1 : ∀ h, (⟨#[48, 49, 50, 51, 52, 53, 54, 55, 56, 57, 97, 98, 99, 100, 101, 102]⟩ : ByteArray)[((b.toNat : Int) / 16).toNat]'h = hexd (b.toNat / 16) := fun h => digs_get (by omega) (by omega) h
        have hd2 : ∀ h, (⟨#[48, 49, 50, 51, 52, 53, 54, 55, 56, 57, 97, 98, 99, 100, 101, 102]⟩ : ByteArray)[((b.toNat : Int) % 16).toNat]'h = hexd (b.toNat % 16) := fun h => digs_get (by omega) (by omega) h
        obtain ⟨A2, c2, w2, hap, hown2, hbel2⟩ := append_bytes (w := wr.drew) (base := w.heap.size) (A := A) (n := n) (c := c) (l := [34] ++ quoteL (l.take k)) hown [92, hexd (b.toNat / 16), hexd (b.toNat % 16)] (m := 3) rfl (by omega) hbel.size
        have HO2 := Lib.hid hown2
        have HB2 := Lib.hid ((below_drewN hbel 1).trans hbel2)
        have hap' : (Builtin.append_ #[74, 74] 74 #[.slice A n c, .slice (some ⟨wr.heap.size, 0, none⟩) 3 3]).run Tryd.prog ((wr.alloc (.cells #[.int .u8 92, .int .u8 ((hexd (b.toNat / 16)).toNat : Int), .int .u8 ((hexd (b.toNat % 16)).toNat : Int)] 5)).drew) = .ok (.slice A2 (n + 3) c2) w2 := hap
        have HAP := Lib.hid hap'
        clear hown hbel hown2 hbel2 hk hap hap'
        go_wp2_with fail
        go_region_law (refine step_append_run rfl (.tmp 29) (.tmp 36) _ _ rfl (by simp [Act.eval]) (by simp [Act.eval]) HAP.out ?_)
        all_goals
         go_wp2_with fail
         go_roundw
         case rel =>
          refine ⟨k + 1, n + 3, c2, A2, by have := HL.out; omega, by go_num, rfl, ?_, HB2.out⟩
          have e : quoteL (l.take (k + 1)) = quoteL (l.take k) ++ [92, hexd (b.toNat / 16), hexd (b.toNat % 16)] := by rw [quoteL_step HC.out]; unfold quoteC; rw [HODD.out]; rfl
          rw [e, ← List.append_assoc]
          exact HO2.out
         case measure => simp [intOf]; omega
    · obtain rfl : k = s.size := by omega
      obtain ⟨A2, c2, w2, hap, hown2, hbel2⟩ := append_bytes hown [34] (m := 1) rfl (by omega) hbel.size
      have e : [34] ++ quoteL (l.take s.size) ++ [34] = quoteB l := by rw [← HL.out, List.take_length]; rfl
      rw [e] at hown2
      have hcv := conv_text Tryd.underlying74 Tryd.underlying5 Tryd.underlying9 (Sl.of_own hown2)
      have HB2 := Lib.hid (hbel.trans hbel2)
      have HAP := Lib.hid hap
      clear hown hbel hown2 hbel2 hk hap e
      go_wp2_with (at_builtin; refine wpList_append_run rfl _ _ _ _ rfl rfl rfl HAP.out ?_)
      go_ret
      exact ⟨rfl, HB2.out⟩
end Go.Proofs.YtincnopaclmppaaDoor
/- Digits and texts, plainly. -/
namespace Go.Proofs.YtincnopaclmppaaDoor
set_option linter.unusedVariables false
open Go.RowKit

theorem dec_big {m : Nat} (h : ¬ m < 10) : Lib.decDigits m = Lib.decDigits (m / 10) ++ [UInt8.ofNat (48 + m % 10)] := by rw [Lib.decDigits, dif_neg h]
theorem dec_small {m : Nat} (h : m < 10) : Lib.decDigits m = [UInt8.ofNat (48 + m % 10)] := by rw [Lib.decDigits, dif_pos h, Nat.mod_eq_of_lt h]
theorem dec_len {m : Nat} (h : m < 18446744073709551616) : (Lib.decDigits m).length ≤ 20 := by
  rw [Lib.decDigits_length]
  exact Lib.nDigits_le20 m h
theorem str_add (a b : List UInt8) : (⟨a.toArray⟩ : ByteArray) ++ ⟨b.toArray⟩ = ⟨(a ++ b).toArray⟩ := by
  have e : ∀ a b : ByteArray, a.data = b.data → a = b := fun a b h => by cases a; cases b; simp_all
  apply e
  simp [ByteArray.data_append]

end Go.Proofs.YtincnopaclmppaaDoor
/- The texts of values: the project's and the reference's. -/
namespace Go.Proofs.YtincnopaclmppaaDoor
set_option linter.unusedVariables false
open Go.RowKit

theorem show_wrong {v : Vl} (h : ¬ v.right) : showB v = [] := by unfold showB; rw [if_neg h]
theorem show1 {n : Int} {s : ByteArray} (h : Vl.right ⟨1, n, s⟩) : showB ⟨1, n, s⟩ = Lib.formatBool (n == 1) := by
  unfold showB
  rw [if_pos h, if_pos rfl]
  by_cases hn : n = 1
  · subst hn; rfl
  · rw [if_neg hn, show (n == 1) = false from by rw [beq_eq_false_iff_ne]; exact hn]; rfl
theorem show2 {n : Int} {s : ByteArray} (h : Vl.right ⟨2, n, s⟩) : showB ⟨2, n, s⟩ = Lib.itoa n := by unfold showB; rw [if_pos h]; simp
theorem show3 {n : Int} {s : ByteArray} (h : Vl.right ⟨3, n, s⟩) : showB ⟨3, n, s⟩ = quoteB s.data.toList := by unfold showB; rw [if_pos h]; simp [Vl.l]
theorem show4 {n : Int} {s : ByteArray} (h : Vl.right ⟨4, n, s⟩) : showB ⟨4, n, s⟩ = 64 :: Lib.itoa n := by unfold showB; rw [if_pos h]; simp
theorem show5 {n : Int} {s : ByteArray} (h : Vl.right ⟨5, n, s⟩) : showB ⟨5, n, s⟩ = 35 :: s.data.toList := by unfold showB; rw [if_pos h]; simp [Vl.l]
theorem ret_str {x y : ByteArray} (h : x = y) : Ending.returned (.string x) = .returned (.string y) := by rw [h]
theorem mk_self (s : ByteArray) : (⟨s.data.toList.toArray⟩ : ByteArray) = s := by simp

theorem str_add_s (a : List UInt8) (s : ByteArray) : (⟨a.toArray⟩ : ByteArray) ++ s = ⟨(a ++ s.data.toList).toArray⟩ := by rw [← str_add, mk_self]

set_option maxHeartbeats 3200000 in
theorem vtext_any (k n : Int) (s : ByteArray) (hn : -9223372036854775808 ≤ n ∧ n ≤ 9223372036854775807) (hs : s.size ≤ 1000000) (w : World) (htab : Tab w) :
    Calls Tryd.prog 67 #[.agg #[.int .i64 k, .int .i64 n, .string s]] w fun e w' => e = .returned (.string ⟨(showB ⟨k, n, s⟩).toArray⟩) ∧ Below w.heap.size w w' := by
  have hr := right_any k n s (by unfold maxLen; omega)
  have ht : ∀ w', Below w.heap.size w w' → Tab w' := fun w' hb => htab.then_ hb
  have HT := Lib.hid ht
  have HN := Lib.hid hn
  have hq := quoted_any s hs
  have HQ := Lib.hid hq
  have HS := Lib.hid (data_len s)
  clear ht htab hn hq
  by_cases h1 : RightV k n s.data.toList
  · rw [decide_eq_true h1] at hr
    have HR := Lib.hid hr
    have H1 : Hid (Vl.right ⟨k, n, s⟩) := h1
    have hkk : k = 1 ∨ k = 2 ∨ k = 3 ∨ k = 4 ∨ k = 5 := by
      rcases kind_cases k with h | h | h | h | h | h
      · exact .inl h
      · exact .inr (.inl h)
      · exact .inr (.inr (.inl h))
      · exact .inr (.inr (.inr (.inl h)))
      · exact .inr (.inr (.inr (.inr h)))
      · exact absurd h1 (rv_none h)
    clear hr h1
    rcases hkk with rfl | rfl | rfl | rfl | rfl
    all_goals
      go_enter Tryd.func67, Tryd.ntmps67
      go_wp2_with fail
      refine (HR.out _).mono ?_
      rintro e w1 ⟨rfl, hb1⟩
      have b1 := ((Bx.made w _ n s).then_ hb1).c3
      have D1 := Lib.hid (Below.lit hb1)
      clear hb1
    · go_wp2_with fail
      refine (Tryd.strconv_FormatBool _ _).mono ?_
      rintro e w2 ⟨rfl, rfl⟩
      go_wp2_with fail
      go_ret
      exact ⟨ret_str (by rw [show1 H1.out]), D1.out⟩
    · go_wp2_with fail
      refine (itoa_any (HT.out _ D1.out) n HN.out.1 HN.out.2).mono ?_
      rintro e w2 ⟨rfl, hb2⟩
      have D2 := Lib.hid (below_step D1.out hb2)
      clear hb2
      go_wp2_with fail
      go_ret
      exact ⟨ret_str (by rw [show2 H1.out]), D2.out⟩
    · go_wp2_with fail
      refine (HQ.out _).mono ?_
      rintro e w2 ⟨rfl, hb2⟩
      have D2 := Lib.hid (below_step D1.out hb2)
      clear hb2
      go_wp2_with fail
      go_ret
      exact ⟨ret_str (by rw [show3 H1.out]), D2.out⟩
    · go_wp2_with fail
      refine (itoa_any (HT.out _ D1.out) n HN.out.1 HN.out.2).mono ?_
      rintro e w2 ⟨rfl, hb2⟩
      have D2 := Lib.hid (below_step D1.out hb2)
      have hlen := Lib.itoa_length_le n HN.out.1 HN.out.2
      have HI := Lib.hid (show (⟨#[64]⟩ : ByteArray) ++ ⟨(Lib.itoa n).toArray⟩ = ⟨(showB ⟨4, n, s⟩).toArray⟩ by
        rw [show4 H1.out, show (⟨#[64]⟩ : ByteArray) = ⟨[64].toArray⟩ from rfl, str_add]; rfl)
      clear hb2
      generalize Lib.itoa n = li at *
      go_wp2_with fail
      go_ret
      exact ⟨ret_str HI.out, D2.out⟩
    · have HI := Lib.hid (show (⟨#[35]⟩ : ByteArray) ++ s = ⟨(showB ⟨5, n, s⟩).toArray⟩ by
        rw [show5 H1.out, show (⟨#[35]⟩ : ByteArray) = ⟨[35].toArray⟩ from rfl, str_add_s]; rfl)
      have hle : ¬ 9223372036854775807 < 1 + s.size := by omega
      go_wp2_with fail
      go_ret
      exact ⟨ret_str HI.out, D1.out⟩
  · rw [decide_eq_false h1] at hr
    have HR := Lib.hid hr
    have H1 : Hid (¬ Vl.right ⟨k, n, s⟩) := h1
    clear hr h1
    go_enter Tryd.func67, Tryd.ntmps67
    go_wp2_with fail
    refine (HR.out _).mono ?_
    rintro e w1 ⟨rfl, hb1⟩
    have D1 := Lib.hid (Below.lit hb1)
    clear hb1
    go_wp2_with fail
    go_ret
    exact ⟨ret_str (by rw [show_wrong H1.out]), D1.out⟩

end Go.Proofs.YtincnopaclmppaaDoor
/- An attribute's text; a match's; a duty's. -/
namespace Go.Proofs.YtincnopaclmppaaDoor
set_option linter.unusedVariables false
open Go.RowKit

theorem bl_app (a b : ByteArray) : bl (a ++ b) = bl a ++ bl b := by
  show (a ++ b).data.toList = _
  rw [ByteArray.data_append, Array.toList_append]
  rfl
theorem bl_mk (l : List UInt8) : bl (⟨l.toArray⟩ : ByteArray) = l := rfl
theorem bl_mka (l : Array UInt8) : bl (⟨l⟩ : ByteArray) = l.toList := rfl
theorem ret_text {x : ByteArray} {l : List UInt8} (h : bl x = l) : Ending.returned (.string x) = .returned (.string ⟨l.toArray⟩) := ret_str (text_eq h)
theorem word_size {l : List UInt8} {n : Nat} (h : l.length ≤ n) : (⟨l.toArray⟩ : ByteArray).size ≤ n := h

set_option maxHeartbeats 800000 in
theorem show_attr (a : Atr) (hok : a.ok) (w : World) (ht : Tbl w) :
    Calls Tryd.prog 68 #[.agg #[.int .i64 a.cat, .string a.name, .bool a.must]] w fun e w' => e = .returned (.string ⟨(attrS a).toArray⟩) ∧ Below w.heap.size w w' := by
  have hcon := fun W => attr_any a hok W
  have HT := Lib.hid ht
  obtain ⟨c, nm, mu⟩ := a
  by_cases h : attrB ⟨c, nm, mu⟩ = true
  · have hall := h
    unfold attrB at hall
    simp only [Bool.and_eq_true, decide_eq_true_eq] at hall
    obtain ⟨⟨h1, h4⟩, hn⟩ := hall
    have hsz : nm.size ≤ 16 := hn.1.2
    have hi : 0 ≤ c ∧ c < 5 := by omega
    obtain ⟨x, hx⟩ : ∃ x : ByteArray, x = ⟨(catW c).toArray⟩ := ⟨_, rfl⟩
    have hxs : x.size ≤ 7 := by rw [hx]; exact word_size (catW_len c)
    have HE : Hid (attrS ⟨c, nm, mu⟩ = bl x ++ 46 :: (bl nm ++ if mu = true then [33] else [])) := by
      show attrS _ = _
      unfold attrS
      rw [if_pos h, hx]
      rfl
    have HG : Hid (∀ W, Below w.heap.size w W → W.cell? ⟨5, c.toNat, none⟩ = some (.string x)) := fun W hb => by
      rw [hx]; exact (HT.out.then_ hb).cat h1 h4
    rw [h] at hcon
    have HC := Lib.hid hcon
    clear hcon ht hok h hn hx h1 h4
    generalize attrS ⟨c, nm, mu⟩ = r at *
    cases mu
    all_goals
      go_enter Tryd.func68, Tryd.ntmps68
      go_wp2_with (go_at_call 73; refine (HC.out _).mono ?_; rintro e w1 ⟨rfl, hb1⟩; have B1 := Lib.hid (Below.lit hb1); have C1 := Lib.hid (Ob.below (Ob.made _ _ _) hb1 (by simp)); have c0 := C1.out.cell 0; have c1 := C1.out.cell 1; have c2 := C1.out.cell 2)
      have hg := HG.out _ B1.out
      clear hb1
      go_quiet (fail)
      go_wp2_with fail
      go_ret
      refine ⟨ret_text ?_, below_drewN B1.out _⟩
      rw [HE.out]
      simp [bl_app, bl_mka]
  · rw [Bool.not_eq_true] at h
    have HE : Hid (attrS ⟨c, nm, mu⟩ = []) := by
      show attrS _ = _
      unfold attrS
      rw [if_neg (by rw [h]; simp)]
    rw [h] at hcon
    have HC := Lib.hid hcon
    clear hcon ht hok h
    generalize attrS ⟨c, nm, mu⟩ = r at *
    go_enter Tryd.func68, Tryd.ntmps68
    go_wp2_with (go_at_call 73; refine (HC.out _).mono ?_; rintro e w1 ⟨rfl, hb1⟩; have B1 := Lib.hid (Below.lit hb1))
    go_ret
    exact ⟨ret_text (by rw [HE.out]; rfl), B1.out⟩

theorem show_effect (b : Bool) (w : World) : Calls Tryd.prog 45 #[.bool b] w fun e w' => e = .returned (.string ⟨(effW b).toArray⟩) ∧ w' = w := by
  cases b
  all_goals
    go_enter Tryd.func45, Tryd.ntmps45
    go_wp2_with fail
    go_ret
    exact ⟨rfl, rfl⟩
theorem show_takes (op : Int) (w : World) : Calls Tryd.prog 57 #[.int .i64 op] w fun e w' => e = .returned (.int .i64 (takesN op)) ∧ w' = w := by
  have two : (op = 1 ∨ op = 2 ∨ op = 3 ∨ op = 4 ∨ op = 11) ∨ ((op == 1) = false ∧ (op == 2) = false ∧ (op == 3) = false ∧ (op == 4) = false ∧ (op == 11) = false) := by
    simp only [beq_eq_false_iff_ne]; omega
  rcases two with (rfl | rfl | rfl | rfl | rfl) | ⟨h1, h2, h3, h4, h11⟩
  case inr =>
    have HE := Lib.hid (show takesN op = 2 by simp only [beq_eq_false_iff_ne] at *; unfold takesN; simp [h1, h2, h3, h4, h11])
    go_enter Tryd.func57, Tryd.ntmps57
    go_wp2_with fail
    go_ret
    exact ⟨ret_int (by rw [HE.out]; rfl), rfl⟩
  all_goals
    go_enter Tryd.func57, Tryd.ntmps57
    go_wp2_with fail
    go_ret
    exact ⟨rfl, rfl⟩
end Go.Proofs.YtincnopaclmppaaDoor
/- A match's text; a duty's. -/
namespace Go.Proofs.YtincnopaclmppaaDoor
set_option linter.unusedVariables false
open Go.RowKit Go.Sort

theorem right_small {v : Vl} (h : v.right) : v.s.size ≤ 1000000 := by
  have hr := h
  unfold Vl.right RightV at hr
  have e : v.s.size = v.l.length := rfl
  rw [e]
  rcases hr with ⟨_, h, _⟩ | ⟨_, h⟩ | ⟨_, _, h⟩ | ⟨_, h, _⟩ | ⟨_, _, h, _⟩
  · rw [h]; simp
  · rw [h]; simp
  · omega
  · rw [h]; simp
  · omega
theorem al9' (w : World) (o : Obj) : Below w.heap.size w (w.alloc o) := (Below.refl _ _).alloc (Nat.le_refl _) _

set_option maxHeartbeats 800000 in
theorem show_match (m : Mat) (hok : m.ok) (hm : matE m = 0) (w : World) (ht : Tbl w) :
    Calls Tryd.prog 66 #[.agg #[.int .i64 m.a.cat, .string m.a.name, .bool m.a.must, .int .i64 m.op, .int .i64 m.v.k, .int .i64 m.v.n, .string m.v.s]] w fun e w' => e = .returned (.string ⟨(matT m).toArray⟩) ∧ Below w.heap.size w w' := by
  obtain ⟨ha, ho, hv⟩ := matE_all hm
  have hal := attr_len ha
  have hvl := val_len hv hok.2.2.2.1
  have hsz := hok.2.2.2.2
  obtain ⟨x, hx⟩ : ∃ x : ByteArray, x = ⟨(attrS m.a).toArray⟩ := ⟨_, rfl⟩
  obtain ⟨y, hy⟩ : ∃ x : ByteArray, x = ⟨(cmpW m.op).toArray⟩ := ⟨_, rfl⟩
  obtain ⟨z, hz⟩ : ∃ x : ByteArray, x = ⟨(showB m.v).toArray⟩ := ⟨_, rfl⟩
  have hxs : x.size ≤ 25 := by rw [hx]; exact word_size hal
  have hys : y.size ≤ 1 := by rw [hy]; exact word_size (cmpW_len _)
  have hzs : z.size ≤ 400 := by rw [hz]; exact word_size hvl
  have hs64 : m.v.s.size ≤ 1000000 := by
    have h := right_small hv
    exact h
  have HT : Hid (∀ W, Below w.heap.size w W → Tbl W) := fun W hb => ht.then_ hb
  have QA : ∀ W, Below w.heap.size w W → ∀ d os, Calls Tryd.prog 68 #[.agg #[.int .i64 m.a.cat, .string m.a.name, .bool m.a.must]] (grow (redrawn W d) os) fun e w'' => e = .returned (.string x) ∧ ∃ p : Regrown, w'' = grow (redrawn W p.d) p.os := fun W hb d os => by
    rw [hx]; exact Calls.regrown_of (show_attr m.a hok.1 _ (HT.out _ (hb.trans ((below_regrown W d os).mono hb.size))))
  have QV : ∀ W, Below w.heap.size w W → ∀ d os, Calls Tryd.prog 67 #[.agg #[.int .i64 m.v.k, .int .i64 m.v.n, .string m.v.s]] (grow (redrawn W d) os) fun e w'' => e = .returned (.string z) ∧ ∃ p : Regrown, w'' = grow (redrawn W p.d) p.os := fun W hb d os => by
    rw [hz]; exact Calls.regrown_of (vtext_any m.v.k m.v.n m.v.s hok.2.2.2.1 hs64 _ (HT.out _ (hb.trans ((below_regrown W d os).mono hb.size))).tab)
  have hG : ∀ W, Below w.heap.size w W → ∀ d os, (grow (redrawn W d) os).cell? ⟨4, m.op.toNat, none⟩ = some (.string y) := fun W hb d os => by
    rw [hy]; exact (HT.out _ (hb.trans ((below_regrown W d os).mono hb.size))).cmp (by omega) (by omega)
  have HQA := Lib.hid QA
  have HQV := Lib.hid QV
  have HG := Lib.hid hG
  have HE : Hid (bl x ++ 32 :: (bl y ++ 32 :: bl z) = matT m) := by rw [hx, hy, hz]; rfl
  generalize matT m = r at *
  obtain ⟨⟨ac, an, am⟩, op, ⟨vk, vn, vs⟩⟩ := m
  simp only at ho HQA HQV HG ⊢
  have hi : 0 ≤ op ∧ op < 4 := by omega
  clear QA QV hG hx hy hz ht hok hm ha hv hal hvl ho hsz hs64
  go_enter Tryd.func66, Tryd.ntmps66
  go_wp2_with fail
  have C1 := Lib.hid (Ob.made w 54 #[.int .i64 ac, .string an, .bool am, .int .i64 op, .int .i64 vk, .int .i64 vn, .string vs])
  have B0 := Lib.hid (al9' w (.cells #[.int .i64 ac, .string an, .bool am, .int .i64 op, .int .i64 vk, .int .i64 vn, .string vs] 54))
  have Q1 := Lib.hid (HQA.out _ B0.out)
  have Q2 := Lib.hid (HQV.out _ B0.out)
  have g1 := HG.out _ B0.out
  have x0 := fun d os => cell_regrown (C1.out.cell 0) d os
  have x1 := fun d os => cell_regrown (C1.out.cell 1) d os
  have x2 := fun d os => cell_regrown (C1.out.cell 2) d os
  have x3 := fun d os => cell_regrown (C1.out.cell 3) d os
  have x4 := fun d os => cell_regrown (C1.out.cell 4) d os
  have x5 := fun d os => cell_regrown (C1.out.cell 5) d os
  have x6 := fun d os => cell_regrown (C1.out.cell 6) d os
  refine wp_region_quiet_below (by kernel_rfl) (by kernel_rfl) ?_
  repeat (go_big_quiet_step (first
    | (go_at_call 68; exact Q1.out _ _)
    | (go_at_call 67; exact Q2.out _ _)))
  refine wpQuiet_nil ?_
  intro _ hw'
  obtain ⟨⟨dq, osq⟩, hw''⟩ := hw'
  subst hw''
  have BQ := Lib.hid (below_regrown (w.alloc (.cells #[.int .i64 ac, .string an, .bool am, .int .i64 op, .int .i64 vk, .int .i64 vn, .string vs] 54)) dq osq)
  generalize grow (redrawn _ dq) osq = w2 at *
  go_wp2_with fail
  go_ret
  refine ⟨ret_text ?_, B0.out.trans (BQ.out.mono B0.out.size)⟩
  rw [← HE.out]
  simp [bl_app, bl_mka]

set_option maxHeartbeats 800000 in
theorem show_duty (m : Dut) (hok : m.ok) (hm : dutE m = 0) (w : World) (ht : Tbl w) :
    Calls Tryd.prog 30 #[.agg #[.int .i64 m.on, .int .i64 m.kind, .string m.arg]] w fun e w' => e = .returned (.string ⟨(dutT m).toArray⟩) ∧ Below w.heap.size w w' := by
  obtain ⟨ho, hk, hn⟩ := dutE_all hm
  have hzs : m.arg.size ≤ 16 := hn.1.2
  obtain ⟨b, hb⟩ : ∃ b : Bool, b = decide (m.on = 2) := ⟨_, rfl⟩
  obtain ⟨x, hx⟩ : ∃ x : ByteArray, x = ⟨(effW b).toArray⟩ := ⟨_, rfl⟩
  obtain ⟨y, hy⟩ : ∃ x : ByteArray, x = ⟨(doW m.kind).toArray⟩ := ⟨_, rfl⟩
  have hxs : x.size ≤ 6 := by rw [hx]; exact word_size (effW_len b)
  have hys : y.size ≤ 6 := by rw [hy]; exact word_size (doW_len _)
  have h2 : (m.on == 2) = b := by rw [hb]; rfl
  have HT : Hid (∀ W, Below w.heap.size w W → Tbl W) := fun W hb => ht.then_ hb
  have QA : ∀ W, Below w.heap.size w W → ∀ d os, Calls Tryd.prog 45 #[.bool b] (grow (redrawn W d) os) fun e w'' => e = .returned (.string x) ∧ ∃ p : Regrown, w'' = grow (redrawn W p.d) p.os := fun W hb d os => by
    rw [hx]; exact Calls.regrown_of ((show_effect b _).mono fun e w' h => ⟨h.1, by rw [h.2]; exact Below.refl _ _⟩)
  have hG : ∀ W, Below w.heap.size w W → ∀ d os, (grow (redrawn W d) os).cell? ⟨1, m.kind.toNat, none⟩ = some (.string y) := fun W hb d os => by
    rw [hy]; exact (HT.out _ (hb.trans ((below_regrown W d os).mono hb.size))).do (by omega) (by omega)
  have HQA := Lib.hid QA
  have HG := Lib.hid hG
  have HE : Hid ([111, 110, 32] ++ (bl x ++ 32 :: (bl y ++ 32 :: bl m.arg)) = dutT m) := by rw [hx, hy, hb]; rfl
  generalize dutT m = r at *
  obtain ⟨on, kd, nm⟩ := m
  simp only at ho hk hzs h2 HQA HG ⊢
  have hi : 0 ≤ kd ∧ kd < 5 := by omega
  clear QA hG hx hy hb ht hok hm hn ho hk
  go_enter Tryd.func30, Tryd.ntmps30
  go_wp2_with fail
  have C1 := Lib.hid (Ob.made w 60 #[.int .i64 on, .int .i64 kd, .string nm])
  have B0 := Lib.hid (al9' w (.cells #[.int .i64 on, .int .i64 kd, .string nm] 60))
  have Q1 := Lib.hid (HQA.out _ B0.out)
  have g1 := HG.out _ B0.out
  have x0 := fun d os => cell_regrown (C1.out.cell 0) d os
  have x1 := fun d os => cell_regrown (C1.out.cell 1) d os
  have x2 := fun d os => cell_regrown (C1.out.cell 2) d os
  refine wp_region_quiet_below (by kernel_rfl) (by kernel_rfl) ?_
  repeat (go_big_quiet_step ((go_at_call 45; exact Q1.out _ _)))
  refine wpQuiet_nil ?_
  intro _ hw'
  obtain ⟨⟨dq, osq⟩, hw''⟩ := hw'
  subst hw''
  have BQ := Lib.hid (below_regrown (w.alloc (.cells #[.int .i64 on, .int .i64 kd, .string nm] 60)) dq osq)
  generalize grow (redrawn _ dq) osq = w2 at *
  go_wp2_with fail
  go_ret
  refine ⟨ret_text ?_, B0.out.trans (BQ.out.mono B0.out.size)⟩
  rw [← HE.out]
  simp [bl_app, bl_mka]
end Go.Proofs.YtincnopaclmppaaDoor
/- append of one cell to a row of the call's own. -/
namespace Go.Proofs.YtincnopaclmppaaDoor
set_option linter.unusedVariables false
open Go.RowKit

theorem append_cell {P : Program} {T E : TypeId} {i : TypeInfo} {z x : Value} {by_ : Nat} (ht : P.underlying T = some (.slice E)) (hi : P.info? E = some i) (hz : i.zero = some z) (hz1 : z.oneCell' = true) (hs : i.size = 1) (hb : i.bytes = by_) (hby : by_ ≤ 1000) (h1 : x.oneCell' = true)
    {w : World} {base n c ty : Nat} {A : Option Addr} {xs : List Value} (h : w.ownsRow base E 1 (.slice A n c) n xs) (hn : n ≤ 1000000) (hbase : base ≤ w.heap.size) :
    ∃ A' c' w', (Builtin.append_ #[T, T] ty #[.slice A n c, .slice (some ⟨w.heap.size, 0, none⟩) 1 1]).run P (w.alloc (.cells #[x] E)) = .ok (.slice A' (n + 1) c') w' ∧
      w'.ownsRow base E 1 (.slice A' (n + 1) c') (n + 1) (xs ++ [x]) ∧ Below base w w' := by
  obtain ⟨v', w', hrun, h2, h3, h4⟩ := run_append_own (P := P) (w.alloc (.cells #[x] E)) base T ty E i z 1 by_ ht hi hz hs hb (by cases z <;> first | rfl | cases hz1) (by omega) (.slice A n c) n xs (h.alloc _)
    ⟨w.heap.size, 0, none⟩ 1 1 [x] rfl (by
      intro j u hu
      match j, hu with
      | 0, hu => simp at hu; subst hu; simp [Addr.add, World.cell?_alloc_at]
      | j + 1, hu => simp at hu) (by simpa using h1) (by unfold maxLen; omega) (by
        have : (n + 1) * by_ ≤ 1000001 * 1000 := Nat.mul_le_mul (by omega) hby
        omega) (by simp; omega)
  have hform : ∃ A' c', v' = .slice A' (n + 1) c' := by
    rcases h2.2 with ⟨_, hz⟩ | ⟨g, cap, cur, hv, _⟩
    · omega
    · exact ⟨_, _, hv⟩
  obtain ⟨A', c', rfl⟩ := hform
  refine ⟨A', c', w', hrun, h2, ?_⟩
  refine ((Below.refl base w).alloc hbase _).grown h3 (by simp; omega) (fun k hk => ?_)
  exact (h.lt k hk).1
end Go.Proofs.YtincnopaclmppaaDoor
/- append of many cells, one each, to a row of the call's own; what it leaves alone. -/
namespace Go.Proofs.YtincnopaclmppaaDoor
set_option linter.unusedVariables false
open Go.RowKit

theorem append_cells {P : Program} {T E : TypeId} {i : TypeInfo} {z : Value} {by_ : Nat} (ht : P.underlying T = some (.slice E)) (hi : P.info? E = some i) (hz : i.zero = some z) (hz1 : z.oneCell' = true) (hs : i.size = 1) (hb : i.bytes = by_) (hby : by_ ≤ 1000)
    {w : World} {base B n c m c2 ty : Nat} {A A2 : Option Addr} {xs ys : List Value} (h : w.ownsRow base E 1 (.slice A n c) n xs) (hy : Sl w B A2 m c2 ys) (h1 : ∀ v ∈ ys, v.oneCell' = true)
    (hn : n + m ≤ 1000000) (hbase : base ≤ w.heap.size) :
    ∃ A' c' w', (Builtin.append_ #[T, T] ty #[.slice A n c, .slice A2 m c2]).run P w = .ok (.slice A' (n + m) c') w' ∧
      w'.ownsRow base E 1 (.slice A' (n + m) c') (n + m) (xs ++ ys) ∧ Below base w w' ∧ w.grownBy w' (Value.slice A n c).ownBlock ∧
      ((Value.slice A' (n + m) c').ownBlock = (Value.slice A n c).ownBlock ∨ (Value.slice A' (n + m) c').ownBlock = some w.heap.size) := by
  have hlen := hy.len
  have fin : ∀ (ad : Addr), A2 = some ad → (∀ j u, ys[j]? = some u → w.cell? (ad.add j) = some u) → ∃ A' c' w', (Builtin.append_ #[T, T] ty #[.slice A n c, .slice A2 m c2]).run P w = .ok (.slice A' (n + m) c') w' ∧
      w'.ownsRow base E 1 (.slice A' (n + m) c') (n + m) (xs ++ ys) ∧ Below base w w' ∧ w.grownBy w' (Value.slice A n c).ownBlock ∧
      ((Value.slice A' (n + m) c').ownBlock = (Value.slice A n c).ownBlock ∨ (Value.slice A' (n + m) c').ownBlock = some w.heap.size) := by
    rintro ad rfl hc
    have hb2 : (n + m) * by_ ≤ 1000000 * 1000 := Nat.mul_le_mul hn hby
    obtain ⟨v', w', hrun, h2, h3, h4, h5⟩ := run_append_own_at (P := P) w base T ty E i z 1 by_ ht hi hz hs hb (by cases z <;> first | rfl | cases hz1) (by omega) (.slice A n c) n xs h
      ad m c2 ys (by omega) hc h1 (by unfold maxLen; omega) (by omega) hbase
    have hform : ∃ A' c', v' = .slice A' (n + m) c' := by
      rcases h2.2 with ⟨hv, hz⟩ | ⟨g, cap, cur, hv, _⟩
      · exact ⟨_, _, by rw [hv, hz]⟩
      · exact ⟨_, _, hv⟩
    obtain ⟨A', c', rfl⟩ := hform
    exact ⟨A', c', w', hrun, h2, (Below.refl base w).grown h3 hbase (fun k hk => (h.lt k hk).1), h3, h5⟩
  rcases hy.2.2.2 with h0 | ⟨b, o, e, hb', hc⟩
  · subst h0
    obtain rfl : ys = [] := List.eq_nil_of_length_eq_zero hlen
    rcases A2 with _ | ad
    · exact ⟨A, c, w, append_nil_src ht hi h, by simpa using h, Below.refl _ _, ⟨rfl, rfl, rfl, Nat.le_refl _, fun _ _ _ => rfl⟩, .inl rfl⟩
    · exact fin ad rfl (fun j u hu => by simp at hu)
  · refine fin _ e fun j u hu => ?_
    have := hc j u hu
    by_cases hj : j = 0
    · subst hj; simpa [Addr.add] using this
    · simpa [Addr.add, hj] using this

/-- A slice that lies in one block is kept by whatever keeps that block. -/
theorem Sl.keep1 {w w' : World} {B n c : Nat} {A : Option Addr} {xs : List Value} (h : Sl w B A n c xs) (hk : ∀ ad, A = some ad → w'.heap[ad.block]? = w.heap[ad.block]?) : Sl w' B A n c xs := by
  obtain ⟨h1, h2, h3, h4⟩ := h
  refine ⟨h1, h2, h3, ?_⟩
  rcases h4 with h4 | ⟨b, o, e, hb, hc⟩
  · exact .inl h4
  · have hk' : w'.heap[b]? = w.heap[b]? := hk _ e
    exact .inr ⟨b, o, e, hb, fun j u hu => (World.cell?_of_block (a := ⟨b, o + j, none⟩) hk').trans (hc j u hu)⟩
/-- .. by an append to a row that lies elsewhere. -/
theorem Sl.grown {w w' : World} {n c : Nat} {A : Option Addr} {xs : List Value} {v : Value} (h : Sl w w.heap.size A n c xs) (g : w.grownBy w' v.ownBlock) (hne : ∀ ad, A = some ad → v.ownBlock ≠ some ad.block) : Sl w' w'.heap.size A n c xs := by
  rcases Nat.eq_zero_or_pos n with h0 | h0
  · subst h0
    exact ⟨h.1, h.2.1, h.2.2.1, .inl rfl⟩
  · refine (h.keep1 fun ad e => g.block ad.block ?_ ?_).more g.size
    · obtain ⟨b, o, u, e', hb, _⟩ := h.at_ h0
      rw [e] at e'
      injection e' with e'
      subst e'
      exact hb
    · exact fun hh => hne ad e hh.symm
end Go.Proofs.YtincnopaclmppaaDoor
/- Rows of texts: one more, many more, all of them joined. -/
namespace Go.Proofs.YtincnopaclmppaaDoor
set_option linter.unusedVariables false
open Go.RowKit

def tv (xs : List (List UInt8)) : List Value := xs.map fun l => Value.string ⟨l.toArray⟩
theorem tv_len (xs : List (List UInt8)) : (tv xs).length = xs.length := List.length_map ..
theorem tv_app (a b : List (List UInt8)) : tv (a ++ b) = tv a ++ tv b := List.map_append
theorem tv_one (x : List UInt8) : tv [x] = [.string ⟨x.toArray⟩] := rfl
theorem tv_cell (xs : List (List UInt8)) : ∀ v ∈ tv xs, v.oneCell' = true := by
  intro v hv
  obtain ⟨l, _, rfl⟩ := List.mem_map.1 hv
  rfl
theorem strinfo : (Tryd.prog.info? 9).map (fun i => (i.zero, i.size, i.bytes)) = some (some (.string ⟨#[]⟩), 1, 16) := by kernel_rfl
/-- A row of texts of the call's own. -/
def TR (w : World) (base : Nat) (A : Option Addr) (n c : Nat) (xs : List (List UInt8)) : Prop := w.ownsRow base 9 1 (.slice A n c) n (tv xs)
section
variable {w w' : World} {base n c : Nat} {A : Option Addr} {xs : List (List UInt8)}
theorem TR.len (h : TR w base A n c xs) : xs.length = n := by
  have := h.1
  rwa [tv_len, Nat.mul_one] at this
theorem TR.nil (w : World) (base : Nat) : TR w base none 0 0 [] := ⟨rfl, .inl ⟨rfl, rfl⟩⟩
theorem TR.sl (h : TR w base A n c xs) : Sl w w.heap.size A n c (tv xs) := Sl.of_own h
theorem TR.lt (h : TR w base A n c xs) : ∀ b, (Value.slice A n c).ownBlock = some b → base ≤ b ∧ b < w.heap.size := World.ownsRow.lt h
theorem TR.below (h : TR w base A n c xs) (hb : Below w.heap.size w w') : TR w' base A n c xs := by
  have hg : w.grownBy w' none := ⟨hb.os, hb.tape, hb.output, hb.size, fun k hk _ => hb.block k hk⟩
  refine World.ownsRow.kept h hg ?_
  cases hv : (Value.slice A n c).ownBlock with
  | none => exact .inl rfl
  | some b => exact .inr (by simp)
theorem TR.less (h : TR w base A n c xs) {b2 : Nat} (hb : b2 ≤ base) : TR w b2 A n c xs := by
  obtain ⟨h1, h2⟩ := h
  refine ⟨h1, ?_⟩
  rcases h2 with h2 | ⟨g, cap, cur, hv, hg, r⟩
  · exact .inl h2
  · exact .inr ⟨g, cap, cur, hv, Nat.le_trans hb hg, r⟩
/-- Its beginning is one, too. -/
theorem TR.take (h : TR w base A n c xs) {m : Nat} (hm : m ≤ n) : TR w base A m c (xs.take m) := by
  have hl := h.len
  obtain ⟨h1, h2⟩ := h
  refine ⟨by rw [tv_len, List.length_take]; omega, ?_⟩
  rcases h2 with ⟨hv, hn⟩ | ⟨g, cap, cur, hv, hg, hh, hnc, hcm, hs, ht⟩
  · injection hv with e1 e2 e3
    exact .inl ⟨by rw [e1, e3, show m = 0 by omega], by omega⟩
  · injection hv with e1 e2 e3
    refine .inr ⟨g, cap, cur, by rw [e1, e3], hg, hh, by omega, hcm, hs, ?_⟩
    rw [Nat.mul_one] at ht ⊢
    unfold tv at ht ⊢
    rw [List.map_take, ← ht, List.take_take, Nat.min_eq_left hm]
theorem TR.push (h : TR w base A n c xs) (x : ByteArray) (hn : n ≤ 1000000) (hbase : base ≤ w.heap.size) (ty : Nat) :
    ∃ A' c' w', (Builtin.append_ #[63, 63] ty #[.slice A n c, .slice (some ⟨w.heap.size, 0, none⟩) 1 1]).run Tryd.prog (w.alloc (.cells #[.string x] 9)) = .ok (.slice A' (n + 1) c') w' ∧
      TR w' base A' (n + 1) c' (xs ++ [bl x]) ∧ Below base w w' := by
  obtain ⟨i, hi, hz, hs, hb⟩ := info_of strinfo
  obtain ⟨A', c', w', r, o, b⟩ := append_cell (ty := ty) (x := .string x) Tryd.underlying63 hi hz rfl hs hb (by omega) rfl h hn hbase
  refine ⟨A', c', w', r, ?_, b⟩
  unfold TR
  rw [tv_app, tv_one, bl_toArray]
  exact o
theorem TR.app {B m c2 : Nat} {A2 : Option Addr} {ys : List (List UInt8)} (h : TR w base A n c xs) (hy : Sl w B A2 m c2 (tv ys)) (hn : n + m ≤ 1000000) (hbase : base ≤ w.heap.size) (ty : Nat) :
    ∃ A' c' w', (Builtin.append_ #[63, 63] ty #[.slice A n c, .slice A2 m c2]).run Tryd.prog w = .ok (.slice A' (n + m) c') w' ∧
      TR w' base A' (n + m) c' (xs ++ ys) ∧ Below base w w' := by
  obtain ⟨i, hi, hz, hs, hb⟩ := info_of strinfo
  obtain ⟨A', c', w', r, o, b, _, _⟩ := append_cells (ty := ty) Tryd.underlying63 hi hz rfl hs hb (by omega) h hy (tv_cell ys) hn hbase
  refine ⟨A', c', w', r, ?_, b⟩
  unfold TR
  rw [tv_app]
  exact o
/-- A literal of so many texts. -/
theorem TR.lit (w : World) (xs : List ByteArray) {n : Nat} (hn : xs.length = n) (h : n ≤ 1000) : TR (w.alloc (.cells (xs.map Value.string).toArray 9)) w.heap.size (some ⟨w.heap.size, 0, none⟩) n n (xs.map bl) := by
  have e : tv (xs.map bl) = xs.map Value.string := by
    unfold tv
    rw [List.map_map]
    refine List.map_congr_left fun x _ => ?_
    show Value.string ⟨(bl x).toArray⟩ = .string x
    rw [bl_toArray]
  unfold TR
  rw [e]
  refine ⟨by simp; omega, .inr ⟨w.heap.size, n, _, rfl, Nat.le_refl _, heap_alloc_new w _, Nat.le_refl _, by unfold maxLen; omega, by simp; omega, ?_⟩⟩
  rw [Nat.mul_one, ← hn]
  show List.take xs.length (xs.map Value.string) = _
  rw [List.take_of_length_le (by simp)]
end
/-- All of them joined. -/
theorem join_row {w : World} {B n c : Nat} {A : Option Addr} {xs : List (List UInt8)} (h : Sl w B A n c (tv xs)) (hB : B ≤ w.heap.size) (hN : n ≤ 1000000) (sep : ByteArray) (hlen : (Lib.join xs (bl sep)).length ≤ 140737488355328) :
    Calls Tryd.prog 14 #[.slice A n c, .string sep] w fun e w' => e = .returned (.string ⟨(Lib.join xs (bl sep)).toArray⟩) ∧ Below w.heap.size w w' := by
  have hl : xs.length = n := by have := h.len; rwa [tv_len] at this
  have hc := h.cap
  unfold maxLen at hc
  rcases h.2.2.2 with h0 | ⟨b, o, e, hb, hcell⟩
  · subst h0
    obtain rfl : xs = [] := List.eq_nil_of_length_eq_zero hl
    exact (Tryd.strings_Join_none A c sep w).mono fun e w' hh => ⟨by rw [hh.1]; rfl, by rw [hh.2]; exact Below.refl _ _⟩
  · subst e
    have e2 : (xs.map fun l => (⟨l.toArray⟩ : ByteArray)).map (fun s => s.data.toList) = xs := by rw [List.map_map]; exact List.map_id' xs
    have := Tryd.strings_Join b o c (xs.map fun l => (⟨l.toArray⟩ : ByteArray)) sep w (fun j x hx => hcell j _ (by
      rw [List.getElem?_map, Option.map_eq_some_iff] at hx
      obtain ⟨l, h1, rfl⟩ := hx
      unfold tv
      rw [List.getElem?_map, h1]
      rfl)) (by omega) (by rw [List.length_map]; have := h.le; omega) (by rw [List.length_map]; have := h.le; omega) (by rw [e2]; exact hlen)
    rw [e2, List.length_map, hl] at this
    exact this
end Go.Proofs.YtincnopaclmppaaDoor
/- The texts of a list's elements: the project's texts, over matches, AllOfs, AnyOfs, duties; a target's words by it. -/
namespace Go.Proofs.YtincnopaclmppaaDoor
set_option linter.unusedVariables false
open Go.RowKit Go.Sort

theorem tail_take {α : Type} {f : α → List UInt8} {l : List α} {k : Nat} {x : α} (hx : l[k]? = some x) : (l.take (k + 1)).map f = (l.take k).map f ++ [f x] := by
  rw [take_next hx, List.map_append]
  rfl

set_option maxHeartbeats 1600000 in
theorem texts_match {w : World} {R : Nat → Prop} {A : Option Addr} {n c : Nat} {l : List Mat} (h : Ms w R A n c l) (hn : n ≤ 1000) (hf : ∀ x ∈ l, matE x = 0) (ht : Tbl w) :
    Calls Tryd.prog 65 #[.slice A n c, .func (.func 66) #[] #[]] w fun e w' => ∃ A' c', e = .returned (.slice A' n c') ∧ TR w' w.heap.size A' n c' (l.map matT) ∧ Below w.heap.size w w' := by
  have hle := Rw.le h
  have hcap := Rw.cap h
  have HL := Lib.hid (Rw.len h)
  unfold maxLen at hcap
  have H := Lib.hid h
  have HF := Lib.hid hf
  have HT := Lib.hid ht
  clear h hf ht
  go_enter Tryd.func65, Tryd.ntmps65
  go_wp2
  go_loopw [5, 10] (fun o i wr => ∃ (k : Nat) (B : Option Addr) (d : Nat), k ≤ n ∧ o = .slice B k d ∧ i = .int .i64 k ∧ TR wr w.heap.size B k d ((l.take k).map matT) ∧ Below w.heap.size w wr) (fun _ i _ => n - (intOf i).toNat)
  case atStart => exact ⟨0, none, 0, Nat.zero_le _, rfl, rfl, TR.nil _ _, Below.refl _ _⟩
  case round =>
    obtain ⟨k, B, d, hk, rfl, rfl, hr, hb⟩ := hrel
    have HR := Lib.hid hr
    have HB := Lib.hid hb
    clear hr hb
    by_cases hlt : k < n
    · obtain ⟨b, o, x, rfl, hRb, hbl, hx, hok, c0, c1, c2, c3, c4, c5, c6⟩ := (H.out.keep (Kept.all HB.out R) (fun _ h _ => h)).at_ hlt
      have HX := Lib.hid hx
      have HC := Lib.hid (fun W (hb : Below wr.heap.size wr W) => show_match x hok (HF.out x (List.mem_of_getElem? hx)) W (HT.out.then_ (below_step HB.out hb)))
      clear hx
      go_wp2_with (first
        | (go_at_call 66
           refine (HC.out _ (by first | exact al9' _ _ | exact Below.refl _ _)).mono ?_
           rintro e w1 ⟨rfl, hb1⟩
           have HB1 := Lib.hid (below_step HB.out (by first | exact Below.lit hb1 | exact hb1))
           obtain ⟨B', d', w2, hap, hr2, hb2⟩ := (HR.out.below (show Below wr.heap.size wr w1 by first | exact Below.lit hb1 | exact hb1)).push ⟨(matT x).toArray⟩ (by omega) HB1.out.size 63
           have HAP := Lib.hid hap
           have HR2 := Lib.hid hr2
           have HB2 := Lib.hid (HB1.out.trans hb2)
           clear hap hr2 hb2 hb1)
        | (at_builtin; refine wpList_append_run rfl _ _ _ _ rfl rfl rfl HAP.out ?_))
      go_roundw
      case rel => exact ⟨k + 1, B', d', by omega, rfl, by go_num, by rw [tail_take HX.out]; exact HR2.out, HB2.out⟩
      case measure => simp [intOf]; omega
    · obtain rfl : k = n := by omega
      go_wp2
      go_ret
      exact ⟨B, d, rfl, by have := HR.out; rwa [List.take_of_length_le (by rw [HL.out]; exact Nat.le_refl _)] at this, HB.out⟩

set_option maxHeartbeats 1600000 in
theorem texts_duty {w : World} {R : Nat → Prop} {A : Option Addr} {n c : Nat} {l : List Dut} (h : Dus w R A n c l) (hn : n ≤ 1000) (hf : ∀ x ∈ l, dutE x = 0) (ht : Tbl w) :
    Calls Tryd.prog 29 #[.slice A n c, .func (.func 30) #[] #[]] w fun e w' => ∃ A' c', e = .returned (.slice A' n c') ∧ TR w' w.heap.size A' n c' (l.map dutT) ∧ Below w.heap.size w w' := by
  have hle := Rw.le h
  have hcap := Rw.cap h
  have HL := Lib.hid (Rw.len h)
  unfold maxLen at hcap
  have H := Lib.hid h
  have HF := Lib.hid hf
  have HT := Lib.hid ht
  clear h hf ht
  go_enter Tryd.func29, Tryd.ntmps29
  go_wp2
  go_loopw [5, 10] (fun o i wr => ∃ (k : Nat) (B : Option Addr) (d : Nat), k ≤ n ∧ o = .slice B k d ∧ i = .int .i64 k ∧ TR wr w.heap.size B k d ((l.take k).map dutT) ∧ Below w.heap.size w wr) (fun _ i _ => n - (intOf i).toNat)
  case atStart => exact ⟨0, none, 0, Nat.zero_le _, rfl, rfl, TR.nil _ _, Below.refl _ _⟩
  case round =>
    obtain ⟨k, B, d, hk, rfl, rfl, hr, hb⟩ := hrel
    have HR := Lib.hid hr
    have HB := Lib.hid hb
    clear hr hb
    by_cases hlt : k < n
    · obtain ⟨b, o, x, rfl, hRb, hbl, hx, hok, c0, c1, c2⟩ := (H.out.keep (Kept.all HB.out R) (fun _ h _ => h)).at_ hlt
      have HX := Lib.hid hx
      have HC := Lib.hid (fun W (hb : Below wr.heap.size wr W) => show_duty x hok (HF.out x (List.mem_of_getElem? hx)) W (HT.out.then_ (below_step HB.out hb)))
      clear hx
      go_wp2_with (first
        | (go_at_call 30
           refine (HC.out _ (by first | exact al9' _ _ | exact Below.refl _ _)).mono ?_
           rintro e w1 ⟨rfl, hb1⟩
           have HB1 := Lib.hid (below_step HB.out (by first | exact Below.lit hb1 | exact hb1))
           obtain ⟨B', d', w2, hap, hr2, hb2⟩ := (HR.out.below (show Below wr.heap.size wr w1 by first | exact Below.lit hb1 | exact hb1)).push ⟨(dutT x).toArray⟩ (by omega) HB1.out.size 63
           have HAP := Lib.hid hap
           have HR2 := Lib.hid hr2
           have HB2 := Lib.hid (HB1.out.trans hb2)
           clear hap hr2 hb2 hb1)
        | (at_builtin; refine wpList_append_run rfl _ _ _ _ rfl rfl rfl HAP.out ?_))
      go_roundw
      case rel => exact ⟨k + 1, B', d', by omega, rfl, by go_num, by rw [tail_take HX.out]; exact HR2.out, HB2.out⟩
      case measure => simp [intOf]; omega
    · obtain rfl : k = n := by omega
      go_wp2
      go_ret
      exact ⟨B, d, rfl, by have := HR.out; rwa [List.take_of_length_le (by rw [HL.out]; exact Nat.le_refl _)] at this, HB.out⟩

theorem show_allOf {R : Nat → Prop} {A : Option Addr} {n c : Nat} {l : List Mat} (w : World) (h : Ms w R A n c l) (hf : allE l = 0) (ht : Tbl w) :
    Calls Tryd.prog 56 #[.slice A n c] w fun e w' => e = .returned (.string ⟨(allT l).toArray⟩) ∧ Below w.heap.size w w' := by
  have hn := Rw.len h
  have h8 := (allE_all hf).1.2
  have hl8 := all_len hf (Rw.all h)
  have HC := Lib.hid (texts_match h (by omega) (allE_all hf).2 ht)
  have HN := Lib.hid (show n ≤ 1000 by omega)
  have HL : Hid ((Lib.join (l.map matT) (bl ⟨#[44, 32]⟩)).length ≤ 140737488355328) := Nat.le_trans hl8 (by omega)
  have HE : Hid (allT l = Lib.join (l.map matT) (bl ⟨#[44, 32]⟩)) := rfl
  clear h hn h8 hl8 hf ht
  go_enter Tryd.func56, Tryd.ntmps56
  go_wp2_with (first
    | (go_at_call 65; refine HC.out.mono ?_; rintro e w1 ⟨B, d, rfl, hr, hb1⟩; have B1 := Lib.hid hb1; have HJ := Lib.hid (join_row hr.sl (Nat.le_refl _) (by have := HN.out; omega) ⟨#[44, 32]⟩ HL.out); clear hr hb1)
    | (go_at_call 14; refine HJ.out.mono ?_; rintro e w2 ⟨rfl, hb2⟩; have B2 := Lib.hid hb2))
  go_ret
  exact ⟨rfl, below_step B1.out B2.out⟩

set_option maxHeartbeats 1600000 in
theorem texts_allOf {w : World} {R : Nat → Prop} {A : Option Addr} {n c : Nat} {l : List (List Mat)} (h : Als w R A n c l) (hn : n ≤ 1000) (hf : ∀ x ∈ l, allE x = 0) (ht : Tbl w) :
    Calls Tryd.prog 55 #[.slice A n c, .func (.func 56) #[] #[]] w fun e w' => ∃ A' c', e = .returned (.slice A' n c') ∧ TR w' w.heap.size A' n c' (l.map allT) ∧ Below w.heap.size w w' := by
  have hle := Rw.le h
  have hcap := Rw.cap h
  have HL := Lib.hid (Rw.len h)
  unfold maxLen at hcap
  have H := Lib.hid h
  have HF := Lib.hid hf
  have HT := Lib.hid ht
  clear h hf ht
  go_enter Tryd.func55, Tryd.ntmps55
  go_wp2
  go_loopw [5, 10] (fun o i wr => ∃ (k : Nat) (B : Option Addr) (d : Nat), k ≤ n ∧ o = .slice B k d ∧ i = .int .i64 k ∧ TR wr w.heap.size B k d ((l.take k).map allT) ∧ Below w.heap.size w wr) (fun _ i _ => n - (intOf i).toNat)
  case atStart => exact ⟨0, none, 0, Nat.zero_le _, rfl, rfl, TR.nil _ _, Below.refl _ _⟩
  case round =>
    obtain ⟨k, B, d, hk, rfl, rfl, hr, hb⟩ := hrel
    have HR := Lib.hid hr
    have HB := Lib.hid hb
    clear hr hb
    by_cases hlt : k < n
    · obtain ⟨b, o, x, A1, n1, c1, rfl, hRb, hbl, hx, c0, hin⟩ := (H.out.keep (Kept.all HB.out R) (fun _ h _ => h)).at_ hlt
      have HX := Lib.hid hx
      have hinK := fun W (hb : Below wr.heap.size wr W) => Ms.keep hin (Kept.all hb R) (fun _ h _ => h)
      have HC := Lib.hid (fun W (hb : Below wr.heap.size wr W) => show_allOf W (hinK W hb) (HF.out x (List.mem_of_getElem? hx)) (HT.out.then_ (below_step HB.out hb)))
      clear hx
      go_wp2_with (first
        | (go_at_call 56
           refine (HC.out _ (by first | exact al9' _ _ | exact Below.refl _ _)).mono ?_
           rintro e w1 ⟨rfl, hb1⟩
           have HB1 := Lib.hid (below_step HB.out (by first | exact Below.lit hb1 | exact hb1))
           obtain ⟨B', d', w2, hap, hr2, hb2⟩ := (HR.out.below (show Below wr.heap.size wr w1 by first | exact Below.lit hb1 | exact hb1)).push ⟨(allT x).toArray⟩ (by omega) HB1.out.size 63
           have HAP := Lib.hid hap
           have HR2 := Lib.hid hr2
           have HB2 := Lib.hid (HB1.out.trans hb2)
           clear hap hr2 hb2 hb1)
        | (at_builtin; refine wpList_append_run rfl _ _ _ _ rfl rfl rfl HAP.out ?_))
      go_roundw
      case rel => exact ⟨k + 1, B', d', by omega, rfl, by go_num, by rw [tail_take HX.out]; exact HR2.out, HB2.out⟩
      case measure => simp [intOf]; omega
    · obtain rfl : k = n := by omega
      go_wp2
      go_ret
      exact ⟨B, d, rfl, by have := HR.out; rwa [List.take_of_length_le (by rw [HL.out]; exact Nat.le_refl _)] at this, HB.out⟩

theorem Als.oks {w : World} {R : Nat → Prop} {A : Option Addr} {n c : Nat} {l : List (List Mat)} (h : Als w R A n c l) : ∀ a ∈ l, ∀ m ∈ a, m.ok := by
  intro a ha
  obtain ⟨j, hj, rfl⟩ := List.getElem_of_mem ha
  obtain ⟨b, o, x, A1, n1, c1, _, _, _, hx, _, hin⟩ := h.at_ (j := j) (by have := Rw.len h; omega)
  rw [List.getElem?_eq_getElem hj] at hx
  injection hx with hx
  rw [hx]
  exact Rw.all hin
theorem Tg.oks' {w : World} {R : Nat → Prop} {A : Option Addr} {n c : Nat} {l : Tgt} (h : Tg w R A n c l) : Tgt.oks l := by
  intro a ha
  obtain ⟨j, hj, rfl⟩ := List.getElem_of_mem ha
  obtain ⟨b, o, x, A1, n1, c1, _, _, _, hx, _, hin⟩ := h.at_ (j := j) (by have := Rw.len h; omega)
  rw [List.getElem?_eq_getElem hj] at hx
  injection hx with hx
  rw [hx]
  exact Als.oks hin
theorem show_anyOf {R : Nat → Prop} {A : Option Addr} {n c : Nat} {l : List (List Mat)} (w : World) (h : Als w R A n c l) (hf : anyE l = 0) (ht : Tbl w) :
    Calls Tryd.prog 44 #[.slice A n c] w fun e w' => e = .returned (.string ⟨(anyT l).toArray⟩) ∧ Below w.heap.size w w' := by
  have hn := Rw.len h
  have h8 := (anyE_all hf).1.2
  have hl8 := any_len hf (Als.oks h)
  have HC := Lib.hid (texts_allOf h (by omega) (anyE_all hf).2 ht)
  have HN := Lib.hid (show n ≤ 1000 by omega)
  obtain ⟨x, hx⟩ : ∃ x : ByteArray, x = ⟨(Lib.join (l.map allT) (bl ⟨#[32, 111, 114, 32]⟩)).toArray⟩ := ⟨_, rfl⟩
  have HE : Hid (anyT l = 40 :: (bl x ++ [41])) := by rw [hx]; rfl
  have hsz : x.size ≤ 41000 := by
    rw [HE.out] at hl8
    simp only [List.length_cons, List.length_append, List.length_nil] at hl8
    show (bl x).length ≤ 41000
    omega
  have HJL : Hid ((Lib.join (l.map allT) (bl ⟨#[32, 111, 114, 32]⟩)).length ≤ 140737488355328) := by
    have e : (Lib.join (l.map allT) (bl ⟨#[32, 111, 114, 32]⟩)).length = x.size := by rw [hx]; rfl
    show _ ≤ _
    rw [e]
    exact Nat.le_trans hsz (by omega)
  have HJE := Lib.hid hx
  clear h hn h8 hl8 hf ht hx
  go_enter Tryd.func44, Tryd.ntmps44
  go_wp2_with (first
    | (go_at_call 55; refine HC.out.mono ?_; rintro e w1 ⟨B, d, rfl, hr, hb1⟩; have B1 := Lib.hid hb1; have HJ := Lib.hid (join_row hr.sl (Nat.le_refl _) (by have := HN.out; omega) ⟨#[32, 111, 114, 32]⟩ HJL.out); rw [← HJE.out] at HJ; clear hr hb1)
    | (go_at_call 14; refine HJ.out.mono ?_; rintro e w2 ⟨rfl, hb2⟩; have B2 := Lib.hid hb2))
  go_ret
  refine ⟨ret_text ?_, below_step B1.out B2.out⟩
  rw [HE.out]
  simp [bl_app, bl_mka]

set_option maxHeartbeats 1600000 in
theorem texts_anyOf {w : World} {R : Nat → Prop} {A : Option Addr} {n c : Nat} {l : List (List (List Mat))} (h : Tg w R A n c l) (hn : n ≤ 1000) (hf : ∀ x ∈ l, anyE x = 0) (ht : Tbl w) :
    Calls Tryd.prog 43 #[.slice A n c, .func (.func 44) #[] #[]] w fun e w' => ∃ A' c', e = .returned (.slice A' n c') ∧ TR w' w.heap.size A' n c' (l.map anyT) ∧ Below w.heap.size w w' := by
  have hle := Rw.le h
  have hcap := Rw.cap h
  have HL := Lib.hid (Rw.len h)
  unfold maxLen at hcap
  have H := Lib.hid h
  have HF := Lib.hid hf
  have HT := Lib.hid ht
  clear h hf ht
  go_enter Tryd.func43, Tryd.ntmps43
  go_wp2
  go_loopw [5, 10] (fun o i wr => ∃ (k : Nat) (B : Option Addr) (d : Nat), k ≤ n ∧ o = .slice B k d ∧ i = .int .i64 k ∧ TR wr w.heap.size B k d ((l.take k).map anyT) ∧ Below w.heap.size w wr) (fun _ i _ => n - (intOf i).toNat)
  case atStart => exact ⟨0, none, 0, Nat.zero_le _, rfl, rfl, TR.nil _ _, Below.refl _ _⟩
  case round =>
    obtain ⟨k, B, d, hk, rfl, rfl, hr, hb⟩ := hrel
    have HR := Lib.hid hr
    have HB := Lib.hid hb
    clear hr hb
    by_cases hlt : k < n
    · obtain ⟨b, o, x, A1, n1, c1, rfl, hRb, hbl, hx, c0, hin⟩ := (H.out.keep (Kept.all HB.out R) (fun _ h _ => h)).at_ hlt
      have HX := Lib.hid hx
      have hinK := fun W (hb : Below wr.heap.size wr W) => Als.keep hin (Kept.all hb R) (fun _ h _ => h)
      have HC := Lib.hid (fun W (hb : Below wr.heap.size wr W) => show_anyOf W (hinK W hb) (HF.out x (List.mem_of_getElem? hx)) (HT.out.then_ (below_step HB.out hb)))
      clear hx
      go_wp2_with (first
        | (go_at_call 44
           refine (HC.out _ (by first | exact al9' _ _ | exact Below.refl _ _)).mono ?_
           rintro e w1 ⟨rfl, hb1⟩
           have HB1 := Lib.hid (below_step HB.out (by first | exact Below.lit hb1 | exact hb1))
           obtain ⟨B', d', w2, hap, hr2, hb2⟩ := (HR.out.below (show Below wr.heap.size wr w1 by first | exact Below.lit hb1 | exact hb1)).push ⟨(anyT x).toArray⟩ (by omega) HB1.out.size 63
           have HAP := Lib.hid hap
           have HR2 := Lib.hid hr2
           have HB2 := Lib.hid (HB1.out.trans hb2)
           clear hap hr2 hb2 hb1)
        | (at_builtin; refine wpList_append_run rfl _ _ _ _ rfl rfl rfl HAP.out ?_))
      go_roundw
      case rel => exact ⟨k + 1, B', d', by omega, rfl, by go_num, by rw [tail_take HX.out]; exact HR2.out, HB2.out⟩
      case measure => simp [intOf]; omega
    · obtain rfl : k = n := by omega
      go_wp2
      go_ret
      exact ⟨B, d, rfl, by have := HR.out; rwa [List.take_of_length_le (by rw [HL.out]; exact Nat.le_refl _)] at this, HB.out⟩

end Go.Proofs.YtincnopaclmppaaDoor
/- Expressions as text, plainly: the stack at each node. -/
namespace Go.Proofs.YtincnopaclmppaaDoor
set_option linter.unusedVariables false

theorem stackT_next {l : List Nod} {k : Nat} {x : Nod} (hx : l[k]? = some x) : stackT (l.take (k + 1)) = stepT (stackT (l.take k)) x := by
  unfold stackT
  rw [take_next hx, List.foldl_append]
  rfl
theorem run_some {l : List Nod} (h : exprE l = 0) (k : Nat) : ∃ st, runX (l.take k) [] = some st ∧ ∀ x, l[k]? = some x → ∃ st', stepX x st = some st' := by
  by_cases hn : l = []
  · subst hn
    exact ⟨[], by simp [runX], fun x hx => by simp at hx⟩
  · have h2 : runX l [] = some [false] := by
      unfold exprE at h
      split at h
      · cases h
      · cases hr : runX l [] with
        | none => rw [hr] at h; cases h
        | some st =>
          rw [hr] at h
          simp only at h
          split at h
          · rename_i hh
            rcases hh with hh | hh
            · exact absurd hh hn
            · rw [hh]
          · cases h
    have h3 := h2
    rw [← List.take_append_drop k l, runX_app] at h3
    cases hr : runX (l.take k) [] with
    | none => rw [hr] at h3; cases h3
    | some st =>
      refine ⟨st, rfl, fun x hx => ?_⟩
      rw [hr] at h3
      simp only at h3
      have hd : l.drop k = x :: l.drop (k + 1) := by
        have hlt : k < l.length := by
          rcases Nat.lt_or_ge k l.length with h | h
          · exact h
          · rw [List.getElem?_eq_none h] at hx; cases hx
        rw [List.drop_eq_getElem_cons hlt]
        rw [List.getElem?_eq_getElem hlt] at hx
        injection hx with hx
        rw [hx]
      rw [hd] at h3
      simp only [runX] at h3
      cases hs : stepX x st with
      | none => rw [hs] at h3; cases h3
      | some st' => exact ⟨st', rfl⟩
theorem flat_pos : ∀ t : Xt, 1 ≤ t.flat.length
  | .leaf n => by simp [Xt.flat]
  | .one n x => by simp [Xt.flat]
  | .two n x y => by simp [Xt.flat]; omega
theorem flats_len : ∀ ts : List Xt, ts.length ≤ (flats ts).length
  | [] => Nat.zero_le _
  | t :: ts => by
    have := flats_len ts
    have := flat_pos t
    rw [flats_cons, List.length_append, List.length_cons]
    omega
theorem flats_mem : ∀ {ts : List Xt} {t : Xt}, t ∈ ts → ∀ n ∈ t.flat, n ∈ flats ts
  | x :: ts, t, ht, n, hn => by
    rw [flats_cons, List.mem_append]
    rcases List.mem_cons.1 ht with rfl | ht
    · exact .inr hn
    · exact .inl (flats_mem ht n hn)
theorem flat_le : ∀ {ts : List Xt} {t : Xt}, t ∈ ts → t.flat.length ≤ (flats ts).length
  | x :: ts, t, ht => by
    rw [flats_cons, List.length_append]
    rcases List.mem_cons.1 ht with rfl | ht
    · omega
    · have := flat_le ht; omega
/-- What stands on the stack behind so many nodes. -/
theorem stack_at {l : List Nod} (h : exprE l = 0) (hok : ∀ n ∈ l, n.ok) (k : Nat) : (stackT (l.take k)).length ≤ 32 ∧ (∀ x ∈ stackT (l.take k), x.length ≤ 14000) ∧
    ∀ x, l[k]? = some x → holdsB x = true ∧ (1 ≤ x.op ∧ x.op ≤ 13) ∧ takesN x.op ≤ (stackT (l.take k)).length := by
  have h32 : l.length ≤ 32 := by
    unfold exprE at h
    split at h
    · cases h
    · omega
  obtain ⟨st, hr, hs⟩ := run_some h k
  obtain ⟨ts, hf, hb, hl, ht⟩ := run_trees (l.take k) [] st (fun x hx => by cases hx) hr
  have hl' : l.take k = flats ts := hl
  have ht' : stackT (l.take k) = txts ts := ht
  have hlen : (flats ts).length ≤ 32 := by rw [← hl', List.length_take]; omega
  have hx : (txts ts).length = ts.length := by simp [txts]
  have := flats_len ts
  refine ⟨by rw [ht', hx]; omega, fun x hx => ?_, fun x hx' => ?_⟩
  · rw [ht'] at hx
    unfold txts at hx
    obtain ⟨t, ht, rfl⟩ := List.mem_map.1 hx
    have ht : t ∈ ts := by simpa using ht
    have a := tree_len (hf t ht) (fun n hn => hok n (List.mem_of_mem_take (by rw [hl']; exact flats_mem ht n hn)))
    have b := flat_le ht
    omega
  · obtain ⟨st', hs'⟩ := hs x hx'
    unfold stepX at hs'
    split at hs'
    · rename_i hh
      rw [ht', hx]
      have hbl : st.length = ts.length := by rw [← hb, List.length_map]
      rcases popX_cases hs' with ⟨ho, he⟩ | ⟨r, ho, he⟩ | ⟨r, ho, he⟩
      · refine ⟨hh, by omega, ?_⟩
        unfold takesN
        rw [if_pos ho]
        exact Nat.zero_le _
      · refine ⟨hh, by omega, ?_⟩
        have : 1 ≤ st.length := by rcases ho with ⟨_, h⟩ | ⟨_, h⟩ <;> rw [h] <;> simp
        unfold takesN
        rw [if_neg (by omega), if_pos (by omega)]
        omega
      · unfold twoOp at ho
        refine ⟨hh, by omega, ?_⟩
        have : 2 ≤ st.length := by rcases ho with ⟨_, h⟩ | ⟨_, h⟩ <;> rw [h] <;> simp
        unfold takesN
        rw [if_neg (by omega), if_neg (by omega)]
        omega
    · cases hs'
theorem stack_end {l : List Nod} (h : exprE l = 0) (hn : l ≠ []) : stackT l = [exprT l] := by
  obtain ⟨st, hr, _⟩ := run_some h l.length
  rw [List.take_length] at hr
  obtain ⟨ts, hf, hb, hl, ht⟩ := run_trees l [] st (fun x hx => by cases hx) hr
  have h1 : st = [false] := by
    unfold exprE at h
    split at h
    · cases h
    · rw [hr] at h
      simp only at h
      split at h
      · rename_i hh
        exact hh.resolve_left hn
      · cases h
  subst h1
  rcases ts with _ | ⟨t, _ | ⟨u, ts⟩⟩
  · cases hb
  · have : stackT l = txts [t] := ht
    unfold exprT
    rw [this]
    rfl
  · simp at hb
/-- A node's text isn't too long. -/
theorem node_len {l : List Nod} (h : exprE l = 0) (hok : ∀ n ∈ l, n.ok) {k : Nat} {x : Nod} (hx : l[k]? = some x) : (nodeT x ((stackT (l.take k)).drop ((stackT (l.take k)).length - takesN x.op))).length ≤ 14000 := by
  have h1 := (stack_at h hok (k + 1)).2.1
  rw [stackT_next hx] at h1
  exact h1 _ (by unfold stepT; simp)
end Go.Proofs.YtincnopaclmppaaDoor
/- A node's text; a target's words. -/
namespace Go.Proofs.YtincnopaclmppaaDoor
set_option linter.unusedVariables false
open Go.RowKit Go.Sort

set_option maxHeartbeats 1600000 in
theorem show_node (n : Nod) (hok : n.ok) (hh : holdsB n = true) (h13 : 1 ≤ n.op ∧ n.op ≤ 13) {B m c : Nat} {A : Option Addr} {ps : List (List UInt8)} (w : World) (hp : Sl w B A m c (tv ps)) (hB : B ≤ w.heap.size) (hm : m ≤ 1000) (hl : (nodeT n ps).length ≤ 14000) (ht : Tbl w) :
    Calls Tryd.prog 58 #[.agg #[.int .i64 n.op, .int .i64 n.v.k, .int .i64 n.v.n, .string n.v.s, .int .i64 n.a.cat, .string n.a.name, .bool n.a.must], .slice A m c] w fun e w' => e = .returned (.string ⟨(nodeT n ps).toArray⟩) ∧ Below w.heap.size w w' := by
  have HT : Hid (∀ W, Below w.heap.size w W → Tbl W) := fun W hb => ht.then_ hb
  by_cases h1 : n.op = 1
  · obtain ⟨hr, he⟩ := holds_lit hh h1
    have hs := right_small hr
    have HC : Hid (∀ W, Below w.heap.size w W → Calls Tryd.prog 67 #[.agg #[.int .i64 n.v.k, .int .i64 n.v.n, .string n.v.s]] W fun e w' => e = .returned (.string ⟨(nodeT n ps).toArray⟩) ∧ Below W.heap.size W w') := fun W hb => by
      have e : nodeT n ps = showB n.v := by unfold nodeT; rw [if_pos h1]
      rw [e]
      exact vtext_any n.v.k n.v.n n.v.s hok.2.1.2.1 hs W (HT.out _ hb).tab
    generalize nodeT n ps = r at *
    obtain ⟨op, ⟨k, nn, s⟩, ⟨ca, nm, mu⟩⟩ := n
    simp only at h1 HC ⊢
    subst h1
    clear hok hh h13 hp hB hm hl ht hr he hs
    go_enter Tryd.func58, Tryd.ntmps58
    have C1 := Lib.hid (Ob.made w 58 #[.int .i64 1, .int .i64 k, .int .i64 nn, .string s, .int .i64 ca, .string nm, .bool mu])
    have B0 := Lib.hid (al9' w (.cells #[.int .i64 1, .int .i64 k, .int .i64 nn, .string s, .int .i64 ca, .string nm, .bool mu] 58))
    go_wp2_with (go_at_call 67; refine (HC.out _ B0.out).mono ?_; rintro e w1 ⟨rfl, hb1⟩; have B1 := Lib.hid (B0.out.trans (hb1.mono B0.out.size)))
    go_ret
    exact ⟨rfl, B1.out⟩
  · by_cases h2 : n.op = 2
    · obtain ⟨hr, he⟩ := holds_att hh h2
      have HC : Hid (∀ W, Below w.heap.size w W → Calls Tryd.prog 68 #[.agg #[.int .i64 n.a.cat, .string n.a.name, .bool n.a.must]] W fun e w' => e = .returned (.string ⟨(nodeT n ps).toArray⟩) ∧ Below W.heap.size W w') := fun W hb => by
        have e : nodeT n ps = attrS n.a := by unfold nodeT; rw [if_neg h1, if_pos h2]
        rw [e]
        exact show_attr n.a hok.2.2 W (HT.out _ hb)
      generalize nodeT n ps = r at *
      obtain ⟨op, ⟨k, nn, s⟩, ⟨ca, nm, mu⟩⟩ := n
      simp only at h2 HC ⊢
      subst h2
      clear hok hh h13 hp hB hm hl ht hr he h1
      go_enter Tryd.func58, Tryd.ntmps58
      have C1 := Lib.hid (Ob.made w 58 #[.int .i64 2, .int .i64 k, .int .i64 nn, .string s, .int .i64 ca, .string nm, .bool mu])
      have B0 := Lib.hid (al9' w (.cells #[.int .i64 2, .int .i64 k, .int .i64 nn, .string s, .int .i64 ca, .string nm, .bool mu] 58))
      go_wp2_with (go_at_call 68; refine (HC.out _ B0.out).mono ?_; rintro e w1 ⟨rfl, hb1⟩; have B1 := Lib.hid (B0.out.trans (hb1.mono B0.out.size)))
      go_ret
      exact ⟨rfl, B1.out⟩
    · have hE : nodeT n ps = 40 :: (fnW n.op ++ 32 :: (Lib.join ps (bl ⟨#[32]⟩) ++ [41])) := nodeT_fun h1 h2 ps
      obtain ⟨x, hx⟩ : ∃ x : ByteArray, x = ⟨(fnW n.op).toArray⟩ := ⟨_, rfl⟩
      obtain ⟨y, hy⟩ : ∃ x : ByteArray, x = ⟨(Lib.join ps (bl ⟨#[32]⟩)).toArray⟩ := ⟨_, rfl⟩
      have hxs : x.size ≤ 4 := by rw [hx]; exact word_size (fnW_len _)
      have hys : y.size ≤ 14000 := by
        rw [hE] at hl
        simp only [List.length_cons, List.length_append, List.length_nil] at hl
        rw [hy]
        exact word_size (by omega)
      have HE : Hid (nodeT n ps = 40 :: (bl x ++ 32 :: (bl y ++ [41]))) := by
        show nodeT n ps = _
        rw [hE, hx, hy]; rfl
      have QJ : ∀ W, Below w.heap.size w W → ∀ d os, Calls Tryd.prog 14 #[.slice A m c, .string ⟨#[32]⟩] (grow (redrawn W d) os) fun e w'' => e = .returned (.string y) ∧ ∃ p : Regrown, w'' = grow (redrawn W p.d) p.os := fun W hb d os => by
        have hb2 := hb.trans ((below_regrown W d os).mono hb.size)
        rw [hy]
        exact Calls.regrown_of (join_row (hp.below (hb2.mono hB)) (Nat.le_trans hB hb2.size) (by omega) ⟨#[32]⟩ (by
          have e : (Lib.join ps (bl ⟨#[32]⟩)).length = y.size := by rw [hy]; rfl
          rw [e]; exact Nat.le_trans hys (by omega)))
      have hG : ∀ W, Below w.heap.size w W → ∀ d os, (grow (redrawn W d) os).cell? ⟨3, n.op.toNat, none⟩ = some (.string x) := fun W hb d os => by
        rw [hx]; exact (HT.out _ (hb.trans ((below_regrown W d os).mono hb.size))).fn (by omega) (by omega)
      have HQJ := Lib.hid QJ
      have HG := Lib.hid hG
      generalize nodeT n ps = r at *
      obtain ⟨op, ⟨k, nn, s⟩, ⟨ca, nm, mu⟩⟩ := n
      simp only at h1 h2 h13 HG ⊢
      have hi : 0 ≤ op ∧ op < 14 := by omega
      have e1 : (op == 1) = false := by rw [beq_eq_false_iff_ne]; exact h1
      have e2 : (op == 2) = false := by rw [beq_eq_false_iff_ne]; exact h2
      clear hok hh hp hB hm hl ht hE hx hy QJ hG h13
      go_enter Tryd.func58, Tryd.ntmps58
      go_wp2_with fail
      have C1 := Lib.hid (Ob.made w 58 #[.int .i64 op, .int .i64 k, .int .i64 nn, .string s, .int .i64 ca, .string nm, .bool mu])
      have B0 := Lib.hid (al9' w (.cells #[.int .i64 op, .int .i64 k, .int .i64 nn, .string s, .int .i64 ca, .string nm, .bool mu] 58))
      have Q1 := Lib.hid (HQJ.out _ B0.out)
      have g1 := HG.out _ B0.out
      have x0 := fun d os => cell_regrown (C1.out.cell 0) d os
      refine wp_region_quiet_below (by kernel_rfl) (by kernel_rfl) ?_
      repeat (go_big_quiet_step ((go_at_call 14; exact Q1.out _ _)))
      refine wpQuiet_nil ?_
      intro _ hw'
      obtain ⟨⟨dq, osq⟩, hw''⟩ := hw'
      subst hw''
      have BQ := Lib.hid (below_regrown (w.alloc (.cells #[.int .i64 op, .int .i64 k, .int .i64 nn, .string s, .int .i64 ca, .string nm, .bool mu] 58)) dq osq)
      generalize grow (redrawn _ dq) osq = w2 at *
      go_wp2_with fail
      go_ret
      refine ⟨ret_text ?_, B0.out.trans (BQ.out.mono B0.out.size)⟩
      rw [HE.out]
      simp [bl_app, bl_mka]

theorem tg_ne {t : Tgt} (h : t ≠ []) : tgW t = [[119, 104, 101, 110], tgT t] := by unfold tgW; rw [if_neg h]
theorem show_target {R : Nat → Prop} {A : Option Addr} {n c : Nat} {t : Tgt} (w : World) (h : Tg w R A n c t) (hf : tgE t = 0) (ht : Tbl w) :
    Calls Tryd.prog 27 #[.slice A n c] w fun e w' => ∃ A' m c', e = .returned (.slice A' m c') ∧ m ≤ 2 ∧ TR w' w.heap.size A' m c' (tgW t) ∧ Below w.heap.size w w' := by
  have hn := Rw.len h
  have h8 := (tgE_all hf).1
  by_cases h0 : n = 0
  · subst h0
    obtain rfl : t = [] := List.eq_nil_of_length_eq_zero hn
    clear hn h8 h ht hf
    go_enter Tryd.func27, Tryd.ntmps27
    go_wp2_with fail
    go_ret
    exact ⟨none, 0, 0, rfl, by omega, TR.nil _ _, Below.refl _ _⟩
  · have hne : t ≠ [] := by rintro rfl; simp at hn; omega
    have hl8 := tg_len hf (Tg.oks' h)
    have HC := Lib.hid (texts_anyOf h (by omega) (tgE_all hf).2 ht)
    have HN := Lib.hid (show n ≤ 1000 by omega)
    have hz : ((n : Int) == 0) = false := by rw [beq_eq_false_iff_ne]; omega
    obtain ⟨x, hx⟩ : ∃ x : ByteArray, x = ⟨(Lib.join (t.map anyT) (bl ⟨#[32, 97, 110, 100, 32]⟩)).toArray⟩ := ⟨_, rfl⟩
    have HE : Hid (tgW t = [⟨#[119, 104, 101, 110]⟩, x].map bl) := by
      show tgW t = _
      rw [tg_ne hne, hx]; rfl
    have HJL : Hid ((Lib.join (t.map anyT) (bl ⟨#[32, 97, 110, 100, 32]⟩)).length ≤ 140737488355328) := Nat.le_trans hl8 (by omega)
    have HJE := Lib.hid hx
    clear h hn h8 hl8 hf ht hx h0 hne
    go_enter Tryd.func27, Tryd.ntmps27
    go_wp2_with (first
      | (go_at_call 43; refine HC.out.mono ?_; rintro e w1 ⟨B, d, rfl, hr, hb1⟩; have B1 := Lib.hid hb1; have HJ := Lib.hid (join_row hr.sl (Nat.le_refl _) (by have := HN.out; omega) ⟨#[32, 97, 110, 100, 32]⟩ HJL.out); rw [← HJE.out] at HJ; clear hr hb1)
      | (go_at_call 14; refine HJ.out.mono ?_; rintro e w2 ⟨rfl, hb2⟩; have B2 := Lib.hid (below_step B1.out hb2); clear hb2))
    go_ret
    refine ⟨_, 2, 2, rfl, by omega, ?_, B2.out.alloc B2.out.size _⟩
    rw [HE.out]
    exact (TR.lit w2 [⟨#[119, 104, 101, 110]⟩, x] (n := 2) rfl (by omega)).less B2.out.size
end Go.Proofs.YtincnopaclmppaaDoor
/- An expression's text (the project's). -/
namespace Go.Proofs.YtincnopaclmppaaDoor
set_option linter.unusedVariables false
open Go.RowKit Go.Sort

theorem TR.drop {w : World} {base n c : Nat} {A : Option Addr} {xs : List (List UInt8)} (h : TR w base A n c xs) {k : Nat} (hk : k ≤ n) : Sl w w.heap.size (if c = k then A else A.map (·.add k)) (n - k) (c - k) (tv (xs.drop k)) := by
  have := h.sl.drop hk
  unfold tv at this ⊢
  rwa [← List.map_drop] at this

set_option maxHeartbeats 3200000 in
theorem show_expr {R : Nat → Prop} {A : Option Addr} {n c : Nat} {l : List Nod} (w : World) (h : Nds w R A n c l) (ht : Tbl w) :
    Calls Tryd.prog 46 #[.slice A n c] w fun e w' => e = .returned (.string ⟨(exprS l).toArray⟩) ∧ Below w.heap.size w w' := by
  have hle := Rw.le h
  have hcap := Rw.cap h
  have hbig := Rw.big h
  have HL := Lib.hid (Rw.len h)
  unfold maxLen at hcap
  have hcon := expr_any w h
  by_cases h0 : n = 0
  · subst h0
    obtain rfl : l = [] := List.eq_nil_of_length_eq_zero HL.out
    clear hcon h ht
    go_enter Tryd.func46, Tryd.ntmps46
    go_wp2_with fail
    go_ret
    exact ⟨rfl, Below.refl _ _⟩
  · have hne : l ≠ [] := by rintro rfl; have := HL.out; simp at this; omega
    have hz : ((n : Int) == 0) = false := by rw [beq_eq_false_iff_ne]; omega
    by_cases hf : exprE l = 0
    case neg =>
      obtain ⟨r, hr⟩ : ∃ r, r = exprE l := ⟨_, rfl⟩
      have HE : Hid (exprS l = []) := by
        show exprS l = []
        unfold exprS
        rw [if_neg (by rintro ⟨_, h⟩; exact hf h)]
      rw [← hr] at hf hcon
      have hrne : (r != 0) = true := by simpa using hf
      have HC := Lib.hid hcon
      clear hcon h ht hf hr hne
      go_enter Tryd.func46, Tryd.ntmps46
      go_wp2_with (go_at_call 52; refine HC.out.mono ?_; rintro e w1 ⟨rfl, hb1⟩; have B1 := Lib.hid hb1)
      go_ret
      exact ⟨ret_text (by rw [HE.out]; rfl), B1.out⟩
    have hok := Rw.all h
    have HS := Lib.hid (stack_at hf hok)
    have HNL := Lib.hid (fun k x (hx : l[k]? = some x) => node_len hf hok hx)
    have HEND : Hid (stackT l = [exprS l]) := by
      show stackT l = [exprS l]
      rw [stack_end hf hne]
      unfold exprS
      rw [if_pos ⟨hne, hf⟩]
    rw [hf] at hcon
    have HC := Lib.hid hcon
    have H := Lib.hid h
    have HT := Lib.hid ht
    clear hcon h ht hf hne hok
    go_enter Tryd.func46, Tryd.ntmps46
    go_wp2_with (go_at_call 52; refine HC.out.mono ?_; rintro e w1 ⟨rfl, hb1⟩; have B1 := Lib.hid hb1; clear hb1)
    go_loopw [3, 17] (fun s i wr => ∃ (k m : Nat) (B : Option Addr) (d : Nat), k ≤ n ∧ s = .slice B m d ∧ i = .int .i64 k ∧ TR wr w.heap.size B m d (stackT (l.take k)) ∧ Below w.heap.size w wr) (fun _ i _ => n - (intOf i).toNat)
    case atStart => exact ⟨0, 0, none, 0, Nat.zero_le _, rfl, rfl, TR.nil _ _, B1.out⟩
    case round =>
     obtain ⟨k, m, B, d, hk, rfl, rfl, hr, hb⟩ := hrel
     have HR := Lib.hid hr
     have HB := Lib.hid hb
     clear hr hb
     by_cases hlt : k < n
     · obtain ⟨b, o, x, rfl, hRb, hbl, hx, hok, c0, c1, c2, c3, c4, c5, c6⟩ := (H.out.keep (Kept.all HB.out R) (fun _ h _ => h)).at_ hlt
       obtain ⟨s1, s2, s3⟩ := HS.out k
       obtain ⟨hh, h13, htk⟩ := s3 x hx
       have hml := HR.out.len
       have hmd := (HR.out.sl).le
       have hdm := (HR.out.sl).cap
       unfold maxLen at hdm
       have hm32 : m ≤ 32 := by omega
       obtain ⟨q, hq⟩ : ∃ q, q = m - takesN x.op := ⟨_, rfl⟩
       have hqm : q ≤ m := by omega
       have hqd : q ≤ d := by omega
       have e1 : (m : Int) - (takesN x.op : Int) = (q : Int) := by omega
       have HX : Hid (stackT (l.take (k + 1)) = (stackT (l.take k)).take q ++ [nodeT x ((stackT (l.take k)).drop q)]) := by
         show stackT (l.take (k + 1)) = _
         rw [stackT_next hx]
         unfold stepT
         rw [hml, ← hq]
       have hnl : (nodeT x ((stackT (l.take k)).drop q)).length ≤ 14000 := by
         have := HNL.out k x hx
         rwa [hml, ← hq] at this
       have CT := Lib.hid (show_takes x.op)
       generalize takesN x.op = tk at *
       have CN := Lib.hid (fun (W : World) (hb : Below wr.heap.size wr W) => show_node x hok hh h13 W ((HR.out.below hb).drop hqm) (Nat.le_refl _) (show m - q ≤ 1000 by omega) hnl (HT.out.then_ (below_step HB.out hb)))
       have TK := Lib.hid (HR.out.take hqm)
       have HNX := Lib.hid hnl
       clear s1 s2 s3 hh h13 htk hx hok hnl hml hq
       have B0 := Lib.hid (al9' wr (.cells #[.int .i64 x.op, .int .i64 x.v.k, .int .i64 x.v.n, .string x.v.s, .int .i64 x.a.cat, .string x.a.name, .bool x.a.must] 58))
       have OB := Lib.hid (Ob.made wr 58 #[.int .i64 x.op, .int .i64 x.v.k, .int .i64 x.v.n, .string x.v.s, .int .i64 x.a.cat, .string x.a.name, .bool x.a.must])
       have f0 := OB.out.cell 0
       go_wp2_with (go_at_call 57; refine (CT.out _).mono ?_; rintro e w2 ⟨rfl, rfl⟩)
       generalize hW1 : wr.alloc (.cells #[.int .i64 x.op, .int .i64 x.v.k, .int .i64 x.v.n, .string x.v.s, .int .i64 x.a.cat, .string x.a.name, .bool x.a.must] 58) = W1 at *
       have hsz : W1.heap.size = wr.heap.size + 1 := by rw [← hW1]; exact size_al _ _
       have HSZ := Lib.hid hsz
       have KO : Hid (∀ W, Below W1.heap.size W1 W → W.cell? ⟨wr.heap.size, 0, none⟩ = some (.int .i64 x.op) ∧ W.cell? ⟨wr.heap.size, 1, none⟩ = some (.int .i64 x.v.k) ∧ W.cell? ⟨wr.heap.size, 2, none⟩ = some (.int .i64 x.v.n) ∧ W.cell? ⟨wr.heap.size, 3, none⟩ = some (.string x.v.s) ∧ W.cell? ⟨wr.heap.size, 4, none⟩ = some (.int .i64 x.a.cat) ∧ W.cell? ⟨wr.heap.size, 5, none⟩ = some (.string x.a.name) ∧ W.cell? ⟨wr.heap.size, 6, none⟩ = some (.bool x.a.must)) := by
         show ∀ W, _ → _
         intro W hb
         have o := OB.out.below hb (by omega)
         exact ⟨o.cell 0, o.cell 1, o.cell 2, o.cell 3, o.cell 4, o.cell 5, o.cell 6⟩
       clear hW1 f0 hsz

       refine wp_region_held_tail (fun w' => Below W1.heap.size W1 w') 9 (by kernel_rfl) (by kernel_rfl) ?_
       intro G
       change HeadW _ _ _ _ _ _ _ _ _ _ (W1.drewN 1)
       have S0 := Lib.hid (below_drewN (Below.refl W1.heap.size W1) 1)
       generalize W1.drewN 1 = v0 at *
       refine HeadW_take (i := 0) (v := ?_) G rfl (by kernel_rfl) (by kernel_rfl) (by kernel_rfl) (fun _ _ _ h => h) (Or.inl ⟨by rfl, ?_⟩) S0.out ?_
       rotate_left
       · intro wz hS
         go_simp
         try with_reducible rfl
       refine HeadW_take (i := 1) (v := ?_) G rfl (by kernel_rfl) (by kernel_rfl) (by kernel_rfl) (fun _ _ _ h => h) (Or.inl ⟨by rfl, ?_⟩) S0.out ?_
       rotate_left
       · intro wz hS
         go_simp
         try with_reducible rfl
       refine HeadW_take (i := 2) (v := ?_) G rfl (by kernel_rfl) (by kernel_rfl) (by kernel_rfl) (fun _ _ _ h => h) (Or.inl ⟨by rfl, ?_⟩) S0.out ?_
       rotate_left
       · intro wz hS
         go_simp
         try with_reducible rfl
       refine HeadW_take (i := 3) (v := ?_) G rfl (by kernel_rfl) (by kernel_rfl) (by kernel_rfl) (fun _ _ _ h => h) (Or.inl ⟨by rfl, ?_⟩) S0.out ?_
       rotate_left
       · intro wz hS
         have hk1 := KO.out _ hS
         go_simp
         try with_reducible rfl
       refine HeadW_take (i := 4) (v := ?_) G rfl (by kernel_rfl) (by kernel_rfl) (by kernel_rfl) (fun _ _ _ h => h) (Or.inl ⟨by rfl, ?_⟩) S0.out ?_
       rotate_left
       · intro wz hS
         go_simp
         try with_reducible rfl
       refine HeadW_take (i := 5) (v := ?_) G rfl (by kernel_rfl) (by kernel_rfl) (by kernel_rfl) (fun _ _ _ h => h) (Or.inl ⟨by rfl, ?_⟩) S0.out ?_
       rotate_left
       · intro wz hS
         go_simp
         try with_reducible rfl
       refine HeadW_take (i := 6) (v := ?_) G rfl (by kernel_rfl) (by kernel_rfl) (by kernel_rfl) (fun _ _ _ h => h) (Or.inl ⟨by rfl, ?_⟩) S0.out ?_
       rotate_left
       · intro wz hS
         go_simp
         try with_reducible rfl
       refine HeadW_ready (rs := [7]) (by kernel_rfl) rfl rfl ?_
       refine AllW.cons rfl (fun K hK => ?_) AllW.nil
       go_simp
       refine (CN.out _ (B0.out.trans (S0.out.mono B0.out.size))).mono ?_
       rintro e v1 ⟨rfl, hb⟩
       have S1 := Lib.hid (S0.out.trans (hb.mono S0.out.size))
       refine hK _ _ S1.out ?_
       clear hK K hb
       refine HeadW_ready (rs := [8]) (by kernel_rfl) rfl rfl ?_
       refine AllW.cons rfl (fun K hK => ?_) AllW.nil
       go_simp
       refine hK _ _ (S1.out.alloc S1.out.size _) ?_
       clear hK K
       intro _
       refine ⟨by kernel_rfl, ?_⟩
       simp only [List.drop_succ_cons, List.drop_zero]
       have HBV := Lib.hid (B0.out.trans (S1.out.mono B0.out.size))
       obtain ⟨B', d', w9, hap, hr2, hb2⟩ := (TK.out.below HBV.out).push ⟨(nodeT x ((stackT (l.take k)).drop q)).toArray⟩ (by omega) (Nat.le_trans HB.out.size HBV.out.size) 63
       have HAP := Lib.hid hap
       have HR2 := Lib.hid hr2
       have HB2 := Lib.hid ((below_step HB.out HBV.out).trans hb2)
       clear hap hr2 hb2
       go_wp2_with (at_builtin; refine wpList_append_run rfl _ _ _ _ rfl rfl rfl HAP.out ?_)
       go_roundw
       case rel => exact ⟨k + 1, q + 1, B', d', by omega, rfl, by go_num, by rw [HX.out]; exact HR2.out, HB2.out⟩
       case measure => simp [intOf]; omega
     · obtain rfl : k = n := by omega
       have hrr := HR.out
       rw [List.take_of_length_le (by rw [HL.out]; exact Nat.le_refl _), HEND.out] at hrr
       have hm1 := hrr.len
       obtain rfl : m = 1 := by simpa using hm1.symm
       obtain ⟨b, o, u, rfl, hbl, hu, hc⟩ := hrr.sl.at_ (k := 0) (by omega)
       have hcap2 := hrr.sl.cap
       unfold maxLen at hcap2
       obtain rfl : u = .string ⟨(exprS l).toArray⟩ := by simpa [tv] using hu.symm
       have HRX := Lib.hid hrr
       rw [Nat.add_zero] at hc
       clear hrr hm1 hu
       go_wp2_with fail
       go_ret
       exact ⟨rfl, HB.out⟩
end Go.Proofs.YtincnopaclmppaaDoor
/- A rule's text (the project's). -/
namespace Go.Proofs.YtincnopaclmppaaDoor
set_option linter.unusedVariables false
open Go.RowKit Go.Sort

theorem condW_ne {l : List Nod} (h : l ≠ []) : condW l = [⟨#[105, 102]⟩, ⟨(exprS l).toArray⟩].map bl := by unfold condW; rw [if_neg h]; rfl
theorem tr_two (w : World) (x y : ByteArray) : TR (w.alloc (.cells #[.string x, .string y] 9)) w.heap.size (some ⟨w.heap.size, 0, none⟩) 2 2 [bl x, bl y] := TR.lit w [x, y] (n := 2) rfl (by omega)

set_option maxHeartbeats 6400000 in
set_option maxRecDepth 100000 in
theorem show_rule {R : Nat → Prop} {A1 A2 A3 : Option Addr} {n1 c1 n2 c2 n3 c3 : Nat} (r : Rul) (w : World) (h1 : Tg w R A1 n1 c1 r.tg) (h2 : Nds w R A2 n2 c2 r.cond) (h3 : Dus w R A3 n3 c3 r.ob) (hf : r.fine) (ht : Tbl w) :
    Calls Tryd.prog 28 #[.agg #[.string r.id, .bool r.deny, .slice A1 n1 c1, .slice A2 n2 c2, .slice A3 n3 c3]] w fun e w' => e = .returned (.string ⟨(rulT r).toArray⟩) ∧ Below w.heap.size w w' := by
  have hok : r.oks := ⟨Tg.oks' h1, Rw.all h2⟩
  have hlen := rul_len hf hok
  obtain ⟨hW1, hW2⟩ := rulW_len hf hok
  obtain ⟨hn, htg, hc, ho⟩ := hf
  have hid16 : r.id.size ≤ 16 := hn.1.2
  have hn2 := Rw.len h2
  have hn3 := Rw.len h3
  have ho8 := (obE_all ho).1
  have HT : Hid (∀ W, Below w.heap.size w W → Tbl W) := fun W hb => ht.then_ hb
  have CT := Lib.hid (fun (W : World) (hb : Below w.heap.size w W) => show_target W (h1.keep (Kept.all hb R) (fun _ h _ => h)) htg (HT.out _ hb))
  have CX := Lib.hid (fun (W : World) (hb : Below w.heap.size w W) => show_expr W (h2.keep (Kept.all hb R) (fun _ h _ => h)) (HT.out _ hb))
  have CD := Lib.hid (fun (W : World) (hb : Below w.heap.size w W) => texts_duty (h3.keep (Kept.all hb R) (fun _ h _ => h)) (by omega) (obE_all ho).2 (HT.out _ hb))
  obtain ⟨x1, hx1⟩ : ∃ x : ByteArray, x = ⟨(effW r.deny).toArray⟩ := ⟨_, rfl⟩
  have CE : Hid (∀ W, Calls Tryd.prog 45 #[.bool r.deny] W fun e w' => e = .returned (.string x1) ∧ w' = W) := fun W => by rw [hx1]; exact show_effect r.deny W
  have HE : Hid (rulW r = [bl x1, bl r.id] ++ tgW r.tg ++ condW r.cond ++ r.ob.map dutT) := by
    show rulW r = _
    rw [hx1]
    simp [rulW, bl_mk]
  have hj : ((Lib.join (rulW r) (bl ⟨#[32]⟩)).length ≤ 5000000) := by
    have e : (rulT r).length = (Lib.join (rulW r) (bl ⟨#[32]⟩)).length + 1 := by unfold rulT; rw [List.length_append]; rfl
    omega
  obtain ⟨y, hy⟩ : ∃ y : ByteArray, y = ⟨(Lib.join (rulW r) (bl ⟨#[32]⟩)).toArray⟩ := ⟨_, rfl⟩
  have hys : y.size ≤ 5000000 := by rw [hy]; exact hj
  have HJL : Hid ((Lib.join (rulW r) (bl ⟨#[32]⟩)).length ≤ 140737488355328) := Nat.le_trans hj (by omega)
  have HR : Hid (bl y ++ [59] = rulT r) := by rw [hy]; rfl
  have HY := Lib.hid hy
  have HO8 := Lib.hid (show n3 ≤ 8 by omega)
  have HCN := Lib.hid (show n2 = 0 ∨ r.cond ≠ [] by
    by_cases h0 : n2 = 0
    · exact .inl h0
    · exact .inr (by intro hh; rw [hh] at hn2; simp at hn2; omega))
  have HC0 := Lib.hid (show n2 = 0 → condW r.cond = [] by intro h0; rw [h0] at hn2; rw [List.eq_nil_of_length_eq_zero hn2]; rfl)
  have hc2 := Rw.cap h2
  have hle2 := Rw.le h2
  unfold maxLen at hc2
  generalize rulT r = rt at *
  generalize rulW r = rw0 at *
  clear h1 h2 h3 hok hlen hW1 hW2 hn htg hc ho hn2 hn3 ho8 ht hx1 hj hy
  obtain ⟨C0, hC0⟩ : ∃ C0 : Array Value, C0 = #[.string r.id, .bool r.deny, .slice A1 n1 c1, .slice A2 n2 c2, .slice A3 n3 c3] := ⟨_, rfl⟩
  have OB := Lib.hid (Ob.made w 37 C0)
  have B0 := Lib.hid (al9' w (.cells C0 37))
  have HSZ := Lib.hid (size_al w (.cells C0 37))
  go_enter Tryd.func28, Tryd.ntmps28
  go_upto_region 1 with fail
  rw [← hC0]
  generalize w.alloc (.cells C0 37) = W1 at *
  rw [hC0] at OB
  have KO : Hid (∀ W, Below W1.heap.size W1 W → W.cell? ⟨w.heap.size, 0, none⟩ = some (.string r.id) ∧ W.cell? ⟨w.heap.size, 1, none⟩ = some (.bool r.deny) ∧ W.cell? ⟨w.heap.size, 2, none⟩ = some (.slice A1 n1 c1) ∧ W.cell? ⟨w.heap.size, 3, none⟩ = some (.slice A2 n2 c2) ∧ W.cell? ⟨w.heap.size, 4, none⟩ = some (.slice A3 n3 c3)) := by
    show ∀ W, _ → _
    intro W hb
    have o := OB.out.below hb (by have := HSZ.out; omega)
    exact ⟨o.cell 0, o.cell 1, o.cell 2, o.cell 3, o.cell 4⟩
  clear hC0 OB
  go_cut [3] from 4 to 13 (fun s wx => ∃ B m d, s = .slice B m d ∧ m ≤ 4 ∧ TR wx W1.heap.size B m d ([bl x1, bl r.id] ++ tgW r.tg) ∧ Below W1.heap.size W1 wx)
  case first =>
    refine wp_region_held_tail (fun w' => Below W1.heap.size W1 w') 9 (by kernel_rfl) (by kernel_rfl) ?_
    intro G
    change HeadW _ _ _ _ _ _ _ _ _ _ (W1.drewN 1)
    have S0 := Lib.hid (below_drewN (Below.refl W1.heap.size W1) 1)
    generalize W1.drewN 1 = v0 at *
    refine HeadW_take (i := 0) (v := ?_) G rfl (by kernel_rfl) (by kernel_rfl) (by kernel_rfl) (fun _ _ _ h => h) (Or.inl ⟨by rfl, ?_⟩) S0.out ?_
    rotate_left
    · intro wz hS
      go_simp
      try with_reducible rfl
    refine HeadW_take (i := 1) (v := ?_) G rfl (by kernel_rfl) (by kernel_rfl) (by kernel_rfl) (fun _ _ _ h => h) (Or.inl ⟨by rfl, ?_⟩) S0.out ?_
    rotate_left
    · intro wz hS
      have hk1 := (KO.out _ hS).2.1
      go_simp
      try with_reducible rfl
    refine HeadW_take (i := 3) (v := ?_) G rfl (by kernel_rfl) (by kernel_rfl) (by kernel_rfl) (fun _ _ _ h => h) (Or.inl ⟨by rfl, ?_⟩) S0.out ?_
    rotate_left
    · intro wz hS
      go_simp
      try with_reducible rfl
    refine HeadW_take (i := 4) (v := ?_) G rfl (by kernel_rfl) (by kernel_rfl) (by kernel_rfl) (fun _ _ _ h => h) (Or.inl ⟨by rfl, ?_⟩) S0.out ?_
    rotate_left
    · intro wz hS
      have hk1 := (KO.out _ hS).1
      go_simp
      try with_reducible rfl
    refine HeadW_take (i := 6) (v := ?_) G rfl (by kernel_rfl) (by kernel_rfl) (by kernel_rfl) (fun _ _ _ h => h) (Or.inl ⟨by rfl, ?_⟩) S0.out ?_
    rotate_left
    · intro wz hS
      go_simp
      try with_reducible rfl
    refine HeadW_take (i := 7) (v := ?_) G rfl (by kernel_rfl) (by kernel_rfl) (by kernel_rfl) (fun _ _ _ h => h) (Or.inl ⟨by rfl, ?_⟩) S0.out ?_
    rotate_left
    · intro wz hS
      have hk1 := (KO.out _ hS).2.2.1
      go_simp
      try with_reducible rfl
    refine HeadW_ready (rs := [2]) (by kernel_rfl) rfl rfl ?_
    refine AllW.cons rfl (fun K hK => ?_) AllW.nil
    go_simp
    refine (CE.out _).mono ?_
    rintro e wz ⟨rfl, hwz⟩
    rw [hwz]
    refine hK _ _ S0.out ?_
    clear hK K
    refine HeadW_ready (rs := [5, 8]) (by kernel_rfl) rfl rfl ?_
    refine AllW.cons rfl (fun K hK => ?_) (AllW.cons rfl (fun K hK => ?_) AllW.nil)
    · go_simp
      have hb : Below v0.heap.size v0 (v0.alloc (.cells #[.string x1, .string r.id] 9)) := (Below.refl _ _).alloc (Nat.le_refl _) _
      have S2 := Lib.hid (S0.out.trans (hb.mono S0.out.size))
      have L2 := Lib.hid ((tr_two v0 x1 r.id).less S0.out.size)
      refine hK _ _ S2.out ?_
      clear hK K hb
      generalize v0.alloc (.cells #[.string x1, .string r.id] 9) = v2 at *
      refine HeadW_ready (rs := [8]) (by kernel_rfl) rfl rfl ?_
      refine AllW.cons rfl (fun K hK => ?_) AllW.nil
      go_simp
      refine (CT.out _ (B0.out.trans (S2.out.mono B0.out.size))).mono ?_
      rintro e v3 ⟨T1, tm, tc, rfl, htm, htr, hb⟩
      have S3 := Lib.hid (S2.out.trans (hb.mono S2.out.size))
      have T3 := Lib.hid htr.sl
      have TM3 := Lib.hid htm
      have L3 := Lib.hid (L2.out.below hb)
      refine hK _ _ S3.out ?_
      clear hK K hb htr htm
      intro _
      refine ⟨by kernel_rfl, ?_⟩
      simp only [List.drop_succ_cons, List.drop_zero]
      obtain ⟨B', d', w9, hap, hr2, hb2⟩ := L3.out.app T3.out (by have := TM3.out; omega) S3.out.size 63
      have HAP := Lib.hid hap
      have HR2 := Lib.hid hr2
      have HB2 := Lib.hid (S3.out.trans hb2)
      clear hap hr2 hb2
      go_wp2_with (at_builtin; refine wpList_append_run rfl _ _ _ _ rfl rfl rfl HAP.out ?_)
      go_meet
      exact ⟨_, _, _, rfl, by have := TM3.out; omega, HR2.out, HB2.out⟩
    · go_simp
      refine (CT.out _ (B0.out.trans (S0.out.mono B0.out.size))).mono ?_
      rintro e v4 ⟨T1, tm, tc, rfl, htm, htr, hb⟩
      have S4 := Lib.hid (S0.out.trans (hb.mono S0.out.size))
      have T4 := Lib.hid htr.sl
      have TM4 := Lib.hid htm
      refine hK _ _ S4.out ?_
      clear hK K hb htr htm
      refine HeadW_ready (rs := [5]) (by kernel_rfl) rfl rfl ?_
      refine AllW.cons rfl (fun K hK => ?_) AllW.nil
      go_simp
      have hb : Below v4.heap.size v4 (v4.alloc (.cells #[.string x1, .string r.id] 9)) := (Below.refl _ _).alloc (Nat.le_refl _) _
      have S5 := Lib.hid (S4.out.trans (hb.mono S4.out.size))
      have L5 := Lib.hid ((tr_two v4 x1 r.id).less S4.out.size)
      have T5 := Lib.hid ((T4.out.below hb).more hb.size)
      refine hK _ _ S5.out ?_
      clear hK K hb
      generalize v4.alloc (.cells #[.string x1, .string r.id] 9) = v5 at *
      intro _
      refine ⟨by kernel_rfl, ?_⟩
      simp only [List.drop_succ_cons, List.drop_zero]
      obtain ⟨B', d', w9, hap, hr2, hb2⟩ := L5.out.app T5.out (by have := TM4.out; omega) S5.out.size 63
      have HAP := Lib.hid hap
      have HR2 := Lib.hid hr2
      have HB2 := Lib.hid (S5.out.trans hb2)
      clear hap hr2 hb2
      go_wp2_with (at_builtin; refine wpList_append_run rfl _ _ _ _ rfl rfl rfl HAP.out ?_)
      go_meet
      exact ⟨_, _, _, rfl, by have := TM4.out; omega, HR2.out, HB2.out⟩
  case rest =>
    obtain ⟨B, m, d, rfl, hm4, htr, hb⟩ := hcut
    have q3 := (KO.out _ hb).2.2.2.1
    have KO4 := Lib.hid (fun (W : World) (hh : Below W1.heap.size W1 W) => (KO.out W hh).2.2.2.2)
    by_cases h0 : n2 = 0
    · have hz : ¬ (0 : Int) < (n2 : Int) := by omega
      have q4 := KO4.out _ hb
      have HRW : Hid (rw0 = [bl x1, bl r.id] ++ tgW r.tg ++ r.ob.map dutT) := by
        show rw0 = _
        rw [HE.out, HC0.out h0, List.append_nil]
      have HTX := Lib.hid htr
      have HMX := Lib.hid hm4
      have HBX := Lib.hid hb
      clear htr hb hm4 HE HC0 HCN
      go_wp2_with (first
        | (go_at_call 29
           refine (CD.out _ (B0.out.trans (HBX.out.mono B0.out.size))).mono ?_
           rintro e w5 ⟨D1, dd, rfl, hr5, hb5⟩
           have HB5 := Lib.hid (HBX.out.trans (hb5.mono HBX.out.size))
           obtain ⟨D2, d2, w6, hap, hr6, hb6⟩ := (HTX.out.below hb5).app hr5.sl (by have := HMX.out; have := HO8.out; omega) HB5.out.size 63
           have HAP2 := Lib.hid hap
           have HB6 := Lib.hid (HB5.out.trans hb6)
           have HJ := Lib.hid (join_row hr6.sl (Nat.le_refl _) (by have := HMX.out; have := HO8.out; omega) ⟨#[32]⟩ (by rw [← HRW.out]; exact HJL.out))
           rw [← HRW.out, ← HY.out] at HJ
           clear hap hr6 hb6 hr5 hb5)
        | (at_builtin; refine wpList_append_run rfl _ _ _ _ rfl rfl rfl HAP2.out ?_)
        | (go_at_call 14; refine HJ.out.mono ?_; rintro e w7 ⟨rfl, hb7⟩; have B7 := Lib.hid ((B0.out.trans (HB6.out.mono B0.out.size)).trans (hb7.mono (Nat.le_trans B0.out.size HB6.out.size))); clear hb7))
      go_ret
      refine ⟨ret_text ?_, B7.out⟩
      rw [← HR.out]
      simp [bl_app, bl_mka]
    · have hz : (0 : Int) < (n2 : Int) := by omega
      obtain ⟨z, hz1⟩ : ∃ z : ByteArray, z = ⟨(exprS r.cond).toArray⟩ := ⟨_, rfl⟩
      have HRW : Hid (rw0 = [bl x1, bl r.id] ++ tgW r.tg ++ [bl ⟨#[105, 102]⟩, bl z] ++ r.ob.map dutT) := by
        show rw0 = _
        rw [HE.out, condW_ne (HCN.out.resolve_left h0), hz1]; rfl
      rw [← hz1] at CX
      have HTY := Lib.hid htr
      have HMY := Lib.hid hm4
      have HBY := Lib.hid hb
      clear htr hb hm4 HE HC0 HCN hz1
      go_wp2_with (first
        | (go_at_call 46
           refine (CX.out _ (B0.out.trans (HBY.out.mono B0.out.size))).mono ?_
           rintro e w2 ⟨rfl, hb2⟩
           have HB2 := Lib.hid (HBY.out.trans (hb2.mono HBY.out.size))
           have hb3 : Below w2.heap.size w2 (w2.alloc (.cells #[.string ⟨#[105, 102]⟩, .string z] 9)) := (Below.refl _ _).alloc (Nat.le_refl _) _
           obtain ⟨D3, d3, w4, hap, hr4, hb4⟩ := ((HTY.out.below hb2).below hb3).app (tr_two w2 ⟨#[105, 102]⟩ z).sl (by have := HMY.out; omega) (Nat.le_trans HB2.out.size hb3.size) 63
           have HAP1 := Lib.hid hap
           have HBX := Lib.hid ((HB2.out.trans (hb3.mono HB2.out.size)).trans hb4)
           have HTX := Lib.hid hr4
           have HMX := Lib.hid (show m + 2 ≤ 6 from Nat.add_le_add_right HMY.out 2)
           have q4 := KO4.out _ HBX.out
           clear hap hr4 hb4 hb3 hb2)
        | (at_builtin; refine wpList_append_run rfl _ _ _ _ rfl rfl rfl HAP1.out ?_)
        | (go_at_call 29
           refine (CD.out _ (B0.out.trans (HBX.out.mono B0.out.size))).mono ?_
           rintro e w5 ⟨D1, dd, rfl, hr5, hb5⟩
           have HB5 := Lib.hid (HBX.out.trans (hb5.mono HBX.out.size))
           obtain ⟨D2, d2, w6, hap, hr6, hb6⟩ := (HTX.out.below hb5).app hr5.sl (by have := HMX.out; have := HO8.out; omega) HB5.out.size 63
           have HAP2 := Lib.hid hap
           have HB6 := Lib.hid (HB5.out.trans hb6)
           have HJ := Lib.hid (join_row hr6.sl (Nat.le_refl _) (by have := HMX.out; have := HO8.out; omega) ⟨#[32]⟩ (by rw [← HRW.out]; exact HJL.out))
           rw [← HRW.out, ← HY.out] at HJ
           clear hap hr6 hb6 hr5 hb5)
        | (at_builtin; refine wpList_append_run rfl _ _ _ _ rfl rfl rfl HAP2.out ?_)
        | (go_at_call 14; refine HJ.out.mono ?_; rintro e w7 ⟨rfl, hb7⟩; have B7 := Lib.hid ((B0.out.trans (HB6.out.mono B0.out.size)).trans (hb7.mono (Nat.le_trans B0.out.size HB6.out.size))); clear hb7))
      go_ret
      refine ⟨ret_text ?_, B7.out⟩
      rw [← HR.out]
      simp [bl_app, bl_mka]
end Go.Proofs.YtincnopaclmppaaDoor
