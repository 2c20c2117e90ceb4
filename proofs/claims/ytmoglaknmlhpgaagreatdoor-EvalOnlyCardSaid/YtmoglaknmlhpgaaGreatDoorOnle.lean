/- Several texts in one: ParToks, VShowM, LexVal, ShowTok, ShowRead, ShowExpr, ShowPol, ShowLen, ShowStack. -/
import Derived.Test.YtmoglaknmlhpgaaGreatDoorOnld
import Derived.Test.YtmoglaknmlhpgaaGreatDoorOnlc
import Derived.Test.YtmoglaknmlhpgaaGreatDoorOnlA
import Derived.Test.YtmoglaknmlhpgaaGreatDoorOnlW
import Derived.Test.YtmoglaknmlhpgaaGreatDoorOnlG
import Derived.Lib.ItoaLen
import Derived.Test.YtmoglaknmlhpgaaGreatDoorOnlD
/- The parser, plainly: texts as rows of tokens, places aside. -/
namespace Go.Proofs.YtmoglaknmlhpgaaGreatDoor
set_option linter.unusedVariables false

def Zx (l : List UInt8) (zs : List Tk) : Prop := ∃ ts, lexB l 0 = .ok ts ∧ ts.map Tk.z = zs
def tEnd : Tk := ⟨7, 0, 0, ⟨#[]⟩⟩
def tName (s : ByteArray) : Tk := ⟨1, 0, 0, s⟩
def tMark (c : UInt8) : Tk := ⟨6, 0, 0, ⟨#[c]⟩⟩
theorem Zx.nil : Zx [] [tEnd] := ⟨_, lexB_nil 0, rfl⟩
theorem map_sh (d : Nat) (ts : List Tk) : (ts.map (shT d)).map Tk.z = ts.map Tk.z := by simp [Tk.z, shT]
theorem Zx.at_ {l : List UInt8} {zs : List Tk} (h : Zx l zs) (p : Nat) : ∃ ts, lexB l p = .ok ts ∧ ts.map Tk.z = zs := by
 obtain ⟨ts, h1, h2⟩ := h
 exact ⟨ts.map (shT p), by rw [lexB_from, h1]; rfl, by rw [map_sh, h2]⟩
theorem Zx.blank {c : UInt8} {r : List UInt8} {zs : List Tk} (hc : blk c = true) (h : Zx r zs) : Zx (c :: r) zs := by
 obtain ⟨ts, h1, h2⟩ := h.at_ (0 + 1)
 exact ⟨ts, by rw [lexB_blank hc, h1], h2⟩
theorem Zx.sp {r : List UInt8} {zs : List Tk} (h : Zx r zs) : Zx (32 :: r) zs := h.blank (by decide)
theorem Zx.tok {c : UInt8} {r : List UInt8} {zs : List Tk} {k n : Int} {s : List UInt8} {m : Nat} (hc : blk c = false) (ht : tokB (c :: r) = some (k, n, s, m)) (h : Zx ((c :: r).drop m) zs) : Zx (c :: r) (⟨k, 0, n, ⟨s.toArray⟩⟩ :: zs) := by
 obtain ⟨ts, h1, h2⟩ := h.at_ (0 + m)
 refine ⟨_, by rw [lexB_tok hc ht, h1]; rfl, ?_⟩
 rw [← h2]
 rfl
theorem lett_blk {a : UInt8} (h : lett a = true) : blk a = false := by
 unfold lett at h
 unfold blk
 simp at h ⊢
 omega
theorem take_name {l : List UInt8} (hl : ∀ b ∈ l, inm b = true) {c : UInt8} (hc : inm c = false) (r : List UInt8) : (l ++ c :: r).takeWhile inm = l := by
 induction l with
 | nil => simp [hc]
 | cons a l ih =>
  rw [List.cons_append, List.takeWhile_cons, if_pos (hl a (by simp)), ih (fun b hb => hl b (by simp [hb]))]
theorem Named.inm {l : List UInt8} (h : Named l) : ∀ b ∈ l, inm b = true := by
 intro b hb
 obtain ⟨j, hj, rfl⟩ := List.mem_iff_getElem.1 hb
 have := h.2 j hj
 unfold okAt at this
 unfold Go.Proofs.YtmoglaknmlhpgaaGreatDoor.inm
 simp at this ⊢
 rcases this with h | h
 ·exact .inl h
 ·exact .inr h.2
theorem Zx.name {nm : List UInt8} (hn : Named nm) {c : UInt8} (hc : inm c = false) {r : List UInt8} {zs : List Tk} (h : Zx (c :: r) zs) : Zx (nm ++ c :: r) (tName ⟨nm.toArray⟩ :: zs) := by
 have hi := hn.inm
 have ht := take_name hi hc r
 cases nm with
 | nil => exact absurd hn.1.1 (by simp)
 | cons a l =>
  have ha : lett a = true := by
   have := hn.2 0 (by simp)
   unfold okAt at this
   simpa using this
  refine Zx.tok (k := 1) (n := 0) (s := a :: l) (m := (a :: l).length) (lett_blk ha) ?_ ?_
  ·show tokB ((a :: l) ++ c :: r) = _
   rw [List.cons_append, tokB, if_pos ha, ← List.cons_append, ht, if_pos hn]
  ·show Zx (((a :: l) ++ c :: r).drop (a :: l).length) zs
   rw [List.drop_left]
   exact h
theorem Zx.mark {c : UInt8} (hb : blk c = false) (ht : ∀ r, tokB (c :: r) = some (6, 0, [c], 1)) {r : List UInt8} {zs : List Tk} (h : Zx r zs) : Zx (c :: r) (tMark c :: zs) :=
 Zx.tok (k := 6) (n := 0) (s := [c]) (m := 1) hb (ht r) h
end Go.Proofs.YtmoglaknmlhpgaaGreatDoor
/- The texts of values, plainly: which text a right value has; two have the same just if they are the same. -/
namespace Go.Proofs.YtmoglaknmlhpgaaGreatDoor
set_option linter.unusedVariables false

/-! ### Texts -/
theorem show_cases {v : Vl} (h : v.right) : (v.k = 1 ∧ v.l = [] ∧ (v.n = 0 ∧ showB v = [102, 97, 108, 115, 101] ∨ v.n = 1 ∧ showB v = [116, 114, 117, 101])) ∨ (v.k = 2 ∧ v.l = [] ∧ showB v = Lib.itoa v.n) ∨
  (v.k = 3 ∧ v.n = 0 ∧ showB v = quoteB v.l) ∨ (v.k = 4 ∧ v.l = [] ∧ showB v = 64 :: Lib.itoa v.n) ∨ (v.k = 5 ∧ v.n = 0 ∧ showB v = 35 :: v.l) := by
 have hr := h
 unfold Vl.right RightV at h
 unfold showB
 rw [if_pos hr]
 rcases h with ⟨hk, hl, hn⟩ | ⟨hk, hl⟩ | ⟨hk, hn, _⟩ | ⟨hk, hl, _⟩ | ⟨hk, hn, _⟩ <;> rw [hk]
 ·refine .inl ⟨rfl, hl, ?_⟩
  rcases hn with hn | hn <;> rw [hn] <;> simp
 ·exact .inr (.inl ⟨rfl, hl, by simp⟩)
 ·exact .inr (.inr (.inl ⟨rfl, hn, by simp⟩))
 ·exact .inr (.inr (.inr (.inl ⟨rfl, hl, by simp⟩)))
 ·exact .inr (.inr (.inr (.inr ⟨rfl, hn, by simp⟩)))
end Go.Proofs.YtmoglaknmlhpgaaGreatDoor
/- A right value's text as a token, plainly. -/
namespace Go.Proofs.YtmoglaknmlhpgaaGreatDoor
set_option linter.unusedVariables false

theorem tw_self {p : UInt8 → Bool} {l : List UInt8} (h : ∀ c ∈ l, p c = true) : l.takeWhile p = l := by
 induction l with
 | nil => rfl
 | cons c r ih => rw [List.takeWhile_cons, if_pos (h c (List.mem_cons_self ..)), ih fun d hd => h d (List.mem_cons_of_mem _ hd)]
theorem named_inm {l : List UInt8} (h : Named l) : ∀ c ∈ l, inm c = true := by
 intro c hc
 obtain ⟨j, hj, rfl⟩ := List.getElem_of_mem hc
 have := h.2 j hj
 unfold okAt at this
 unfold inm
 cases hl : lett l[j] with
 | true => rfl
 | false => rw [hl] at this; simp at this; simp [this.2]
end Go.Proofs.YtmoglaknmlhpgaaGreatDoor
/- Policies as text, plainly: the tokens of such a text. -/
namespace Go.Proofs.YtmoglaknmlhpgaaGreatDoor
set_option linter.unusedVariables false

def Stp (r : List UInt8) : Prop := ∀ c r', r = c :: r' → inm c = false
theorem Stp.nil : Stp [] := fun c r' h => by cases h
theorem Stp.cons {c : UInt8} {r : List UInt8} (h : inm c = false) : Stp (c :: r) := fun d r' e => by injection e with e _; exact e ▸ h
theorem Stp.name {nm r : List UInt8} {zs : List Tk} (hn : Named nm) (hs : Stp r) (h : Zx r zs) : Zx (nm ++ r) (tName ⟨nm.toArray⟩ :: zs) := by
 cases r with
 | cons c r => exact Zx.name hn (hs c r rfl) h
 | nil =>
  rw [List.append_nil]
  have ht := tw_self (named_inm hn)
  cases nm with
  | nil => exact absurd hn.1.1 (by simp)
  | cons a l =>
   have ha : lett a = true := by
    have := hn.2 0 (by simp)
    unfold okAt at this
    simpa using this
   refine Zx.tok (k := 1) (n := 0) (s := a :: l) (m := (a :: l).length) (lett_blk ha) ?_ ?_
   ·rw [tokB, if_pos ha, ht, if_pos hn]
   ·rw [List.drop_length]
    exact h
def One (t : List UInt8) (z : List Tk) : Prop := ∀ r zs, Stp r → Zx r zs → Zx (t ++ r) (z ++ zs)
theorem One.sp {a b : List UInt8} {x y : List Tk} (ha : One a x) (hb : One b y) : One (a ++ 32 :: b) (x ++ y) := fun r zs hs h => by
 rw [List.append_assoc, List.append_assoc]
 exact ha _ _ (Stp.cons (by decide)) (Zx.sp (hb r zs hs h))
theorem attrB_all {a : Atr} (h : attrB a = true) : (a.cat = 1 ∨ a.cat = 2 ∨ a.cat = 3 ∨ a.cat = 4) ∧ Named (bl a.name) := by
 unfold attrB at h
 simp only [Bool.and_eq_true, decide_eq_true_eq] at h
 exact ⟨by omega, h.2⟩
theorem bl_toArray (s : ByteArray) : (⟨(bl s).toArray⟩ : ByteArray) = s := by
 obtain ⟨⟨l⟩⟩ := s
 rfl
theorem first_all {α : Type} {f : α → Int} : ∀ {l : List α}, firstE f l = 0 → ∀ x ∈ l, f x = 0
 | [], _, x, hx => by cases hx
 | y :: l, h, x, hx => by
  simp only [firstE] at h
  split at h
  ·rename_i h0; exact absurd h h0
  ·rename_i h0
   rcases List.mem_cons.1 hx with rfl | hx
   ·simpa using h0
   ·exact first_all h x hx
theorem allE_all {l : List Mat} (h : allE l = 0) : (1 ≤ l.length ∧ l.length ≤ 8) ∧ ∀ x ∈ l, matE x = 0 := by
 unfold allE at h
 split at h
 ·rename_i h0; exact absurd h h0
 ·rename_i h0
  refine ⟨?_, first_all h⟩
  unfold partsE at h0
  split at h0
  ·simp at h0
  ·split at h0
   ·simp at h0
   ·omega
theorem anyE_all {l : List (List Mat)} (h : anyE l = 0) : (1 ≤ l.length ∧ l.length ≤ 8) ∧ ∀ x ∈ l, allE x = 0 := by
 unfold anyE at h
 split at h
 ·rename_i h0; exact absurd h h0
 ·rename_i h0
  refine ⟨?_, first_all h⟩
  unfold partsE at h0
  split at h0
  ·simp at h0
  ·split at h0
   ·simp at h0
   ·omega
theorem tgE_all {t : Tgt} (h : tgE t = 0) : t.length ≤ 8 ∧ ∀ x ∈ t, anyE x = 0 := by
 unfold tgE at h
 split at h
 ·cases h
 ·exact ⟨by omega, first_all h⟩
def Tgt.oks (t : Tgt) : Prop := ∀ a ∈ t, ∀ l ∈ a, ∀ m ∈ l, m.ok
inductive Wz : List (List UInt8) → List Tk → Prop
 | nil : Wz [] []
 | cons {t : List UInt8} {z : List Tk} {ts : List (List UInt8)} {zs : List Tk} : One t z → Wz ts zs → Wz (t :: ts) (z ++ zs)
theorem Wz.app {a b : List (List UInt8)} {x y : List Tk} (ha : Wz a x) (hb : Wz b y) : Wz (a ++ b) (x ++ y) := by
 induction ha with
 | nil => exact hb
 | cons h _ ih => rw [List.append_assoc]; exact .cons h ih
theorem Wz.one {t : List UInt8} {z : List Tk} (h : One t z) : Wz [t] z := by
 have := Wz.cons h .nil
 rwa [List.append_nil] at this
theorem Wz.map {α : Type} {T : α → List UInt8} {Z : α → List Tk} : ∀ {l : List α}, (∀ x ∈ l, One (T x) (Z x)) → Wz (l.map T) (l.flatMap Z)
 | [], _ => .nil
 | x :: l, h => by
  rw [List.map_cons, List.flatMap_cons]
  exact .cons (h x (by simp)) (Wz.map fun y hy => h y (by simp [hy]))
theorem Wz.flat {α : Type} {T : α → List (List UInt8)} {Z : α → List Tk} : ∀ {l : List α}, (∀ x ∈ l, Wz (T x) (Z x)) → Wz (l.map T).flatten (l.flatMap Z)
 | [], _ => .nil
 | x :: l, h => by
  rw [List.map_cons, List.flatMap_cons, List.flatten_cons]
  exact (h x (by simp)).app (Wz.flat fun y hy => h y (by simp [hy]))
theorem Wz.tail {ws : List (List UInt8)} {z : List Tk} (h : Wz ws z) : ∀ r zs, Stp r → Zx r zs → Zx (Lib.joinTail [32] ws ++ r) (z ++ zs) ∧ Stp (Lib.joinTail [32] ws ++ r) := by
 induction h with
 | nil => exact fun r zs hs hz => ⟨hz, hs⟩
 | @cons t z ts zs' h _ ih =>
  intro r zs hs hz
  obtain ⟨i1, i2⟩ := ih r zs hs hz
  have e : Lib.joinTail [32] (t :: ts) ++ r = 32 :: (t ++ (Lib.joinTail [32] ts ++ r)) := by simp [Lib.joinTail]
  rw [e, List.append_assoc]
  exact ⟨Zx.sp (h _ _ i2 i1), Stp.cons (by decide)⟩
theorem Wz.join {ws : List (List UInt8)} {z : List Tk} (h : Wz ws z) : One (Lib.join ws [32]) z := by
 cases h with
 | nil => exact fun r zs hs hz => hz
 | cons h1 h2 =>
  intro r zs hs hz
  obtain ⟨i1, i2⟩ := h2.tail r zs hs hz
  rw [Lib.join_cons, List.append_assoc, List.append_assoc]
  exact h1 _ _ i2 i1
theorem dutE_all {o : Dut} (h : dutE o = 0) : (o.on = 1 ∨ o.on = 2) ∧ (o.kind = 1 ∨ o.kind = 2 ∨ o.kind = 3 ∨ o.kind = 4) ∧ Named (bl o.arg) := by
 unfold dutE at h
 split at h
 ·rename_i hh; exact ⟨hh.1, by omega, hh.2.2.2⟩
 ·cases h
theorem obE_all {l : List Dut} (h : obE l = 0) : l.length ≤ 8 ∧ ∀ x ∈ l, dutE x = 0 := by
 unfold obE at h
 split at h
 ·cases h
 ·exact ⟨by omega, first_all h⟩
end Go.Proofs.YtmoglaknmlhpgaaGreatDoor
/- Policies as text, plainly: what is read of such tokens. -/
namespace Go.Proofs.YtmoglaknmlhpgaaGreatDoor
set_option linter.unusedVariables false

abbrev St (zs : List Tk) (m : Nat) : Pz := ⟨zs, m, 0, 0⟩
def Nx (ws : List ByteArray) (zs : List Tk) : Prop := seesR ws (St zs 0) = 0
theorem Nx.at_ {ws : List ByteArray} {zs : List Tk} (h : Nx ws zs) (m : Nat) : seesR ws (St zs m) = 0 := h
theorem matE_all {x : Mat} (h : matE x = 0) : attrB x.a = true ∧ (x.op = 1 ∨ x.op = 2 ∨ x.op = 3) ∧ x.v.right := by
 unfold matE at h
 split at h
 ·rename_i hh; exact ⟨hh.1, by omega, hh.2.2.2⟩
 ·cases h
end Go.Proofs.YtmoglaknmlhpgaaGreatDoor
/- Expressions as text, plainly: as trees; their tokens; what is read of them. -/
namespace Go.Proofs.YtmoglaknmlhpgaaGreatDoor
set_option linter.unusedVariables false

inductive Xt where
 | leaf (n : Nod)
 | one (n : Nod) (x : Xt)
 | two (n : Nod) (x y : Xt)
def Xt.flat : Xt → List Nod
 | .leaf n => [n]
 | .one n x => x.flat ++ [n]
 | .two n x y => x.flat ++ (y.flat ++ [n])
def Xt.bag : Xt → Bool
 | .leaf n => decide (n.op = 2)
 | _ => false
def twoOp (op : Int) : Prop := op = 6 ∨ op = 7 ∨ op = 8 ∨ op = 9 ∨ op = 10 ∨ op = 12 ∨ op = 13
def Xt.fits : Xt → Prop
 | .leaf n => (n.op = 1 ∨ n.op = 2) ∧ holdsB n = true
 | .one n x => holdsB n = true ∧ ((n.op = 3 ∨ n.op = 4) ∧ x.bag = true ∨ n.op = 11 ∧ x.bag = false) ∧ x.fits
 | .two n x y => holdsB n = true ∧ (n.op = 5 ∧ x.bag = true ∨ twoOp n.op ∧ x.bag = false) ∧ y.bag = false ∧ x.fits ∧ y.fits
def Xt.txt : Xt → List UInt8
 | .leaf n => nodeT n []
 | .one n x => nodeT n [x.txt]
 | .two n x y => nodeT n [x.txt, y.txt]

theorem stepT_app (S P : List (List UInt8)) (n : Nod) (h : P.length = takesT n.op) : stepT (S ++ P) n = S ++ [nodeT n P] := by
 unfold stepT
 have e : (S ++ P).length - takesT n.op = S.length := by rw [List.length_append]; omega
 rw [e, List.take_left, List.drop_left]
def flats (ts : List Xt) : List Nod := (ts.reverse.map Xt.flat).flatten
def txts (ts : List Xt) : List (List UInt8) := ts.reverse.map Xt.txt
theorem flats_cons (x : Xt) (ts : List Xt) : flats (x :: ts) = flats ts ++ x.flat := by simp [flats]
theorem txts_cons (x : Xt) (ts : List Xt) : txts (x :: ts) = txts ts ++ [x.txt] := by simp [txts]
theorem popX_cases {op : Int} {st st' : List Bool} (h : popX op st = some st') :
  (op = 1 ∨ op = 2) ∧ st' = decide (op = 2) :: st ∨ (∃ r, ((op = 3 ∨ op = 4) ∧ st = true :: r ∨ op = 11 ∧ st = false :: r) ∧ st' = false :: r) ∨ (∃ r, (op = 5 ∧ st = false :: true :: r ∨ twoOp op ∧ st = false :: false :: r) ∧ st' = false :: r) := by
 rcases ops_cases op with rfl | rfl | rfl | rfl | rfl | rfl | rfl | rfl | rfl | rfl | rfl | rfl | rfl | hh
 case inr.inr.inr.inr.inr.inr.inr.inr.inr.inr.inr.inr.inr =>
  obtain ⟨h1, h2, h3, h4, h5, h6, h7, h8, h9, h10, h11, h12, h13⟩ := hh
  simp [popX, h1, h2, h3, h4, h5, h6, h7, h8, h9, h10, h11, h12, h13] at h
 all_goals
  rcases st with _ | ⟨_ | _, _ | ⟨_ | _, st⟩⟩ <;> simp [popX] at h <;> subst h <;> simp [twoOp]
theorem run_trees : ∀ (l : List Nod) (st : List Xt) (st' : List Bool), (∀ x ∈ st, x.fits) → runX l (st.map Xt.bag) = some st' →
  ∃ ts : List Xt, (∀ x ∈ ts, x.fits) ∧ ts.map Xt.bag = st' ∧ flats st ++ l = flats ts ∧ l.foldl stepT (txts st) = txts ts
 | [], st, st', hf, h => by
  simp only [runX, Option.some.injEq] at h
  exact ⟨st, hf, h, by simp, rfl⟩
 | n :: l, st, st', hf, h => by
  have key : ∃ st1 : List Xt, (∀ x ∈ st1, x.fits) ∧ stepX n (st.map Xt.bag) = some (st1.map Xt.bag) ∧ flats st ++ [n] = flats st1 ∧ stepT (txts st) n = txts st1 := by
   simp only [runX] at h
   cases hs : stepX n (st.map Xt.bag) with
   | none => rw [hs] at h; cases h
   | some s1 =>
    have hs' := hs
    unfold stepX at hs'
    split at hs'
    ·rename_i hh
     rcases popX_cases hs' with ⟨ho, he⟩ | ⟨r, ho, he⟩ | ⟨r, ho, he⟩
     ·refine ⟨.leaf n :: st, ?_, ?_, ?_, ?_⟩
      ·intro x hx
       rcases List.mem_cons.1 hx with rfl | hx
       ·exact ⟨ho, hh⟩
       ·exact hf x hx
      ·rw [he]; rfl
      ·rw [flats_cons]; rfl
      ·have := stepT_app (txts st) [] n (by unfold takesT; rw [if_pos ho]; rfl)
       rw [List.append_nil] at this
       rw [txts_cons]
       exact this
     ·obtain ⟨x, xs, rfl, hb, hr⟩ : ∃ x xs, st = x :: xs ∧ ((n.op = 3 ∨ n.op = 4) ∧ x.bag = true ∨ n.op = 11 ∧ x.bag = false) ∧ xs.map Xt.bag = r := by
       cases st with
       | nil => rcases ho with ⟨_, ho⟩ | ⟨_, ho⟩ <;> cases ho
       | cons x xs =>
        simp only [List.map_cons, List.cons.injEq] at ho
        rcases ho with ⟨a, b, c⟩ | ⟨a, b, c⟩
        ·exact ⟨x, xs, rfl, .inl ⟨a, b⟩, c⟩
        ·exact ⟨x, xs, rfl, .inr ⟨a, b⟩, c⟩
      refine ⟨.one n x :: xs, ?_, ?_, ?_, ?_⟩
      ·intro y hy
       rcases List.mem_cons.1 hy with rfl | hy
       ·exact ⟨hh, hb, hf x (by simp)⟩
       ·exact hf y (by simp [hy])
      ·rw [he, ← hr]; rfl
      ·rw [flats_cons, flats_cons, List.append_assoc]; rfl
      ·rw [txts_cons, txts_cons, stepT_app _ [x.txt] n (by unfold takesT; rw [if_neg (by rcases hb with ⟨h, _⟩ | ⟨h, _⟩ <;> omega), if_pos (by rcases hb with ⟨h, _⟩ | ⟨h, _⟩ <;> omega)]; rfl)]
       rfl
     ·obtain ⟨x, y, xs, rfl, hb, hy, hr⟩ : ∃ x y xs, st = y :: x :: xs ∧ (n.op = 5 ∧ x.bag = true ∨ twoOp n.op ∧ x.bag = false) ∧ y.bag = false ∧ xs.map Xt.bag = r := by
       rcases st with _ | ⟨y, _ | ⟨x, xs⟩⟩
       ·rcases ho with ⟨_, ho⟩ | ⟨_, ho⟩ <;> cases ho
       ·rcases ho with ⟨_, ho⟩ | ⟨_, ho⟩ <;> simp at ho
       ·simp only [List.map_cons, List.cons.injEq] at ho
        rcases ho with ⟨a, b, c, d⟩ | ⟨a, b, c, d⟩
        ·exact ⟨x, y, xs, rfl, .inl ⟨a, c⟩, b, d⟩
        ·exact ⟨x, y, xs, rfl, .inr ⟨a, c⟩, b, d⟩
      refine ⟨.two n x y :: xs, ?_, ?_, ?_, ?_⟩
      ·intro z hz
       rcases List.mem_cons.1 hz with rfl | hz
       ·exact ⟨hh, hb, hy, hf x (by simp), hf y (by simp)⟩
       ·exact hf z (by simp [hz])
      ·rw [he, ← hr]; rfl
      ·rw [flats_cons, flats_cons, flats_cons]
       simp only [List.append_assoc]
       rfl
      ·rw [txts_cons, txts_cons, txts_cons, List.append_assoc, stepT_app _ ([x.txt] ++ [y.txt]) n (by unfold takesT; unfold twoOp at hb; rw [if_neg (by rcases hb with ⟨h, _⟩ | ⟨h, _⟩ <;> omega), if_neg (by rcases hb with ⟨h, _⟩ | ⟨h, _⟩ <;> omega)]; rfl)]
       rfl
    ·cases hs'
  obtain ⟨st1, f1, b1, l1, t1⟩ := key
  have h2 : runX l (st1.map Xt.bag) = some st' := by
   simp only [runX, b1] at h
   exact h
  obtain ⟨ts, f2, b2, l2, t2⟩ := run_trees l st1 st' f1 h2
  refine ⟨ts, f2, b2, ?_, ?_⟩
  ·rw [← l2, ← l1, List.append_assoc]; rfl
  ·rw [List.foldl_cons, t1, t2]
theorem expr_tree {l : List Nod} (h : exprE l = 0) (hn : l ≠ []) : ∃ t : Xt, t.fits ∧ t.bag = false ∧ l = t.flat ∧ exprT l = t.txt ∧ l.length ≤ 32 := by
 have h32 : l.length ≤ 32 ∧ runX l [] = some [false] := by
  unfold exprE at h
  split at h
  ·cases h
  ·rename_i h32
   refine ⟨by omega, ?_⟩
   cases hr : runX l [] with
   | none => rw [hr] at h; cases h
   | some st =>
    rw [hr] at h
    simp only at h
    split at h
    ·rename_i hh
     rcases hh with hh | hh
     ·exact absurd hh hn
     ·rw [hh]
    ·cases h
 obtain ⟨ts, hf, hb, hl, ht⟩ := run_trees l [] [false] (fun x hx => by cases hx) h32.2
 rcases ts with _ | ⟨t, _ | ⟨u, ts⟩⟩
 ·cases hb
 ·simp only [List.map_cons, List.map_nil, List.cons.injEq, and_true] at hb
  refine ⟨t, hf t (by simp), hb, ?_, ?_, h32.1⟩
  ·have : l = flats [t] := hl
   rw [this]
   simp [flats]
  ·unfold exprT stackT
   have : l.foldl stepT [] = txts [t] := ht
   rw [this]
   rfl
 ·simp at hb

theorem holds_lit {n : Nod} (h : holdsB n = true) (h1 : n.op = 1) : n.v.right ∧ n = ⟨1, n.v, zeroA⟩ := by
 unfold holdsB at h
 rw [if_pos h1, Bool.and_eq_true, decide_eq_true_eq, decide_eq_true_eq] at h
 exact ⟨h.1, Nod.ext' h1 rfl h.2⟩
theorem holds_att {n : Nod} (h : holdsB n = true) (h2 : n.op = 2) : attrB n.a = true ∧ n = ⟨2, zeroV, n.a⟩ := by
 unfold holdsB at h
 rw [if_neg (by omega), if_pos h2, Bool.and_eq_true, decide_eq_true_eq] at h
 exact ⟨h.2, Nod.ext' h2 h.1 rfl⟩
theorem join_two (a b : List UInt8) : Lib.join [a, b] [32] = a ++ 32 :: b := by
 rw [Lib.join_cons]; simp [Lib.joinTail]
theorem nodeT_fun {n : Nod} (h1 : n.op ≠ 1) (h2 : n.op ≠ 2) (ps : List (List UInt8)) : nodeT n ps = 40 :: (fnW n.op ++ 32 :: (Lib.join ps [32] ++ [41])) := by
 unfold nodeT
 rw [if_neg h1, if_neg h2]
theorem one_op {n : Nod} {b : Bool} (h : (n.op = 3 ∨ n.op = 4) ∧ b = true ∨ n.op = 11 ∧ b = false) : n.op ≠ 1 ∧ n.op ≠ 2 := by omega
theorem two_op {n : Nod} {b : Bool} (h : n.op = 5 ∧ b = true ∨ twoOp n.op ∧ b = false) : n.op ≠ 1 ∧ n.op ≠ 2 := by unfold twoOp at h; omega
end Go.Proofs.YtmoglaknmlhpgaaGreatDoor
/- Rules and policies as text, plainly: their tokens; what is read of them; a text says which policy it is of. -/
namespace Go.Proofs.YtmoglaknmlhpgaaGreatDoor
set_option linter.unusedVariables false

def Rul.oks (r : Rul) : Prop := Tgt.oks r.tg ∧ ∀ n ∈ r.cond, n.ok
def polOks : Nat → Pol → Prop
 | 0, _ => True
 | d + 1, p => Tgt.oks p.tg ∧ (∀ r ∈ p.rules, r.oks) ∧ ∀ k ∈ p.kids, polOks d k
def Rul.fine (r : Rul) : Prop := Named (bl r.id) ∧ tgE r.tg = 0 ∧ exprE r.cond = 0 ∧ obE r.ob = 0
theorem rule_fine {r : Rul} {s s' : Seen} (h : ruleS r s = (0, s')) : r.fine ∧ s'.n = s.n + 1 ∧ s'.n ≤ 64 := by
 refine ⟨?_, rule_n h⟩
 unfold ruleS at h
 cases hi : idS r.id s with
 | none => rw [hi] at h; simp at h
 | some s1 =>
  rw [hi] at h
  simp only at h
  split at h
  ·simp at h
  ·simp only [Prod.mk.injEq] at h
   have h0 := h.1
   unfold orE at h0
   have hid : Named (bl r.id) := by
    unfold idS at hi
    split at hi
    ·rename_i hh; exact hh.1
    ·cases hi
   by_cases h1 : tgE r.tg = 0
   ·by_cases h2 : exprE r.cond = 0
    ·exact ⟨hid, h1, h2, by simpa [h1, h2] using h0⟩
    ·exact absurd h0 (by simp [h1, h2])
   ·exact absurd h0 (by simp [h1])
theorem first_cons {α : Type} {f : α → Seen → Int × Seen} {x : α} {l : List α} {s s' : Seen} (h : firstS f (x :: l) s = (0, s')) : ∃ s1, f x s = (0, s1) ∧ firstS f l s1 = (0, s') := by
 simp only [firstS] at h
 split at h
 ·rename_i h0; rw [h] at h0; exact absurd rfl h0
 ·rename_i h0
  have h0 : (f x s).1 = 0 := by simpa using h0
  exact ⟨(f x s).2, by rw [← h0], h⟩
theorem pol_parts {d : Nat} {p : Pol} {s s' : Seen} (h : polS (d + 1) p s = (0, s')) : Named (bl p.id) ∧ fitsB p = true ∧ tgE p.tg = 0 ∧ obE p.ob = 0 ∧ (p.rules.length ≤ 16 ∧ p.kids.length ≤ 16) ∧
  ∃ s1 s2, s1.n = s.n ∧ firstS ruleS p.rules s1 = (0, s2) ∧ firstS (polS d) p.kids s2 = (0, s') := by
 simp only [polS] at h
 cases hi : idS p.id s with
 | none => rw [hi] at h; simp at h
 | some s1 =>
  rw [hi] at h
  simp only at h
  have h1 := (idS_sub hi (t := s) ⟨fun _ h => h, Nat.le_refl _⟩).2
  have hid : Named (bl p.id) := by
   unfold idS at hi
   split at hi
   ·rename_i hh; exact hh.1
   ·cases hi
  split at h
  ·simp at h
  rename_i c1
  split at h
  ·rename_i c2; simp only [Prod.mk.injEq] at h; exact absurd h.1 c2
  rename_i c2
  split at h
  ·simp at h
  rename_i c3
  split at h
  ·rename_i c4; rw [h] at c4; exact absurd rfl c4
  rename_i c4
  have c4' : (firstS ruleS p.rules s1).1 = 0 := by simpa using c4
  have e1 : firstS ruleS p.rules s1 = (0, (firstS ruleS p.rules s1).2) := by rw [← c4']
  have c2' : orE (tgE p.tg) (obE p.ob) = 0 := by simpa using c2
  unfold orE at c2'
  have ht : tgE p.tg = 0 := by
   by_cases h1 : tgE p.tg = 0
   ·exact h1
   ·rw [if_pos h1] at c2'; exact c2'
  have ho : obE p.ob = 0 := by rw [if_neg (by rw [ht]; simp)] at c2'; exact c2'
  exact ⟨hid, by simpa using c1, ht, ho, by omega, s1, _, by rw [h1], e1, h⟩
theorem fits_all {p : Pol} (h : fitsB p = true) : (p.alg = 1 ∨ p.alg = 2 ∨ p.alg = 3 ∨ p.alg = 4 ∨ p.alg = 5 ∨ p.alg = 6) ∧ (p.set = true → p.rules = []) ∧ (p.set = false → p.kids = []) := by
 unfold fitsB at h
 simp only [Bool.and_eq_true, decide_eq_true_eq] at h
 refine ⟨by omega, fun hs => ?_, fun hs => ?_⟩
 ·have := h.2
  rw [if_pos hs, decide_eq_true_eq] at this
  exact List.length_eq_zero_iff.1 this
 ·have := h.2
  rw [if_neg (by rw [hs]; simp), Bool.and_eq_true, decide_eq_true_eq] at this
  exact List.length_eq_zero_iff.1 this.1
end Go.Proofs.YtmoglaknmlhpgaaGreatDoor
/- Policies as text, plainly: how long such texts are. -/
namespace Go.Proofs.YtmoglaknmlhpgaaGreatDoor
set_option linter.unusedVariables false

theorem val_len {v : Vl} (h : v.right) (hn : InI v.n) : (showB v).length ≤ 400 := by
 have hr := h
 unfold Vl.right RightV at hr
 have hi := Lib.itoa_length_le v.n hn.1 hn.2
 have hq := quoteL_len v.l
 rcases show_cases h with ⟨_, _, ⟨_, hs⟩ | ⟨_, hs⟩⟩ | ⟨_, _, hs⟩ | ⟨hk, _, hs⟩ | ⟨_, _, hs⟩ | ⟨hk, _, hs⟩
 all_goals rw [hs]
 ·simp
 ·simp
 ·omega
 ·have : v.l.length ≤ 64 := by rcases hr with h | h | h | h | h <;> omega
  unfold quoteB
  simp
  omega
 ·simp; omega
 ·have : v.l.length ≤ 16 := by rcases hr with h | h | h | h | h <;> first | exact h.2.2.1.2 | omega
  simp; omega
theorem catW_len (n : Int) : (catW n).length ≤ 7 := by
 unfold catW; repeat' split
 all_goals decide
theorem algW_len (n : Int) : (algW n).length ≤ 12 := by
 unfold algW; repeat' split
 all_goals decide
theorem fnW_len (n : Int) : (fnW n).length ≤ 4 := by
 unfold fnW; repeat' split
 all_goals decide
theorem doW_len (n : Int) : (doW n).length ≤ 6 := by
 unfold doW; repeat' split
 all_goals decide
theorem cmpW_len (n : Int) : (cmpW n).length ≤ 1 := by
 unfold cmpW; repeat' split
 all_goals decide
theorem effW_len (b : Bool) : (effW b).length ≤ 6 := by cases b <;> decide
theorem headW_len (p : Pol) : (headW p).length ≤ 6 := by
 unfold headW
 split <;> decide
theorem attr_len {a : Atr} (h : attrB a = true) : (attrS a).length ≤ 25 := by
 have hn := (attrB_all h).2.1.2
 have hc := catW_len a.cat
 unfold attrS attrT
 rw [if_pos h]
 simp only [List.length_append, List.length_cons]
 split <;> simp <;> omega
theorem mat_len {m : Mat} (h : matE m = 0) (hok : m.ok) : (matT m).length ≤ 500 := by
 obtain ⟨ha, _, hv⟩ := matE_all h
 have := attr_len ha
 have := cmpW_len m.op
 have := val_len hv hok.2.2.2.1
 simp only [matT, List.length_append, List.length_cons]
 omega
theorem tail_le {B : Nat} (sep : List UInt8) : ∀ xs : List (List UInt8), (∀ x ∈ xs, x.length ≤ B) → (Lib.joinTail sep xs).length ≤ xs.length * (B + sep.length)
 | [], _ => by simp [Lib.joinTail]
 | x :: xs, h => by
  have i := tail_le sep xs fun y hy => h y (by simp [hy])
  have j := h x (by simp)
  have e : Lib.joinTail sep (x :: xs) = sep ++ (x ++ Lib.joinTail sep xs) := by simp [Lib.joinTail]
  rw [e, List.length_append, List.length_append, List.length_cons, Nat.succ_mul]
  omega
theorem join_le {B : Nat} (sep : List UInt8) (xs : List (List UInt8)) (h : ∀ x ∈ xs, x.length ≤ B) : (Lib.join xs sep).length ≤ xs.length * (B + sep.length) := by
 cases xs with
 | nil => simp [Lib.join_nil]
 | cons x xs =>
  have i := tail_le sep xs fun y hy => h y (by simp [hy])
  have j := h x (by simp)
  rw [Lib.join_cons, List.length_append, List.length_cons, Nat.succ_mul]
  omega
theorem join_map {α : Type} {T : α → List UInt8} {B n : Nat} (sep : List UInt8) (l : List α) (h : ∀ x ∈ l, (T x).length ≤ B) (hn : l.length ≤ n) : (Lib.join (l.map T) sep).length ≤ n * (B + sep.length) := by
 have := join_le (B := B) sep (l.map T) (fun y hy => by obtain ⟨x, hx, rfl⟩ := List.mem_map.1 hy; exact h x hx)
 rw [List.length_map] at this
 exact Nat.le_trans this (Nat.mul_le_mul_right _ hn)
theorem all_len {l : List Mat} (h : allE l = 0) (hok : ∀ m ∈ l, m.ok) : (allT l).length ≤ 5000 := by
 have := join_map (T := matT) (B := 500) (n := 8) [44, 32] l (fun x hx => mat_len ((allE_all h).2 x hx) (hok x hx)) (allE_all h).1.2
 exact Nat.le_trans this (by decide)
theorem any_len {l : List (List Mat)} (h : anyE l = 0) (hok : ∀ a ∈ l, ∀ m ∈ a, m.ok) : (anyT l).length ≤ 41000 := by
 have := join_map (T := allT) (B := 5000) (n := 8) [32, 111, 114, 32] l (fun x hx => all_len ((anyE_all h).2 x hx) (hok x hx)) (anyE_all h).1.2
 simp only [anyT, List.length_cons, List.length_append, List.length_nil] at this ⊢
 omega
theorem tg_len {t : Tgt} (h : tgE t = 0) (hok : Tgt.oks t) : (tgT t).length ≤ 330000 := by
 have := join_map (T := anyT) (B := 41000) (n := 8) [32, 97, 110, 100, 32] t (fun x hx => any_len ((tgE_all h).2 x hx) (hok x hx)) (tgE_all h).1
 exact Nat.le_trans this (by decide)
theorem dut_len {o : Dut} (h : dutE o = 0) : (dutT o).length ≤ 100 := by
 have := (dutE_all h).2.2.1.2
 have := doW_len o.kind
 have := effW_len (decide (o.on = 2))
 simp only [dutT, List.length_append, List.length_cons, List.length_nil]
 omega
theorem tree_len : ∀ {t : Xt}, t.fits → (∀ n ∈ t.flat, n.ok) → t.txt.length ≤ 430 * t.flat.length
 | .leaf n, hf, hok => by
  obtain ⟨ho, hh⟩ := hf
  simp only [Xt.txt, nodeT, Xt.flat]
  rcases ho with ho | ho
  ·rw [if_pos ho]
   have := val_len (holds_lit hh ho).1 (hok n (by simp [Xt.flat])).2.1.2.1
   simp; omega
  ·rw [if_neg (by omega), if_pos ho]
   have := attr_len (holds_att hh ho).1
   simp; omega
 | .one n x, hf, hok => by
  obtain ⟨hh, ho, hx⟩ := hf
  have hn := one_op ho
  have i := tree_len hx (fun k hk => hok k (by simp [Xt.flat, hk]))
  have := fnW_len n.op
  simp only [Xt.txt, Xt.flat]
  rw [nodeT_fun hn.1 hn.2, Lib.join_one]
  simp only [List.length_append, List.length_cons, List.length_nil]
  omega
 | .two n x y, hf, hok => by
  obtain ⟨hh, ho, hy, fx, fy⟩ := hf
  have hn := two_op ho
  have i := tree_len fx (fun k hk => hok k (by simp [Xt.flat, hk]))
  have j := tree_len fy (fun k hk => hok k (by simp [Xt.flat, hk]))
  have := fnW_len n.op
  simp only [Xt.txt, Xt.flat]
  rw [nodeT_fun hn.1 hn.2, join_two]
  simp only [List.length_append, List.length_cons, List.length_nil]
  omega
theorem expr_len {l : List Nod} (h : exprE l = 0) (hok : ∀ n ∈ l, n.ok) : (exprS l).length ≤ 14000 := by
 unfold exprS
 split
 ·rename_i hh
  obtain ⟨t, hf, hb, hl, ht, h32⟩ := expr_tree h hh.1
  have := tree_len hf (by rw [← hl]; exact hok)
  rw [ht]
  rw [← hl] at this
  omega
 ·simp
theorem tgW_len {t : Tgt} (h : tgE t = 0) (hok : Tgt.oks t) : (tgW t).length ≤ 2 ∧ ∀ x ∈ tgW t, x.length ≤ 330000 := by
 have := tg_len h hok
 unfold tgW
 split
 ·simp
 ·refine ⟨by simp, fun x hx => ?_⟩
  simp at hx
  rcases hx with rfl | rfl
  ·simp
  ·exact this
theorem condW_len {l : List Nod} (h : exprE l = 0) (hok : ∀ n ∈ l, n.ok) : (condW l).length ≤ 2 ∧ ∀ x ∈ condW l, x.length ≤ 330000 := by
 have := expr_len h hok
 unfold condW
 split
 ·simp
 ·refine ⟨by simp, fun x hx => ?_⟩
  simp at hx
  rcases hx with rfl | rfl
  ·simp
  ·omega
theorem rulW_len {r : Rul} (h : r.fine) (hok : r.oks) : (rulW r).length ≤ 14 ∧ ∀ x ∈ rulW r, x.length ≤ 330000 := by
 obtain ⟨hn, ht, hc, ho⟩ := h
 obtain ⟨t1, t2⟩ := tgW_len ht hok.1
 obtain ⟨c1, c2⟩ := condW_len hc hok.2
 obtain ⟨o1, o2⟩ := obE_all ho
 refine ⟨by simp only [rulW, List.length_cons, List.length_append, List.length_map]; omega, fun x hx => ?_⟩
 have he := effW_len r.deny
 have hid := hn.1.2
 simp only [rulW, List.mem_cons, List.mem_append, List.mem_map] at hx
 rcases hx with rfl | rfl | (hx | hx) | ⟨o, ho', rfl⟩
 ·omega
 ·omega
 ·exact t2 x hx
 ·exact c2 x hx
 ·have := dut_len (o2 o ho'); omega
theorem rul_len {r : Rul} (h : r.fine) (hok : r.oks) : (rulT r).length ≤ 5000000 := by
 obtain ⟨a, b⟩ := rulW_len h hok
 have := join_le (B := 330000) [32] (rulW r) b
 have : (Lib.join (rulW r) [32]).length ≤ 14 * 330001 := Nat.le_trans this (Nat.mul_le_mul_right _ a)
 simp only [rulT, List.length_append, List.length_cons, List.length_nil]
 omega
def wordsN : Nat → Nat
 | 0 => 0
 | d + 1 => 40 + 16 * wordsN d
theorem rules_fine : ∀ {l : List Rul} {s s' : Seen}, firstS ruleS l s = (0, s') → ∀ r ∈ l, r.fine
 | [], _, _, _, r, hr => by cases hr
 | x :: l, s, s', h, r, hr => by
  obtain ⟨s1, h1, h2⟩ := first_cons h
  rcases List.mem_cons.1 hr with rfl | hr
  ·exact (rule_fine h1).1
  ·exact rules_fine h2 r hr
theorem kids_fine {d : Nat} : ∀ {l : List Pol} {s s' : Seen}, firstS (polS d) l s = (0, s') → ∀ k ∈ l, ∃ s1 s2, polS d k s1 = (0, s2)
 | [], _, _, _, r, hr => by cases hr
 | x :: l, s, s', h, r, hr => by
  obtain ⟨s1, h1, h2⟩ := first_cons h
  rcases List.mem_cons.1 hr with rfl | hr
  ·exact ⟨_, _, h1⟩
  ·exact kids_fine h2 r hr
theorem flatten_le {B : Nat} : ∀ l : List (List (List UInt8)), (∀ x ∈ l, x.length ≤ B) → l.flatten.length ≤ l.length * B
 | [], _ => by simp
 | x :: l, h => by
  have := flatten_le l fun y hy => h y (by simp [hy])
  have := h x (by simp)
  rw [List.flatten_cons, List.length_append, List.length_cons, Nat.succ_mul]
  omega
theorem polW_len : ∀ (d : Nat) {p : Pol} {s s' : Seen}, polS d p s = (0, s') → polOks d p → (polW d p).length ≤ wordsN d ∧ ∀ x ∈ polW d p, x.length ≤ 5000000
 | 0, p, s, s', h, _ => by simp [polS] at h
 | d + 1, p, s, s', h, hok => by
  obtain ⟨hid, hfit, ht, ho, ⟨h16, k16⟩, s1, s2, hs1, hr, hk⟩ := pol_parts h
  obtain ⟨hok1, hok2, hok3⟩ := hok
  obtain ⟨t1, t2⟩ := tgW_len ht hok1
  obtain ⟨o1, o2⟩ := obE_all ho
  have hrf := rules_fine hr
  have kf : ∀ k ∈ p.kids, (polW d k).length ≤ wordsN d ∧ ∀ x ∈ polW d k, x.length ≤ 5000000 := fun k hkk => by
   obtain ⟨a, b, e⟩ := kids_fine hk k hkk
   exact polW_len d e (hok3 k hkk)
  have kl := flatten_le (B := wordsN d) (p.kids.map (polW d)) (fun x hx => by obtain ⟨k, hkk, rfl⟩ := List.mem_map.1 hx; exact (kf k hkk).1)
  rw [List.length_map] at kl
  have kl2 : p.kids.length * wordsN d ≤ 16 * wordsN d := Nat.mul_le_mul_right _ k16
  refine ⟨?_, fun x hx => ?_⟩
  ·simp only [polW, wordsN, List.length_cons, List.length_append, List.length_map, List.length_nil]
   omega
  ·have hh := headW_len p
   have ha := algW_len p.alg
   have hi := hid.1.2
   simp only [polW, List.mem_cons, List.mem_append, List.mem_map, List.mem_flatten, List.not_mem_nil, or_false] at hx
   rcases hx with rfl | rfl | rfl | ((((hx | rfl) | ⟨r, hr', rfl⟩) | ⟨ws, ⟨k, hk', rfl⟩, hx⟩) | rfl) | ⟨o, ho', rfl⟩
   ·omega
   ·omega
   ·omega
   ·have := t2 x hx; omega
   ·simp
   ·exact rul_len (hrf r hr') (hok2 r hr')
   ·exact (kf k hk').2 x hx
   ·simp
   ·have := dut_len (o2 o ho'); omega
theorem wordsN_4 : wordsN 4 = 174760 := rfl
theorem wordsN_le : ∀ {d : Nat}, d ≤ 4 → wordsN d ≤ 174760 := by
 intro d h
 have : d = 0 ∨ d = 1 ∨ d = 2 ∨ d = 3 ∨ d = 4 := by omega
 rcases this with rfl | rfl | rfl | rfl | rfl <;> decide
theorem polT_len {p : Pol} (h : rightE p = 0) (hok : polOks 4 p) : (polT p).length ≤ 1000000000000 := by
 have e0 : polS 4 p ⟨[], 0⟩ = (0, (polS 4 p ⟨[], 0⟩).2) := by unfold rightE at h; rw [← h]
 obtain ⟨a, b⟩ := polW_len 4 e0 hok
 have := join_le (B := 5000000) [32] (polW 4 p) b
 rw [wordsN_4] at a
 have h2 : (polW 4 p).length * (5000000 + ([32] : List UInt8).length) ≤ 174760 * 5000001 := Nat.mul_le_mul_right _ a
 unfold polT
 omega
end Go.Proofs.YtmoglaknmlhpgaaGreatDoor
/- Expressions as text, plainly: the stack at each node. -/
namespace Go.Proofs.YtmoglaknmlhpgaaGreatDoor
set_option linter.unusedVariables false

theorem stackT_next {l : List Nod} {k : Nat} {x : Nod} (hx : l[k]? = some x) : stackT (l.take (k + 1)) = stepT (stackT (l.take k)) x := by
 unfold stackT
 rw [take_next hx, List.foldl_append]
 rfl
theorem run_some {l : List Nod} (h : exprE l = 0) (k : Nat) : ∃ st, runX (l.take k) [] = some st ∧ ∀ x, l[k]? = some x → ∃ st', stepX x st = some st' := by
 by_cases hn : l = []
 ·subst hn
  exact ⟨[], by simp [runX], fun x hx => by simp at hx⟩
 ·have h2 : runX l [] = some [false] := by
   unfold exprE at h
   split at h
   ·cases h
   ·cases hr : runX l [] with
    | none => rw [hr] at h; cases h
    | some st =>
     rw [hr] at h
     simp only at h
     split at h
     ·rename_i hh
      rcases hh with hh | hh
      ·exact absurd hh hn
      ·rw [hh]
     ·cases h
  have h3 := h2
  rw [← List.take_append_drop k l, runX_app] at h3
  cases hr : runX (l.take k) [] with
  | none => rw [hr] at h3; cases h3
  | some st =>
   refine ⟨st, rfl, fun x hx => ?_⟩
   rw [hr] at h3
   simp only at h3
   have hd : l.drop k = x :: l.drop (k + 1) := by
    have hlt : k < l.length := by
     rcases Nat.lt_or_ge k l.length with h | h
     ·exact h
     ·rw [List.getElem?_eq_none h] at hx; cases hx
    rw [List.drop_eq_getElem_cons hlt]
    rw [List.getElem?_eq_getElem hlt] at hx
    injection hx with hx
    rw [hx]
   rw [hd] at h3
   simp only [runX] at h3
   cases hs : stepX x st with
   | none => rw [hs] at h3; cases h3
   | some st' => exact ⟨st', rfl⟩
theorem flat_pos : ∀ t : Xt, 1 ≤ t.flat.length
 | .leaf n => by simp [Xt.flat]
 | .one n x => by simp [Xt.flat]
 | .two n x y => by simp [Xt.flat]; omega
theorem flats_len : ∀ ts : List Xt, ts.length ≤ (flats ts).length
 | [] => Nat.zero_le _
 | t :: ts => by
  have := flats_len ts
  have := flat_pos t
  rw [flats_cons, List.length_append, List.length_cons]
  omega
theorem flats_mem : ∀ {ts : List Xt} {t : Xt}, t ∈ ts → ∀ n ∈ t.flat, n ∈ flats ts
 | x :: ts, t, ht, n, hn => by
  rw [flats_cons, List.mem_append]
  rcases List.mem_cons.1 ht with rfl | ht
  ·exact .inr hn
  ·exact .inl (flats_mem ht n hn)
theorem flat_le : ∀ {ts : List Xt} {t : Xt}, t ∈ ts → t.flat.length ≤ (flats ts).length
 | x :: ts, t, ht => by
  rw [flats_cons, List.length_append]
  rcases List.mem_cons.1 ht with rfl | ht
  ·omega
  ·have := flat_le ht; omega
theorem stack_at {l : List Nod} (h : exprE l = 0) (hok : ∀ n ∈ l, n.ok) (k : Nat) : (stackT (l.take k)).length ≤ 32 ∧ (∀ x ∈ stackT (l.take k), x.length ≤ 14000) ∧
  ∀ x, l[k]? = some x → holdsB x = true ∧ (1 ≤ x.op ∧ x.op ≤ 13) ∧ takesT x.op ≤ (stackT (l.take k)).length := by
 have h32 : l.length ≤ 32 := by
  unfold exprE at h
  split at h
  ·cases h
  ·omega
 obtain ⟨st, hr, hs⟩ := run_some h k
 obtain ⟨ts, hf, hb, hl, ht⟩ := run_trees (l.take k) [] st (fun x hx => by cases hx) hr
 have hl' : l.take k = flats ts := hl
 have ht' : stackT (l.take k) = txts ts := ht
 have hlen : (flats ts).length ≤ 32 := by rw [← hl', List.length_take]; omega
 have hx : (txts ts).length = ts.length := by simp [txts]
 have := flats_len ts
 refine ⟨by rw [ht', hx]; omega, fun x hx => ?_, fun x hx' => ?_⟩
 ·rw [ht'] at hx
  unfold txts at hx
  obtain ⟨t, ht, rfl⟩ := List.mem_map.1 hx
  have ht : t ∈ ts := by simpa using ht
  have a := tree_len (hf t ht) (fun n hn => hok n (List.mem_of_mem_take (by rw [hl']; exact flats_mem ht n hn)))
  have b := flat_le ht
  omega
 ·obtain ⟨st', hs'⟩ := hs x hx'
  unfold stepX at hs'
  split at hs'
  ·rename_i hh
   rw [ht', hx]
   have hbl : st.length = ts.length := by rw [← hb, List.length_map]
   rcases popX_cases hs' with ⟨ho, he⟩ | ⟨r, ho, he⟩ | ⟨r, ho, he⟩
   ·refine ⟨hh, by omega, ?_⟩
    unfold takesT
    rw [if_pos ho]
    exact Nat.zero_le _
   ·refine ⟨hh, by omega, ?_⟩
    have : 1 ≤ st.length := by rcases ho with ⟨_, h⟩ | ⟨_, h⟩ <;> rw [h] <;> simp
    unfold takesT
    rw [if_neg (by omega), if_pos (by omega)]
    omega
   ·unfold twoOp at ho
    refine ⟨hh, by omega, ?_⟩
    have : 2 ≤ st.length := by rcases ho with ⟨_, h⟩ | ⟨_, h⟩ <;> rw [h] <;> simp
    unfold takesT
    rw [if_neg (by omega), if_neg (by omega)]
    omega
  ·cases hs'
theorem stack_end {l : List Nod} (h : exprE l = 0) (hn : l ≠ []) : stackT l = [exprT l] := by
 obtain ⟨st, hr, _⟩ := run_some h l.length
 rw [List.take_length] at hr
 obtain ⟨ts, hf, hb, hl, ht⟩ := run_trees l [] st (fun x hx => by cases hx) hr
 have h1 : st = [false] := by
  unfold exprE at h
  split at h
  ·cases h
  ·rw [hr] at h
   simp only at h
   split at h
   ·rename_i hh
    exact hh.resolve_left hn
   ·cases h
 subst h1
 rcases ts with _ | ⟨t, _ | ⟨u, ts⟩⟩
 ·cases hb
 ·have : stackT l = txts [t] := ht
  unfold exprT
  rw [this]
  rfl
 ·simp at hb
theorem node_len {l : List Nod} (h : exprE l = 0) (hok : ∀ n ∈ l, n.ok) {k : Nat} {x : Nod} (hx : l[k]? = some x) : (nodeT x ((stackT (l.take k)).drop ((stackT (l.take k)).length - takesT x.op))).length ≤ 14000 := by
 have h1 := (stack_at h hok (k + 1)).2.1
 rw [stackT_next hx] at h1
 exact h1 _ (by unfold stepT; simp)
end Go.Proofs.YtmoglaknmlhpgaaGreatDoor
