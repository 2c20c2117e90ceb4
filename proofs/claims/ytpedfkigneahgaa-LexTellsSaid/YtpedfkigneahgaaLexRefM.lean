/- The reference's Lex: what its round makes, plainly. -/
import Derived.Test.YtpedfkigneahgaaLexRefQ
import Derived.Test.YtpedfkigneahgaaLexAllF
import Derived.Test.YtpedfkigneahgaaLexAll0
import Derived.Deep.CutRange
import Derived.Deep.CutBlock
import Derived.Deep.RegionLaw
namespace Go.Proofs.Ytpedfkigneahgaa
set_option linter.unusedVariables false
open Go.RowKit

/-- Lex's answer. -/
def RLexP (W : World) (x : Except Nat (List Tk)) (e : Ending) (w' : World) : Prop :=
  match x with
  | .ok ts => ∃ A n c, e = .returned (.tuple #[.slice A n c, .int .i64 0, .int .i64 0]) ∧ w'.ownsRow W.heap.size 27 4 (.slice A n c) n (cells4 ts) ∧ Below W.heap.size W w'
  | .error i => e = .returned (.tuple #[.slice none 0 0, .int .i64 5, .int .i64 (i : Int)]) ∧ Below W.heap.size W w'
theorem rlex_bad {W w' : World} {x : Except Nat (List Tk)} {i : Nat} {e : Ending} (h : x = .error i) (he : e = .returned (.tuple #[.slice none 0 0, .int .i64 5, .int .i64 (i : Int)])) (hb : Below W.heap.size W w') : RLexP W x e w' := by subst h; exact ⟨he, hb⟩
theorem rlex_ok {W w' : World} {x : Except Nat (List Tk)} {ts : List Tk} {A : Option Addr} {n c : Nat} {e : Ending} (h : x = .ok ts) (he : e = .returned (.tuple #[.slice A n c, .int .i64 0, .int .i64 0])) (ho : w'.ownsRow W.heap.size 27 4 (.slice A n c) n (cells4 ts)) (hb : Below W.heap.size W w') : RLexP W x e w' := by subst h; exact ⟨A, n, c, he, ho, hb⟩

/-- The tokens so far; behind place k the rest goes on as all of it. -/
def RBase (s : ByteArray) (W : World) (ts : List Tk) (A : Option Addr) (m c k : Nat) (wr : World) : Prop :=
  wr.ownsRow W.heap.size 27 4 (.slice A m c) m (cells4 ts) ∧ Below W.heap.size W wr ∧ ts.length ≤ k ∧ k ≤ s.size ∧ lexB s.data.toList 0 = cat ts (lexB (s.data.toList.drop k) k)
def RLRel (s : ByteArray) (W : World) (l a : Value) (wr : World) : Prop :=
  ∃ (ts : List Tk) (A : Option Addr) (m c k : Nat), l = .slice A m c ∧ a = .int .i64 (k : Int) ∧ RBase s W ts A m c k wr
theorem RBase.then_ {s : ByteArray} {W wr w2 : World} {ts : List Tk} {A : Option Addr} {m c k : Nat} (h : RBase s W ts A m c k wr) (hb : Below wr.heap.size wr w2) : RBase s W ts A m c k w2 := by
  obtain ⟨h1, h2, h4, h5, h6⟩ := h
  exact ⟨own_tok h1 hb, h2.trans (hb.mono h2.size), h4, h5, h6⟩
theorem RBase.skip {s : ByteArray} {W wr : World} {ts : List Tk} {A : Option Addr} {m c k j : Nat} (h : RBase s W ts A m c k wr) (hj : j = k + ((s.data.toList.drop k).takeWhile blk).length) : RBase s W ts A m c j wr := by
  subst hj
  obtain ⟨h1, h2, h4, h5, h6⟩ := h
  exact ⟨h1, h2, by omega, tw_le s blk k h5, by rw [h6, lexB_skip, List.drop_drop]⟩
/-- A token in a new block, as Go lays it. -/
def newTok (wr : World) (j : Int) : World := wr.alloc (.cells #[.int .i64 0, .int .i64 j, .int .i64 0, .string ⟨#[]⟩] 27)
theorem newTok_tb (wr : World) (j : Int) : Tb (newTok wr j) wr.heap.size 0 j 0 ⟨#[]⟩ := Tb.made wr 0 j 0 ⟨#[]⟩
theorem newTok_below (wr : World) (j : Int) : Below wr.heap.size wr (newTok wr j) := (Below.refl _ _).alloc (Nat.le_refl _) _
/-- The next round's state, behind one more token. -/
theorem RBase.push {s : ByteArray} {W wr w2 : World} {ts : List Tk} {A A2 : Option Addr} {m c c2 j q : Nat} {b : UInt8} {r : List UInt8} {kk nn : Int} {st : List UInt8} (h : RBase s W ts A m c j wr) (hd : s.data.toList.drop j = b :: r) (hb : blk b = false) (ht : tokB (s.data.toList.drop j) = some (kk, nn, st, q))
    (ho : w2.ownsRow W.heap.size 27 4 (.slice A2 (m + 1) c2) (m + 1) (cells4 (ts ++ [⟨kk, j, nn, ⟨st.toArray⟩⟩]))) (hbel : Below W.heap.size W w2) : RBase s W (ts ++ [⟨kk, j, nn, ⟨st.toArray⟩⟩]) A2 (m + 1) c2 (j + q) w2 := by
  have hq := tokB_pos ht
  have hj2 : q ≤ s.size - j := by have := hq.2.1; rwa [List.length_drop, data_len] at this
  have hjs : j ≤ s.size := h.2.2.2.1
  exact ⟨ho, hbel, by rw [List.length_append]; have := h.2.2.1; simp; omega, by omega, by rw [h.2.2.2.2, cat_tok hd hb ht, List.drop_drop]⟩
theorem RBase.bad {s : ByteArray} {W wr : World} {ts : List Tk} {A : Option Addr} {m c j : Nat} {b : UInt8} {r : List UInt8} (h : RBase s W ts A m c j wr) (hd : s.data.toList.drop j = b :: r) (hb : blk b = false) (ht : tokB (s.data.toList.drop j) = none) : lexB s.data.toList 0 = .error j := by
  rw [h.2.2.2.2]; exact cat_bad hd hb ht
theorem RBase.end {s : ByteArray} {W wr : World} {ts : List Tk} {A : Option Addr} {m c : Nat} (h : RBase s W ts A m c s.size wr) : lexB s.data.toList 0 = .ok (ts ++ [⟨7, (s.size : Int), 0, ⟨#[]⟩⟩]) := by
  rw [h.2.2.2.2, List.drop_of_length_le (by rw [data_len]; exact Nat.le_refl _), lexB_nil]
  rfl
theorem blk_eq (b : UInt8) : blk b = (((b.toNat : Int) == 32) || ((b.toNat : Int) == 10)) := by unfold blk; rw [Bool.eq_iff_iff]; simp; omega

theorem named_tw {b : UInt8} {r : List UInt8} (h : lett b = true) : Named ((b :: r).takeWhile inm) ↔ ((b :: r).takeWhile inm).length ≤ 16 := by
  have hi : inm b = true := by unfold inm; rw [h]; rfl
  constructor
  · exact fun hn => hn.1.2
  · intro hl
    refine ⟨⟨by rw [List.takeWhile_cons, if_pos hi]; simp, hl⟩, fun j hj => ?_⟩
    have hm := tw_all inm (b :: r) _ (List.getElem_mem hj)
    unfold okAt
    cases j with
    | zero =>
      have : ((b :: r).takeWhile inm)[0] = b := by simp [hi]
      rw [this, h]; rfl
    | succ j =>
      have hm2 : (lett ((b :: r).takeWhile inm)[j + 1] || later ((b :: r).takeWhile inm)[j + 1]) = true := hm
      simpa using hm2
theorem wordE_lett {l : List UInt8} {a : Nat} {b : UInt8} (h : l[a]? = some b) (hb : lett b = true) : wordE l a = a + ((l.drop a).takeWhile inm).length := by unfold wordE; rw [h]; simp [hb]
theorem wordE_not {l : List UInt8} {a : Nat} (h : ¬ Named ((l.drop a).takeWhile inm)) : ¬ Named ((l.drop a).take (wordE l a - a)) := by
  unfold wordE
  split
  · rw [Nat.add_sub_cancel_left, tw_take]; exact h
  · rw [Nat.sub_self]; exact fun hn => by have := hn.1.1; simp at this
theorem wordE_named {l : List UInt8} {a : Nat} (h : Named ((l.drop a).takeWhile inm)) : wordE l a = a + ((l.drop a).takeWhile inm).length := by
  cases hd : l.drop a with
  | nil => rw [hd] at h; have := h.1.1; simp at this
  | cons c r =>
    have hla : l[a]? = some c := by rw [← List.head?_drop, hd]; rfl
    have h0 : lett c = true := by
      rw [hd] at h
      have hi : inm c = true := by
        cases hi : inm c with
        | true => rfl
        | false => rw [List.takeWhile_cons, if_neg (by rw [hi]; simp)] at h; have := h.1.1; simp at this
      have := h.2 0 (by rw [List.takeWhile_cons, if_pos hi]; simp)
      have e : ((c :: r).takeWhile inm)[0]'(by rw [List.takeWhile_cons, if_pos hi]; simp) = c := by simp [hi]
      rw [e] at this
      unfold okAt at this
      simpa using this
    rw [wordE_lett hla h0, hd]
theorem wordE_le (s : ByteArray) {a : Nat} (ha : a ≤ s.size) : a ≤ wordE s.data.toList a ∧ wordE s.data.toList a ≤ s.size := by
  unfold wordE
  split
  · have := tw_le s inm a ha; omega
  · omega

theorem numR_no {ds : List UInt8} {n most : Nat} (h : NumR ds n false) (hm : most ≤ 9223372036854775808) : decD most ds = none := by rw [h most hm, if_neg (by simp)]
theorem numR_yes {ds : List UInt8} {n most : Nat} (h : NumR ds n true) (hm : most ≤ 9223372036854775808) (hn : n ≤ most) : decD most ds = some n := by rw [h most hm, if_pos ⟨rfl, hn⟩]
theorem numR_over {ds : List UInt8} {n most : Nat} (h : NumR ds n true) (hm : most ≤ 9223372036854775808) (hn : most < n) : decD most ds = none := by rw [h most hm, if_neg (by omega)]
theorem empty_ba : (⟨([] : List UInt8).toArray⟩ : ByteArray) = ⟨#[]⟩ := rfl

theorem conv_ob {w : World} {g : Nat} (c : UInt8) (h : Ob w g 5 #[.int .u8 (c.toNat : Int)]) : (convert 34 9 (.slice (some ⟨g, 0, none⟩) 1 1)).run Try.prog w = .ok (.string ⟨#[c]⟩) w :=
  conv_text Try.underlying34 Try.underlying5 Try.underlying9 (Ob.sl (xs := bv [c]) h rfl (by simp [maxLen]))
theorem Ob.drew {w : World} {g : Nat} {t : TypeId} {cs : Array Value} (h : Ob w g t cs) : Ob w.drew g t cs := h
theorem Tb.drew {w : World} {g : Nat} {k p n : Int} {s : ByteArray} (h : Tb w g k p n s) : Tb w.drew g k p n s := h

/-- What stands behind the switch: the token's end, whether it is right, and what its block holds. -/
def RCut (s : ByteArray) (wo : World) (j : Nat) (e o : Value) (w3 : World) : Prop := ∃ (e' : Int) (ok : Bool) (kk nn : Int) (ss : ByteArray), e = .int .i64 e' ∧ o = .bool ok ∧ Tb w3 wo.heap.size kk (j : Int) nn ss ∧ Below wo.heap.size wo w3 ∧ BackT (tokB (s.data.toList.drop j)) j ok kk nn ss e'
/-- A block of the text, by its number. -/
def findBlock (n : Nat) : Code → Option Code
  | .block m c => if m == n then some (.block m c) else findBlock n c
  | .seq a b => match findBlock n a with
    | some r => some r
    | none => findBlock n b
  | .loop c => findBlock n c
  | _ => none
end Go.Proofs.Ytpedfkigneahgaa
