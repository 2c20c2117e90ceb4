/- lex.All: its frame, and what holds at each of its labels. -/
import Derived.Test.YtpedfkigneahgaaDoorLexPast
import Derived.Test.YtpedfkigneahgaaDoorLexClone
import Derived.Test.YtpedfkigneahgaaDoorLexText
import Derived.Test.YtpedfkigneahgaaDoorToks
import Derived.Test.YtpedfkigneahgaaDoorScopes
namespace Go.Proofs.YtpedfkigneahgaaDoor
set_option linter.unusedVariables false
open Go.RowKit

/-- The frame: the text, the tokens so far, the present one's block, place, end, whether it is right, its first byte; all else open. -/
def Fr (a : Act) (s : ByteArray) (g : Nat) (vl va ve vo vc : Value) : Prop := ∃ u : Nat → Value, a = { tmps := #[.string s, u 1, u 2, u 3, u 4, vl, .pointer (some ⟨g, 0, none⟩), va, ve, vo, vc, u 11, u 12, u 13, u 14, u 15, u 16, u 17, u 18, u 19, u 20, u 21, u 22, u 23, u 24, u 25, u 26, u 27, u 28, u 29, u 30, u 31, u 32, u 33, u 34, u 35, u 36, u 37, u 38, u 39, u 40, u 41, u 42, u 43, u 44, u 45, u 46, u 47, u 48, u 49, u 50, u 51, u 52, u 53, u 54, u 55, u 56, u 57, u 58, u 59, u 60, u 61, u 62, u 63, u 64, u 65, u 66, u 67, u 68, u 69, u 70, u 71, u 72, u 73, u 74, u 75, u 76, u 77, u 78, u 79, u 80, u 81, u 82, u 83, u 84, u 85, u 86, u 87, u 88, u 89, u 90, u 91, u 92, u 93, u 94, u 95, u 96, u 97, u 98, u 99, u 100, u 101, u 102, u 103, u 104, u 105, u 106, u 107, u 108, u 109, u 110, u 111, u 112, u 113, u 114, u 115, u 116, u 117, u 118, u 119, u 120, u 121, u 122, u 123, u 124, u 125, u 126, u 127, u 128, u 129, u 130, u 131, u 132, u 133, u 134, u 135], defers := [] }
set_option maxRecDepth 100000 in
theorem Fr_mk {s : ByteArray} {g : Nat} {vl va ve vo vc x1 x2 x3 x4 x11 x12 x13 x14 x15 x16 x17 x18 x19 x20 x21 x22 x23 x24 x25 x26 x27 x28 x29 x30 x31 x32 x33 x34 x35 x36 x37 x38 x39 x40 x41 x42 x43 x44 x45 x46 x47 x48 x49 x50 x51 x52 x53 x54 x55 x56 x57 x58 x59 x60 x61 x62 x63 x64 x65 x66 x67 x68 x69 x70 x71 x72 x73 x74 x75 x76 x77 x78 x79 x80 x81 x82 x83 x84 x85 x86 x87 x88 x89 x90 x91 x92 x93 x94 x95 x96 x97 x98 x99 x100 x101 x102 x103 x104 x105 x106 x107 x108 x109 x110 x111 x112 x113 x114 x115 x116 x117 x118 x119 x120 x121 x122 x123 x124 x125 x126 x127 x128 x129 x130 x131 x132 x133 x134 x135 : Value} : Fr { tmps := #[.string s, x1, x2, x3, x4, vl, .pointer (some ⟨g, 0, none⟩), va, ve, vo, vc, x11, x12, x13, x14, x15, x16, x17, x18, x19, x20, x21, x22, x23, x24, x25, x26, x27, x28, x29, x30, x31, x32, x33, x34, x35, x36, x37, x38, x39, x40, x41, x42, x43, x44, x45, x46, x47, x48, x49, x50, x51, x52, x53, x54, x55, x56, x57, x58, x59, x60, x61, x62, x63, x64, x65, x66, x67, x68, x69, x70, x71, x72, x73, x74, x75, x76, x77, x78, x79, x80, x81, x82, x83, x84, x85, x86, x87, x88, x89, x90, x91, x92, x93, x94, x95, x96, x97, x98, x99, x100, x101, x102, x103, x104, x105, x106, x107, x108, x109, x110, x111, x112, x113, x114, x115, x116, x117, x118, x119, x120, x121, x122, x123, x124, x125, x126, x127, x128, x129, x130, x131, x132, x133, x134, x135], defers := [] } s g vl va ve vo vc := ⟨fun i => (#[undef, x1, x2, x3, x4, undef, undef, undef, undef, undef, undef, x11, x12, x13, x14, x15, x16, x17, x18, x19, x20, x21, x22, x23, x24, x25, x26, x27, x28, x29, x30, x31, x32, x33, x34, x35, x36, x37, x38, x39, x40, x41, x42, x43, x44, x45, x46, x47, x48, x49, x50, x51, x52, x53, x54, x55, x56, x57, x58, x59, x60, x61, x62, x63, x64, x65, x66, x67, x68, x69, x70, x71, x72, x73, x74, x75, x76, x77, x78, x79, x80, x81, x82, x83, x84, x85, x86, x87, x88, x89, x90, x91, x92, x93, x94, x95, x96, x97, x98, x99, x100, x101, x102, x103, x104, x105, x106, x107, x108, x109, x110, x111, x112, x113, x114, x115, x116, x117, x118, x119, x120, x121, x122, x123, x124, x125, x126, x127, x128, x129, x130, x131, x132, x133, x134, x135] : Array Value).getD i undef, rfl⟩
theorem Fr.at7 {a : Act} {s : ByteArray} {g : Nat} {vl va ve vo vc : Value} (h : Fr a s g vl va ve vo vc) : a.tmps.getD 7 undef = va := by
  obtain ⟨u, rfl⟩ := h
  rfl

/-- The tokens so far; behind place k the rest of the text goes on as all of it. -/
def ABase (s : ByteArray) (W : World) (ts : List Tk) (A : Option Addr) (m c k : Nat) (wr : World) : Prop :=
  wr.ownsRow (W.heap.size + 1) 30 4 (.slice A m c) m (cells4 ts) ∧ Below W.heap.size W wr ∧ W.heap.size + 1 ≤ wr.heap.size ∧ ts.length ≤ k ∧ k ≤ s.size ∧ lexB s.data.toList 0 = cat ts (lexB (s.data.toList.drop k) k)
/-- Which label a first byte goes to. -/
def goesTo (c : UInt8) : Nat := if lett c = true then 1 else if dgt c = true ∨ c = 45 then 2 else if c = 64 then 3 else if c = 35 then 4 else if c = 34 then 5 else 6
/-- Behind blanks: the token that begins at k isn't looked at yet. -/
def JTok (s : ByteArray) (W : World) (lab : Nat) (a : Act) (wr : World) : Prop :=
  ∃ (ts : List Tk) (A : Option Addr) (m c k : Nat) (b : UInt8) (ve vo : Value), Fr a s W.heap.size (.slice A m c) (.int .i64 (k : Int)) ve vo (.int .u8 (b.toNat : Int)) ∧ ABase s W ts A m c k wr ∧ k < s.size ∧ s.data.toList[k]? = some b ∧ blk b = false ∧ goesTo b = lab ∧ Tb wr W.heap.size 0 (k : Int) 0 ⟨#[]⟩
/-- Ahead of blanks. -/
def JBlank (s : ByteArray) (W : World) (a : Act) (wr : World) : Prop :=
  ∃ (ts : List Tk) (A : Option Addr) (m c k : Nat) (ve vo vc : Value) (kk pp nn : Int) (ss : ByteArray), Fr a s W.heap.size (.slice A m c) (.int .i64 (k : Int)) ve vo vc ∧ ABase s W ts A m c k wr ∧ Tb wr W.heap.size kk pp nn ss
/-- A token right or not, as one goes back. -/
def BackT (x : Option (Int × Int × List UInt8 × Nat)) (k : Nat) (ok : Bool) (kk nn : Int) (ss : ByteArray) (e : Int) : Prop :=
  ok = x.isSome ∧ ∀ k' n' st j, x = some (k', n', st, j) → kk = k' ∧ (k : Int) = (k : Int) ∧ nn = n' ∧ ss = ⟨st.toArray⟩ ∧ e = ((k + j : Nat) : Int)
/-- Behind a token, right or not. -/
def JBack (s : ByteArray) (W : World) (a : Act) (wr : World) : Prop :=
  ∃ (ts : List Tk) (A : Option Addr) (m c k : Nat) (b : UInt8) (e : Int) (ok : Bool) (vc : Value) (kk nn : Int) (ss : ByteArray), Fr a s W.heap.size (.slice A m c) (.int .i64 (k : Int)) (.int .i64 e) (.bool ok) vc ∧ ABase s W ts A m c k wr ∧ k < s.size ∧ s.data.toList[k]? = some b ∧ blk b = false ∧ Tb wr W.heap.size kk (k : Int) nn ss ∧ BackT (tokB (s.data.toList.drop k)) k ok kk nn ss e
def JAll (s : ByteArray) (W : World) (lab : Nat) (a : Act) (wr : World) : Prop :=
  if lab = 0 then JBlank s W a wr else if lab = 7 then JBack s W a wr else JTok s W lab a wr
/-- How far it is to the end, and from label to label. -/
def muAll (s : ByteArray) (lab : Nat) (a : Act) (_ : World) : Nat := 3 * (s.size - (intOf (a.tmps.getD 7 undef)).toNat) + if lab = 0 then 2 else if lab = 7 then 0 else 1
theorem mu_eq {s : ByteArray} {lab k : Nat} {a : Act} {w : World} {g : Nat} {vl ve vo vc : Value} (h : Fr a s g vl (.int .i64 (k : Int)) ve vo vc) : muAll s lab a w = 3 * (s.size - k) + if lab = 0 then 2 else if lab = 7 then 0 else 1 := by
  unfold muAll
  rw [h.at7]
  simp [intOf]
/-- All's answer. -/
def AllP (W : World) (x : Except Nat (List Tk)) (e : Ending) (w' : World) : Prop :=
  match x with
  | .ok ts => ∃ A n c, e = .returned (.tuple #[.slice A n c, .int .i64 0, .int .i64 0]) ∧ w'.ownsRow (W.heap.size + 1) 30 4 (.slice A n c) n (cells4 ts) ∧ Below W.heap.size W w'
  | .error i => e = .returned (.tuple #[.slice none 0 0, .int .i64 5, .int .i64 (i : Int)]) ∧ Below W.heap.size W w'
/-- What the run leaves, at whichever exit. -/
def allQ (s : ByteArray) (W : World) : Exit → Act → World → Prop := bodyPost Tryd.prog Tryd.f5 fun e w' => AllP W (lexB s.data.toList 0) e w'

theorem drop_at' {l : List UInt8} {k : Nat} {c : UInt8} (h : l[k]? = some c) : l.drop k = c :: l.drop (k + 1) := drop_at h
theorem ba_of {s : ByteArray} {l : List UInt8} (h : s.data.toList = l) : s = ⟨l.toArray⟩ := by
  subst h
  simp
theorem size_set (w : World) (p : Addr) (v : Value) : (w.setCell p v).heap.size = w.heap.size := by simp [World.setCell]
section
variable {s : ByteArray} {W wr w2 : World} {ts : List Tk} {A : Option Addr} {m c k : Nat}
theorem ABase.then_ (h : ABase s W ts A m c k wr) (hb : Below wr.heap.size wr w2) : ABase s W ts A m c k w2 := by
  obtain ⟨h1, h2, h3, h4, h5, h6⟩ := h
  exact ⟨own_tok h1 hb, h2.trans (hb.mono (by omega)), by have := hb.size; omega, h4, h5, h6⟩
theorem ABase.set (h : ABase s W ts A m c k wr) (i : Nat) (v : Value) : ABase s W ts A m c k (wr.setCell ⟨W.heap.size, i, none⟩ v) := by
  obtain ⟨h1, h2, h3, h4, h5, h6⟩ := h
  exact ⟨own_only h1 (Only.refl.setCell (p := ⟨W.heap.size, i, none⟩) rfl v) (Nat.lt_succ_self _), h2.setCell (p := ⟨W.heap.size, i, none⟩) (Nat.le_refl _) v, by rw [size_set]; omega, h4, h5, h6⟩
end
theorem JAll7 {s : ByteArray} {W : World} {a : Act} {wr : World} (h : JBack s W a wr) : JAll s W 7 a wr := by unfold JAll; rw [if_neg (by omega), if_pos rfl]; exact h
theorem JAll0 {s : ByteArray} {W : World} {a : Act} {wr : World} (h : JBlank s W a wr) : JAll s W 0 a wr := by unfold JAll; rw [if_pos rfl]; exact h
theorem JAllT {s : ByteArray} {W : World} {a : Act} {wr : World} {lab : Nat} (h0 : lab ≠ 0) (h7 : lab ≠ 7) (h : JTok s W lab a wr) : JAll s W lab a wr := by unfold JAll; rw [if_neg h0, if_neg h7]; exact h
theorem back_none {k : Nat} {kk nn : Int} {ss : ByteArray} {e : Int} : BackT none k false kk nn ss e := ⟨rfl, fun _ _ _ _ h => by cases h⟩
theorem back_some {k j : Nat} {kk nn : Int} {ss : ByteArray} {e : Int} {st : List UInt8} (h1 : ss = ⟨st.toArray⟩) (h2 : e = ((k + j : Nat) : Int)) : BackT (some (kk, nn, st, j)) k true kk nn ss e :=
  ⟨rfl, fun k' n' st' j' h => by
    simp only [Option.some.injEq, Prod.mk.injEq] at h
    obtain ⟨rfl, rfl, rfl, rfl⟩ := h
    exact ⟨rfl, rfl, rfl, h1, h2⟩⟩
theorem tw_take (p : UInt8 → Bool) (l : List UInt8) : l.take (l.takeWhile p).length = l.takeWhile p := by
  induction l with
  | nil => rfl
  | cons c r ih =>
    cases h : p c with
    | true => rw [List.takeWhile_cons, if_pos h, List.length_cons, List.take_succ_cons, ih]
    | false => rw [List.takeWhile_cons, if_neg (by rw [h]; simp)]; rfl
theorem tw_all (p : UInt8 → Bool) (l : List UInt8) : ∀ c ∈ l.takeWhile p, p c = true := by
  induction l with
  | nil => intro c h; cases h
  | cons d r ih =>
    intro c h
    cases hd : p d with
    | true =>
      rw [List.takeWhile_cons, if_pos hd] at h
      rcases List.mem_cons.1 h with rfl | h
      · exact hd
      · exact ih c h
    | false => rw [List.takeWhile_cons, if_neg (by rw [hd]; simp)] at h; cases h
/-- The bytes from a on, as long as there are such. -/
theorem ext_tw (s : ByteArray) (p : UInt8 → Bool) (a : Nat) : (s.extract a (a + ((s.data.toList.drop a).takeWhile p).length)).data.toList = (s.data.toList.drop a).takeWhile p := by
  rw [ext_mid, Nat.add_sub_cancel_left, tw_take]
theorem tw_le (s : ByteArray) (p : UInt8 → Bool) (a : Nat) (ha : a ≤ s.size) : a + ((s.data.toList.drop a).takeWhile p).length ≤ s.size := by
  have := tk_len p (s.data.toList.drop a)
  rw [List.length_drop, data_len] at this
  omega
/-- .. one byte ahead. -/
theorem ext_tw1 (s : ByteArray) (p : UInt8 → Bool) (k : Nat) {b : UInt8} (hb : s.data.toList[k]? = some b) : (s.extract k (k + 1 + ((s.data.toList.drop (k + 1)).takeWhile p).length)).data.toList = b :: (s.data.toList.drop (k + 1)).takeWhile p := by
  rw [ext_mid, drop_at' hb, show k + 1 + ((s.data.toList.drop (k + 1)).takeWhile p).length - k = ((s.data.toList.drop (k + 1)).takeWhile p).length + 1 by omega, List.take_succ_cons, tw_take]
theorem goes1 {b : UInt8} (h : goesTo b = 1) : lett b = true := by
  unfold goesTo at h
  split at h
  · assumption
  · split at h <;> (try split at h) <;> (try split at h) <;> (try split at h) <;> omega
theorem goes2 {b : UInt8} (h : goesTo b = 2) : lett b = false ∧ (dgt b = true ∨ b = 45) := by
  unfold goesTo at h
  split at h
  · omega
  · rename_i h1
    split at h
    · rename_i h2; exact ⟨by simpa using h1, h2⟩
    · split at h <;> (try split at h) <;> (try split at h) <;> omega
theorem goes3 {b : UInt8} (h : goesTo b = 3) : b = 64 := by
  unfold goesTo at h
  split at h
  · omega
  · split at h
    · omega
    · split at h
      · assumption
      · split at h <;> (try split at h) <;> omega
theorem goes4 {b : UInt8} (h : goesTo b = 4) : b = 35 := by
  unfold goesTo at h
  split at h
  · omega
  · split at h
    · omega
    · split at h
      · omega
      · split at h
        · assumption
        · split at h <;> omega
theorem goes5 {b : UInt8} (h : goesTo b = 5) : b = 34 := by
  unfold goesTo at h
  split at h
  · omega
  · split at h
    · omega
    · split at h
      · omega
      · split at h
        · omega
        · split at h
          · assumption
          · omega
theorem goes6 {b : UInt8} (h : goesTo b = 6) : lett b = false ∧ dgt b = false ∧ b ≠ 45 ∧ b ≠ 64 ∧ b ≠ 35 ∧ b ≠ 34 := by
  unfold goesTo at h
  split at h
  · omega
  · rename_i h1
    split at h
    · omega
    · rename_i h2
      split at h
      · omega
      · split at h
        · omega
        · split at h
          · omega
          · rename_i h3 h4 h5
            simp at h1 h2
            exact ⟨h1, h2.1, h2.2, h3, h4, h5⟩
/-- The text of the whole function, inside its scope. -/
noncomputable def allCode : Code := match Tryd.f5.body with | some (.seq _ (.scope c)) => c | _ => .skip
end Go.Proofs.YtpedfkigneahgaaDoor
