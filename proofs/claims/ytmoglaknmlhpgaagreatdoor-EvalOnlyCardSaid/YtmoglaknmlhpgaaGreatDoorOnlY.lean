/- Several texts in one: LexAllF, LexAll7, LexAll0, LexAll1, LexAll2, LexAll5, LexAll6. -/
import Derived.Test.YtmoglaknmlhpgaaGreatDoorOnlW
import Derived.Test.YtmoglaknmlhpgaaGreatDoorOnlX
import Derived.Deep.Cut
/- lex.All: its frame, and what holds at each of its labels. -/
namespace Go.Proofs.YtmoglaknmlhpgaaGreatDoor
set_option linter.unusedVariables false
open Go.RowKit

def Fr (a : Act) (s : ByteArray) (g : Nat) (vl va ve vo vc : Value) : Prop := ∃ u : Nat → Value, a = { tmps := #[.string s, u 1, u 2, u 3, u 4, vl, .pointer (some ⟨g, 0, none⟩), va, ve, vo, vc, u 11, u 12, u 13, u 14, u 15, u 16, u 17, u 18, u 19, u 20, u 21, u 22, u 23, u 24, u 25, u 26, u 27, u 28, u 29, u 30, u 31, u 32, u 33, u 34, u 35, u 36, u 37, u 38, u 39, u 40, u 41, u 42, u 43, u 44, u 45, u 46, u 47, u 48, u 49, u 50, u 51, u 52, u 53, u 54, u 55, u 56, u 57, u 58, u 59, u 60, u 61, u 62, u 63, u 64, u 65, u 66, u 67, u 68, u 69, u 70, u 71, u 72, u 73, u 74, u 75, u 76, u 77, u 78, u 79, u 80, u 81, u 82, u 83, u 84, u 85, u 86, u 87, u 88, u 89, u 90, u 91, u 92, u 93, u 94, u 95, u 96, u 97, u 98, u 99, u 100, u 101, u 102, u 103, u 104, u 105, u 106, u 107, u 108, u 109, u 110, u 111, u 112, u 113, u 114, u 115, u 116, u 117, u 118, u 119, u 120, u 121, u 122, u 123, u 124, u 125, u 126, u 127, u 128, u 129, u 130, u 131, u 132, u 133, u 134, u 135], defers := [] }
set_option maxRecDepth 100000 in
theorem Fr_mk {s : ByteArray} {g : Nat} {vl va ve vo vc x1 x2 x3 x4 x11 x12 x13 x14 x15 x16 x17 x18 x19 x20 x21 x22 x23 x24 x25 x26 x27 x28 x29 x30 x31 x32 x33 x34 x35 x36 x37 x38 x39 x40 x41 x42 x43 x44 x45 x46 x47 x48 x49 x50 x51 x52 x53 x54 x55 x56 x57 x58 x59 x60 x61 x62 x63 x64 x65 x66 x67 x68 x69 x70 x71 x72 x73 x74 x75 x76 x77 x78 x79 x80 x81 x82 x83 x84 x85 x86 x87 x88 x89 x90 x91 x92 x93 x94 x95 x96 x97 x98 x99 x100 x101 x102 x103 x104 x105 x106 x107 x108 x109 x110 x111 x112 x113 x114 x115 x116 x117 x118 x119 x120 x121 x122 x123 x124 x125 x126 x127 x128 x129 x130 x131 x132 x133 x134 x135 : Value} : Fr { tmps := #[.string s, x1, x2, x3, x4, vl, .pointer (some ⟨g, 0, none⟩), va, ve, vo, vc, x11, x12, x13, x14, x15, x16, x17, x18, x19, x20, x21, x22, x23, x24, x25, x26, x27, x28, x29, x30, x31, x32, x33, x34, x35, x36, x37, x38, x39, x40, x41, x42, x43, x44, x45, x46, x47, x48, x49, x50, x51, x52, x53, x54, x55, x56, x57, x58, x59, x60, x61, x62, x63, x64, x65, x66, x67, x68, x69, x70, x71, x72, x73, x74, x75, x76, x77, x78, x79, x80, x81, x82, x83, x84, x85, x86, x87, x88, x89, x90, x91, x92, x93, x94, x95, x96, x97, x98, x99, x100, x101, x102, x103, x104, x105, x106, x107, x108, x109, x110, x111, x112, x113, x114, x115, x116, x117, x118, x119, x120, x121, x122, x123, x124, x125, x126, x127, x128, x129, x130, x131, x132, x133, x134, x135], defers := [] } s g vl va ve vo vc := ⟨fun i => (#[undef, x1, x2, x3, x4, undef, undef, undef, undef, undef, undef, x11, x12, x13, x14, x15, x16, x17, x18, x19, x20, x21, x22, x23, x24, x25, x26, x27, x28, x29, x30, x31, x32, x33, x34, x35, x36, x37, x38, x39, x40, x41, x42, x43, x44, x45, x46, x47, x48, x49, x50, x51, x52, x53, x54, x55, x56, x57, x58, x59, x60, x61, x62, x63, x64, x65, x66, x67, x68, x69, x70, x71, x72, x73, x74, x75, x76, x77, x78, x79, x80, x81, x82, x83, x84, x85, x86, x87, x88, x89, x90, x91, x92, x93, x94, x95, x96, x97, x98, x99, x100, x101, x102, x103, x104, x105, x106, x107, x108, x109, x110, x111, x112, x113, x114, x115, x116, x117, x118, x119, x120, x121, x122, x123, x124, x125, x126, x127, x128, x129, x130, x131, x132, x133, x134, x135] : Array Value).getD i undef, rfl⟩
theorem Fr.at7 {a : Act} {s : ByteArray} {g : Nat} {vl va ve vo vc : Value} (h : Fr a s g vl va ve vo vc) : a.tmps.getD 7 undef = va := by
 obtain ⟨u, rfl⟩ := h
 rfl

def ABase (s : ByteArray) (W : World) (ts : List Tk) (A : Option Addr) (m c k : Nat) (wr : World) : Prop :=
 wr.ownsRow (W.heap.size + 1) 150 4 (.slice A m c) m (cells4 ts) ∧ Below W.heap.size W wr ∧ W.heap.size + 1 ≤ wr.heap.size ∧ ts.length ≤ k ∧ k ≤ s.size ∧ lexB s.data.toList 0 = cat ts (lexB (s.data.toList.drop k) k)
def goesTo (c : UInt8) : Nat := if lett c = true then 1 else if dgt c = true ∨ c = 45 then 2 else if c = 64 then 3 else if c = 35 then 4 else if c = 34 then 5 else 6
def JTok (s : ByteArray) (W : World) (lab : Nat) (a : Act) (wr : World) : Prop :=
 ∃ (ts : List Tk) (A : Option Addr) (m c k : Nat) (b : UInt8) (ve vo : Value), Fr a s W.heap.size (.slice A m c) (.int .i64 (k : Int)) ve vo (.int .u8 (b.toNat : Int)) ∧ ABase s W ts A m c k wr ∧ k < s.size ∧ s.data.toList[k]? = some b ∧ blk b = false ∧ goesTo b = lab ∧ Tb wr W.heap.size 0 (k : Int) 0 ⟨#[]⟩
def JBlank (s : ByteArray) (W : World) (a : Act) (wr : World) : Prop :=
 ∃ (ts : List Tk) (A : Option Addr) (m c k : Nat) (ve vo vc : Value) (kk pp nn : Int) (ss : ByteArray), Fr a s W.heap.size (.slice A m c) (.int .i64 (k : Int)) ve vo vc ∧ ABase s W ts A m c k wr ∧ Tb wr W.heap.size kk pp nn ss
def BackT (x : Option (Int × Int × List UInt8 × Nat)) (k : Nat) (ok : Bool) (kk nn : Int) (ss : ByteArray) (e : Int) : Prop :=
 ok = x.isSome ∧ ∀ k' n' st j, x = some (k', n', st, j) → kk = k' ∧ (k : Int) = (k : Int) ∧ nn = n' ∧ ss = ⟨st.toArray⟩ ∧ e = ((k + j : Nat) : Int)
def JBack (s : ByteArray) (W : World) (a : Act) (wr : World) : Prop :=
 ∃ (ts : List Tk) (A : Option Addr) (m c k : Nat) (b : UInt8) (e : Int) (ok : Bool) (vc : Value) (kk nn : Int) (ss : ByteArray), Fr a s W.heap.size (.slice A m c) (.int .i64 (k : Int)) (.int .i64 e) (.bool ok) vc ∧ ABase s W ts A m c k wr ∧ k < s.size ∧ s.data.toList[k]? = some b ∧ blk b = false ∧ Tb wr W.heap.size kk (k : Int) nn ss ∧ BackT (tokB (s.data.toList.drop k)) k ok kk nn ss e
def JAll (s : ByteArray) (W : World) (lab : Nat) (a : Act) (wr : World) : Prop :=
 if lab = 0 then JBlank s W a wr else if lab = 7 then JBack s W a wr else JTok s W lab a wr
def muAll (s : ByteArray) (lab : Nat) (a : Act) (_ : World) : Nat := 3 * (s.size - (intOf (a.tmps.getD 7 undef)).toNat) + if lab = 0 then 2 else if lab = 7 then 0 else 1
theorem mu_eq {s : ByteArray} {lab k : Nat} {a : Act} {w : World} {g : Nat} {vl ve vo vc : Value} (h : Fr a s g vl (.int .i64 (k : Int)) ve vo vc) : muAll s lab a w = 3 * (s.size - k) + if lab = 0 then 2 else if lab = 7 then 0 else 1 := by
 unfold muAll
 rw [h.at7]
 simp [intOf]
def AllP (W : World) (x : Except Nat (List Tk)) (e : Ending) (w' : World) : Prop :=
 match x with
 | .ok ts => ∃ A n c, e = .returned (.tuple #[.slice A n c, .int .i64 0, .int .i64 0]) ∧ w'.ownsRow (W.heap.size + 1) 150 4 (.slice A n c) n (cells4 ts) ∧ Below W.heap.size W w'
 | .error i => e = .returned (.tuple #[.slice none 0 0, .int .i64 5, .int .i64 (i : Int)]) ∧ Below W.heap.size W w'
def allQ (s : ByteArray) (W : World) : Exit → Act → World → Prop := bodyPost Tryz.prog Tryz.f60 fun e w' => AllP W (lexB s.data.toList 0) e w'

theorem drop_at' {l : List UInt8} {k : Nat} {c : UInt8} (h : l[k]? = some c) : l.drop k = c :: l.drop (k + 1) := drop_at h
theorem ba_of {s : ByteArray} {l : List UInt8} (h : s.data.toList = l) : s = ⟨l.toArray⟩ := by
 subst h
 simp
theorem size_set (w : World) (p : Addr) (v : Value) : (w.setCell p v).heap.size = w.heap.size := by simp [World.setCell]
section
variable {s : ByteArray} {W wr w2 : World} {ts : List Tk} {A : Option Addr} {m c k : Nat}
theorem ABase.then_ (h : ABase s W ts A m c k wr) (hb : Below wr.heap.size wr w2) : ABase s W ts A m c k w2 := by
 obtain ⟨h1, h2, h3, h4, h5, h6⟩ := h
 exact ⟨own_tok h1 hb, h2.trans (hb.mono (by omega)), by have := hb.size; omega, h4, h5, h6⟩
theorem ABase.set (h : ABase s W ts A m c k wr) (i : Nat) (v : Value) : ABase s W ts A m c k (wr.setCell ⟨W.heap.size, i, none⟩ v) := by
 obtain ⟨h1, h2, h3, h4, h5, h6⟩ := h
 exact ⟨own_only h1 (Only.refl.setCell (p := ⟨W.heap.size, i, none⟩) rfl v) (Nat.lt_succ_self _), h2.setCell (p := ⟨W.heap.size, i, none⟩) (Nat.le_refl _) v, by rw [size_set]; omega, h4, h5, h6⟩
end
theorem JAll7 {s : ByteArray} {W : World} {a : Act} {wr : World} (h : JBack s W a wr) : JAll s W 7 a wr := by unfold JAll; rw [if_neg (by omega), if_pos rfl]; exact h
theorem JAll0 {s : ByteArray} {W : World} {a : Act} {wr : World} (h : JBlank s W a wr) : JAll s W 0 a wr := by unfold JAll; rw [if_pos rfl]; exact h
theorem JAllT {s : ByteArray} {W : World} {a : Act} {wr : World} {lab : Nat} (h0 : lab ≠ 0) (h7 : lab ≠ 7) (h : JTok s W lab a wr) : JAll s W lab a wr := by unfold JAll; rw [if_neg h0, if_neg h7]; exact h
theorem back_none {k : Nat} {kk nn : Int} {ss : ByteArray} {e : Int} : BackT none k false kk nn ss e := ⟨rfl, fun _ _ _ _ h => by cases h⟩
theorem back_some {k j : Nat} {kk nn : Int} {ss : ByteArray} {e : Int} {st : List UInt8} (h1 : ss = ⟨st.toArray⟩) (h2 : e = ((k + j : Nat) : Int)) : BackT (some (kk, nn, st, j)) k true kk nn ss e :=
 ⟨rfl, fun k' n' st' j' h => by
  simp only [Option.some.injEq, Prod.mk.injEq] at h
  obtain ⟨rfl, rfl, rfl, rfl⟩ := h
  exact ⟨rfl, rfl, rfl, h1, h2⟩⟩
theorem tw_take (p : UInt8 → Bool) (l : List UInt8) : l.take (l.takeWhile p).length = l.takeWhile p := by
 induction l with
 | nil => rfl
 | cons c r ih =>
  cases h : p c with
  | true => rw [List.takeWhile_cons, if_pos h, List.length_cons, List.take_succ_cons, ih]
  | false => rw [List.takeWhile_cons, if_neg (by rw [h]; simp)]; rfl
theorem tw_all (p : UInt8 → Bool) (l : List UInt8) : ∀ c ∈ l.takeWhile p, p c = true := by
 induction l with
 | nil => intro c h; cases h
 | cons d r ih =>
  intro c h
  cases hd : p d with
  | true =>
   rw [List.takeWhile_cons, if_pos hd] at h
   rcases List.mem_cons.1 h with rfl | h
   ·exact hd
   ·exact ih c h
  | false => rw [List.takeWhile_cons, if_neg (by rw [hd]; simp)] at h; cases h
theorem ext_tw (s : ByteArray) (p : UInt8 → Bool) (a : Nat) : (s.extract a (a + ((s.data.toList.drop a).takeWhile p).length)).data.toList = (s.data.toList.drop a).takeWhile p := by
 rw [ext_mid, Nat.add_sub_cancel_left, tw_take]
theorem tw_le (s : ByteArray) (p : UInt8 → Bool) (a : Nat) (ha : a ≤ s.size) : a + ((s.data.toList.drop a).takeWhile p).length ≤ s.size := by
 have := tk_len p (s.data.toList.drop a)
 rw [List.length_drop, data_len] at this
 omega
theorem ext_tw1 (s : ByteArray) (p : UInt8 → Bool) (k : Nat) {b : UInt8} (hb : s.data.toList[k]? = some b) : (s.extract k (k + 1 + ((s.data.toList.drop (k + 1)).takeWhile p).length)).data.toList = b :: (s.data.toList.drop (k + 1)).takeWhile p := by
 rw [ext_mid, drop_at' hb, show k + 1 + ((s.data.toList.drop (k + 1)).takeWhile p).length - k = ((s.data.toList.drop (k + 1)).takeWhile p).length + 1 by omega, List.take_succ_cons, tw_take]
theorem goes1 {b : UInt8} (h : goesTo b = 1) : lett b = true := by
 unfold goesTo at h
 split at h
 ·assumption
 ·split at h <;> (try split at h) <;> (try split at h) <;> (try split at h) <;> omega
theorem goes2 {b : UInt8} (h : goesTo b = 2) : lett b = false ∧ (dgt b = true ∨ b = 45) := by
 unfold goesTo at h
 split at h
 ·omega
 ·rename_i h1
  split at h
  ·rename_i h2; exact ⟨by simpa using h1, h2⟩
  ·split at h <;> (try split at h) <;> (try split at h) <;> omega
theorem goes3 {b : UInt8} (h : goesTo b = 3) : b = 64 := by
 unfold goesTo at h
 split at h
 ·omega
 ·split at h
  ·omega
  ·split at h
   ·assumption
   ·split at h <;> (try split at h) <;> omega
theorem goes4 {b : UInt8} (h : goesTo b = 4) : b = 35 := by
 unfold goesTo at h
 split at h
 ·omega
 ·split at h
  ·omega
  ·split at h
   ·omega
   ·split at h
    ·assumption
    ·split at h <;> omega
theorem goes5 {b : UInt8} (h : goesTo b = 5) : b = 34 := by
 unfold goesTo at h
 split at h
 ·omega
 ·split at h
  ·omega
  ·split at h
   ·omega
   ·split at h
    ·omega
    ·split at h
     ·assumption
     ·omega
theorem goes6 {b : UInt8} (h : goesTo b = 6) : lett b = false ∧ dgt b = false ∧ b ≠ 45 ∧ b ≠ 64 ∧ b ≠ 35 ∧ b ≠ 34 := by
 unfold goesTo at h
 split at h
 ·omega
 ·rename_i h1
  split at h
  ·omega
  ·rename_i h2
   split at h
   ·omega
   ·split at h
    ·omega
    ·split at h
     ·omega
     ·rename_i h3 h4 h5
      simp at h1 h2
      exact ⟨h1, h2.1, h2.2, h3, h4, h5⟩
noncomputable def allCode : Code := match Tryz.f60.body with | some (.seq _ (.scope c)) => c | _ => .skip
end Go.Proofs.YtmoglaknmlhpgaaGreatDoor
/- lex.All: from label to label. -/
namespace Go.Proofs.YtmoglaknmlhpgaaGreatDoor
set_option linter.unusedVariables false
open Go.RowKit

noncomputable def backCode : Code := match findLabel allCode 7 with | some (.seq _ c) => c | _ => .skip
theorem cat_bad {l : List UInt8} {ts : List Tk} {k : Nat} {b : UInt8} {r : List UInt8} (h : l = b :: r) (hb : blk b = false) (ht : tokB l = none) : cat ts (lexB l k) = .error k := by
 rw [h, lexB_bad hb (by rw [← h]; exact ht)]
 rfl
theorem cat_tok {l : List UInt8} {ts : List Tk} {k : Nat} {b : UInt8} {r : List UInt8} {k' n' : Int} {st : List UInt8} {j : Nat} (h : l = b :: r) (hb : blk b = false) (ht : tokB l = some (k', n', st, j)) : cat ts (lexB l k) = cat (ts ++ [⟨k', k, n', ⟨st.toArray⟩⟩]) (lexB (l.drop j) (k + j)) := by
 subst h
 rw [lexB_tok hb ht, cat_cat]
set_option maxRecDepth 100000 in
set_option maxHeartbeats 1600000 in
theorem backPass' (s : ByteArray) (W : World) (hs : s.size ≤ 4096) (a : Act) (wr : World) (hJ : JBack s W a wr) : ∃ R, findLabel allCode 7 = some (.seq .skip R) ∧ R.wp Tryz.prog (exitsTo (fun l' a' w' => JAll s W l' a' w' ∧ muAll s l' a' w' < muAll s 7 a wr) (allQ s W)) a wr := by
 obtain ⟨ts, A, m, c, k, b, e, ok, vc, kk, nn, ss, hf, hb, hk, hkb, hbl, ht, hbk⟩ := hJ
 rw [mu_eq hf]
 obtain ⟨u, rfl⟩ := hf
 have hd := drop_at' hkb
 cases ho : tokB (s.data.toList.drop k) with
 | none =>
  rw [ho] at hbk
  obtain rfl : ok = false := hbk.1
  have HV : Hid (lexB s.data.toList 0 = .error k) := by
   show _ = _
   rw [hb.2.2.2.2.2]
   exact cat_bad hd hbl ho
  have HBEL := Lib.hid hb.2.1
  clear hb hkb hbl ht hbk hd ho
  refine ⟨_, rfl, ?_⟩
  go_wp2_with fail
  rw [exitsTo_ret]
  unfold allQ
  go_ret3
  rw [HV.out]
  exact ⟨rfl, HBEL.out⟩
 | some q =>
  obtain ⟨k', n', st, j⟩ := q
  rw [ho] at hbk
  obtain rfl : ok = true := hbk.1
  obtain ⟨rfl, _, rfl, rfl, rfl⟩ := hbk.2 _ _ _ _ rfl
  have hj := tokB_pos ho
  have hj2 : j ≤ s.size - k := by have := hj.2.1; rwa [List.length_drop, data_len] at this
  have HV : Hid (lexB s.data.toList 0 = cat (ts ++ [⟨kk, k, nn, ⟨st.toArray⟩⟩]) (lexB (s.data.toList.drop (k + j)) (k + j))) := by
   show _ = _
   rw [hb.2.2.2.2.2, cat_tok hd hbl ho, List.drop_drop]
  have hm : ts.length = m := by have := hb.1.1; rw [cells4_len] at this; omega
  have htl := hb.2.2.2.1
  have hap := append_tok (ty := 125) hb.1 ⟨kk, k, nn, ⟨st.toArray⟩⟩ (by omega) hb.2.2.1
  obtain ⟨A2, c2, w2, hap, hown2, hbel2⟩ := hap
  have HAP := Lib.hid hap
  have HB3 : Hid (ABase s W (ts ++ [⟨kk, k, nn, ⟨st.toArray⟩⟩]) A2 (m + 1) c2 (k + j) w2) := by
   exact ⟨hown2, hb.2.1.trans (hbel2.mono (by omega)), by have := hbel2.size; have := hb.2.2.1; omega, by rw [List.length_append]; simp; omega, by omega, HV.out⟩
  have T3 := Lib.hid (ht.below hbel2 (Nat.lt_succ_self _))
  have c1 := ht.c4
  have hj1 := hj.1
  clear hb hkb hbl hd ho hbk hap hown2 hbel2 hj ht
  generalize (⟨st.toArray⟩ : ByteArray) = x at *
  refine ⟨_, rfl, ?_⟩
  go_wp2_with (at_builtin; refine wpList_append_run rfl _ _ _ _ rfl rfl rfl HAP.out ?_)
  go_step3
  rw [show (k : Int) + (j : Int) = ((k + j : Nat) : Int) by omega]
  refine ⟨JAll0 ⟨_, A2, m + 1, c2, k + j, _, _, _, _, _, _, _, Fr_mk, HB3.out, T3.out⟩, ?_⟩
  rw [mu_eq Fr_mk]
  simp
  omega
theorem backPass (s : ByteArray) (W : World) (hs : s.size ≤ 4096) (a : Act) (wr : World) (hJ : JBack s W a wr) : backCode.wp Tryz.prog (exitsTo (fun l' a' w' => JAll s W l' a' w' ∧ muAll s l' a' w' < muAll s 7 a wr) (allQ s W)) a wr := by
 obtain ⟨R, h, hw⟩ := backPass' s W hs a wr hJ
 unfold backCode
 rw [h]
 exact hw
theorem pass7 (s : ByteArray) (W : World) (hs : s.size ≤ 4096) (a : Act) (wr : World) (hJ : JBack s W a wr) : ∃ R, findLabel allCode 7 = some R ∧ R.wp Tryz.prog (exitsTo (fun l' a' w' => JAll s W l' a' w' ∧ muAll s l' a' w' < muAll s 7 a wr) (allQ s W)) a wr := by
 refine ⟨.seq .skip backCode, rfl, ?_⟩
 have h := Lib.hid (backPass s W hs a wr hJ)
 clear hJ
 go_wp2_with fail
 exact h.out
end Go.Proofs.YtmoglaknmlhpgaaGreatDoor
/- lex.All: from label to label. -/
namespace Go.Proofs.YtmoglaknmlhpgaaGreatDoor
set_option linter.unusedVariables false
open Go.RowKit

noncomputable def blankCode : Code := match findLabel allCode 0 with | some (.seq _ c) => c | _ => .skip
theorem ABase.skip {s : ByteArray} {W wr : World} {ts : List Tk} {A : Option Addr} {m c k : Nat} (h : ABase s W ts A m c k wr) : ABase s W ts A m c (k + ((s.data.toList.drop k).takeWhile blk).length) wr := by
 obtain ⟨h1, h2, h3, h4, h5, h6⟩ := h
 exact ⟨h1, h2, h3, by omega, tw_le s blk k h5, by rw [h6, lexB_skip, List.drop_drop]⟩
theorem skip_not (s : ByteArray) (k : Nat) {b : UInt8} (h : s.data.toList[k + ((s.data.toList.drop k).takeWhile blk).length]? = some b) : blk b = false := by
 have hd := drop_at' h
 rw [← List.drop_drop] at hd
 exact drop_tw hd
theorem six_ways (b : UInt8) : (lett b = true ∧ goesTo b = 1) ∨ (lett b = false ∧ dgt b = true ∧ goesTo b = 2) ∨ (lett b = false ∧ dgt b = false ∧ ((b.toNat : Int) == 45) = true ∧ goesTo b = 2) ∨
  (lett b = false ∧ dgt b = false ∧ ((b.toNat : Int) == 45) = false ∧ ((b.toNat : Int) == 64) = true ∧ goesTo b = 3) ∨ (lett b = false ∧ dgt b = false ∧ ((b.toNat : Int) == 45) = false ∧ ((b.toNat : Int) == 64) = false ∧ ((b.toNat : Int) == 35) = true ∧ goesTo b = 4) ∨
  (lett b = false ∧ dgt b = false ∧ ((b.toNat : Int) == 45) = false ∧ ((b.toNat : Int) == 64) = false ∧ ((b.toNat : Int) == 35) = false ∧ ((b.toNat : Int) == 34) = true ∧ goesTo b = 5) ∨
  (lett b = false ∧ dgt b = false ∧ ((b.toNat : Int) == 45) = false ∧ ((b.toNat : Int) == 64) = false ∧ ((b.toNat : Int) == 35) = false ∧ ((b.toNat : Int) == 34) = false ∧ goesTo b = 6) := by
 have e : ∀ q : UInt8, ((b.toNat : Int) == (q.toNat : Int)) = decide (b = q) := fun q => by
  rw [Bool.eq_iff_iff, beq_iff_eq, decide_eq_true_iff]
  exact ⟨fun h => UInt8.toNat_inj.1 (by omega), fun h => by rw [h]⟩
 have e1 : ((b.toNat : Int) == 45) = decide (b = 45) := e 45
 have e2 : ((b.toNat : Int) == 64) = decide (b = 64) := e 64
 have e3 : ((b.toNat : Int) == 35) = decide (b = 35) := e 35
 have e4 : ((b.toNat : Int) == 34) = decide (b = 34) := e 34
 rw [e1, e2, e3, e4]
 unfold goesTo
 cases lett b <;> cases dgt b <;> by_cases h1 : b = 45 <;> by_cases h2 : b = 64 <;> by_cases h3 : b = 35 <;> by_cases h4 : b = 34 <;> simp [h1, h2, h3, h4]
set_option maxRecDepth 100000 in
set_option maxHeartbeats 800000 in
theorem blankPass' (s : ByteArray) (W : World) (hs : s.size ≤ 4096) (a : Act) (wr : World) (hJ : JBlank s W a wr) : ∃ R, findLabel allCode 0 = some (.seq .skip R) ∧ R.wp Tryz.prog (exitsTo (fun l' a' w' => JAll s W l' a' w' ∧ muAll s l' a' w' < muAll s 0 a wr) (allQ s W)) a wr := by
 obtain ⟨ts, A, m, c, k, ve, vo, vc, kk, pp, nn, ss, hf, hb, ht⟩ := hJ
 rw [mu_eq hf]
 obtain ⟨u, rfl⟩ := hf
 have hpa := past_blank s (by unfold maxLen; omega) k hb.2.2.2.2.1 wr
 have hb2 := hb.skip
 have hsk := fun b => skip_not s k (b := b)
 have hle := tw_le s blk k hb.2.2.2.2.1
 have hge : k ≤ k + ((s.data.toList.drop k).takeWhile blk).length := by omega
 generalize k + ((s.data.toList.drop k).takeWhile blk).length = j at *
 have T1 := Lib.hid (ht.put 0 (j : Int) 0 ⟨#[]⟩)
 have HB1 := Lib.hid ((((hb2.set 0 (.int .i64 0)).set 1 (.int .i64 (j : Int))).set 2 (.int .i64 0)).set 3 (.string ⟨#[]⟩))
 obtain ⟨w1, hw1⟩ : ∃ w1, w1 = (((wr.setCell ⟨W.heap.size, 0, none⟩ (.int .i64 0)).setCell ⟨W.heap.size, 1, none⟩ (.int .i64 (j : Int))).setCell ⟨W.heap.size, 2, none⟩ (.int .i64 0)).setCell ⟨W.heap.size, 3, none⟩ (.string ⟨#[]⟩) := ⟨_, rfl⟩
 rw [← hw1] at T1 HB1
 have HW1 := Lib.hid hw1
 have HPA := Lib.hid hpa
 have HSK := Lib.hid hsk
 have c1 := ht.c4
 have f1 := ht.fz
 clear hb hpa hb2 hsk hw1
 refine ⟨_, rfl, ?_⟩
 go_wp2_with fail
 refine HPA.out.mono ?_
 rintro e' w' ⟨rfl, rfl⟩
 go_upto_region 8 with (fail)
 rw [← HW1.out]
 clear c1 f1 HW1 ht HPA
 have c2 := T1.out.c4
 have f2 := T1.out.fz
 by_cases hjs : j = s.size
 ·subst hjs
  have hl : lexB s.data.toList 0 = .ok (ts ++ [⟨7, (s.size : Int), 0, ⟨#[]⟩⟩]) := by
   rw [HB1.out.2.2.2.2.2, List.drop_of_length_le (by rw [data_len]; exact Nat.le_refl _), lexB_nil]
   rfl
  have HV := Lib.hid hl
  have T3 := Lib.hid (T1.out.setK 7)
  have HB3 := Lib.hid (HB1.out.set 0 (.int .i64 7))
  have hm : ts.length = m := by have := HB1.out.1.1; rw [cells4_len] at this; omega
  have htl := HB1.out.2.2.2.1
  obtain ⟨A2, c2', w2, hap, hown2, hbel2⟩ := append_tok (ty := 125) HB3.out.1 ⟨7, (s.size : Int), 0, ⟨#[]⟩⟩ (by omega) HB3.out.2.2.1
  rw [size_set] at hap
  have HAP := Lib.hid hap
  have HO := Lib.hid hown2
  have HBE := Lib.hid (HB3.out.2.1.trans (hbel2.mono (by omega)))
  have c3 := T3.out.c4
  clear hl hap hown2 hbel2 hle hge hm
  go_wp2_with (at_builtin; refine wpList_append_run rfl _ _ _ _ rfl rfl rfl HAP.out ?_)
  rw [exitsTo_ret]
  unfold allQ
  go_ret3
  rw [HV.out]
  exact ⟨A2, m + 1, c2', rfl, HO.out, HBE.out⟩
 ·have hlt : j < s.size := by omega
  have hjb : ((j : Int) == (s.size : Int)) = false := by rw [beq_eq_false_iff_ne]; omega
  have hji : 0 ≤ (j : Int) ∧ (j : Int) < s.size := by omega
  have hd := data_at hlt
  generalize hbb : s[j] = b at *
  have HD := Lib.hid hd
  have HBL := Lib.hid (HSK.out b hd)
  have HLT := letter_any b
  have HDG := digit_any b
  have HLT2 := Lib.hid HLT
  have HDG2 := Lib.hid HDG
  clear hd hjs HLT HDG
  rcases six_ways b with ⟨e1, hg⟩ | ⟨e1, e2, hg⟩ | ⟨e1, e2, e3, hg⟩ | ⟨e1, e2, e3, e4, hg⟩ | ⟨e1, e2, e3, e4, e5, hg⟩ | ⟨e1, e2, e3, e4, e5, e6, hg⟩ | ⟨e1, e2, e3, e4, e5, e6, hg⟩
  all_goals
   rw [e1] at HLT2
   try rw [e2] at HDG2
   have HG := Lib.hid hg
   clear hg e1
   try clear e2
   go_wp2_with (first | (go_at_call 81; refine (HLT2.out _).mono ?_; rintro e'' w'' ⟨rfl, rfl⟩) | (go_at_call 82; refine (HDG2.out _).mono ?_; rintro e'' w'' ⟨rfl, rfl⟩))
   go_step3
   refine ⟨JAllT (by omega) (by omega) ⟨ts, A, m, c, j, b, _, _, Fr_mk, (HB1.out : ABase s W ts A m c j _), hlt, HD.out, HBL.out, HG.out, T1.out⟩, ?_⟩
   rw [mu_eq Fr_mk]
   simp
   omega
end Go.Proofs.YtmoglaknmlhpgaaGreatDoor
/- lex.All: from label to label. -/
namespace Go.Proofs.YtmoglaknmlhpgaaGreatDoor
set_option linter.unusedVariables false
open Go.RowKit

set_option maxRecDepth 100000 in
set_option maxHeartbeats 1600000 in
theorem pass1 (s : ByteArray) (W : World) (hs : s.size ≤ 4096) (a : Act) (wr : World) (hJ : JTok s W 1 a wr) : ∃ R, findLabel allCode 1 = some R ∧ R.wp Tryz.prog (exitsTo (fun l' a' w' => JAll s W l' a' w' ∧ muAll s l' a' w' < muAll s 1 a wr) (allQ s W)) a wr := by
 refine ⟨_, rfl, ?_⟩
 obtain ⟨ts, A, m, c, k, b, ve, vo, hf, hb, hk, hkb, hbl, hg, ht⟩ := hJ
 rw [mu_eq hf]
 obtain ⟨u, rfl⟩ := hf
 have HB := Lib.hid hb
 have HKB := Lib.hid hkb
 have HBL := Lib.hid hbl
 have HD := Lib.hid (drop_at' hkb)
 have T1 := Lib.hid (ht.setK 1)
 have c1 := ht.c4
 have f1 := ht.fz
 have c2 := T1.out.c4
 have f2 := T1.out.fz
 have hpa := past_inName s (by unfold maxLen; omega) (k) (by omega) wr
 have hle := tw_le s inm (k) (by omega)
 have hex := ext_tw s inm (k)
 have hl1 := goes1 hg
 have HV : Hid (tokB (s.data.toList.drop k) = if Named ((s.data.toList.drop k).takeWhile inm) then some (1, 0, (s.data.toList.drop k).takeWhile inm, ((s.data.toList.drop k).takeWhile inm).length) else none) := by
  show _ = _
  rw [HD.out, tokB, if_pos hl1]
 generalize hnm : (s.data.toList.drop (k)).takeWhile inm = nm at *
 generalize he : k + nm.length = e at *
 have hnv := lname_any (s.extract (k) e) (wr.setCell ⟨W.heap.size, 0, none⟩ (.int .i64 1)) (by rw [ext_size _ hle]; omega)
 have HX : Hid (nameV (s.extract (k) e) = .tuple #[.string (if Named nm then ⟨nm.toArray⟩ else ⟨#[]⟩), .bool (decide (Named nm))]) := by
  show _ = _
  unfold nameV
  rw [hex]
  by_cases h : Named nm
  ·rw [if_pos h, if_pos h, ba_of hex]
  ·rw [if_neg h, if_neg h]
 rw [HX.out] at hnv
 have HBK : Hid (BackT (if Named nm then some (1, 0, nm, nm.length) else none) k (decide (Named nm)) 1 0 (if Named nm then ⟨nm.toArray⟩ else ⟨#[]⟩) (e : Int)) := by
  show BackT _ _ _ _ _ _ _
  by_cases h : Named nm
  ·rw [if_pos h, if_pos h, decide_eq_true h]
   exact back_some rfl (by omega)
  ·rw [if_neg h, if_neg h, decide_eq_false h]
   exact back_none
 generalize (if Named nm then (⟨nm.toArray⟩ : ByteArray) else ⟨#[]⟩) = x at *
 generalize decide (Named nm) = ok at *
 have HPA := Lib.hid hpa
 have HNV := Lib.hid hnv
 have HB1 := Lib.hid (HB.out.set 0 (.int .i64 1))
 have hki : k ≤ e := by omega
 have hki2 : ((k : Nat) : Int) ≤ (e : Int) := by omega
 have hki3 : (k : Int) + 1 ≤ (e : Int) + 1 := by omega
 have hki4 : ((k : Int) + 1).toNat = k + 1 := by omega
 have hki5 : (0 : Int) ≤ (k : Int) + 1 := by omega
 clear hpa hnv hb hkb hbl hg ht hex hnm he hl1
 go_wp2_with fail
 refine HPA.out.mono ?_
 rintro e' w' ⟨rfl, rfl⟩
 go_wp2_with fail
 refine HNV.out.mono ?_
 rintro e' w2 ⟨rfl, hb2⟩
 have T2 := Lib.hid (T1.out.then_ hb2)
 have T3 := Lib.hid (T2.out.setS x)
 have HB3 := Lib.hid ((HB1.out.then_ hb2).set 3 (.string x))
 have c3 := T2.out.c4
 have f3 := T2.out.fz
 clear hb2
 go_wp2_with fail
 go_step3
 refine ⟨JAll7 ⟨ts, A, m, c, k, b, _, _, _, _, _, _, Fr_mk, (HB3.out : ABase s W ts A m c k _), hk, HKB.out, HBL.out, T3.out, ?_⟩, ?_⟩
 ·rw [HV.out]
  exact HBK.out
 ·rw [mu_eq Fr_mk]
  simp

set_option maxRecDepth 100000 in
set_option maxHeartbeats 1600000 in
theorem pass4 (s : ByteArray) (W : World) (hs : s.size ≤ 4096) (a : Act) (wr : World) (hJ : JTok s W 4 a wr) : ∃ R, findLabel allCode 4 = some R ∧ R.wp Tryz.prog (exitsTo (fun l' a' w' => JAll s W l' a' w' ∧ muAll s l' a' w' < muAll s 4 a wr) (allQ s W)) a wr := by
 refine ⟨_, rfl, ?_⟩
 obtain ⟨ts, A, m, c, k, b, ve, vo, hf, hb, hk, hkb, hbl, hg, ht⟩ := hJ
 rw [mu_eq hf]
 obtain ⟨u, rfl⟩ := hf
 have HB := Lib.hid hb
 have HKB := Lib.hid hkb
 have HBL := Lib.hid hbl
 have HD := Lib.hid (drop_at' hkb)
 have T1 := Lib.hid (ht.setK 4)
 have c1 := ht.c4
 have f1 := ht.fz
 have c2 := T1.out.c4
 have f2 := T1.out.fz
 have hpa := past_inName s (by unfold maxLen; omega) (k + 1) (by omega) wr
 have hle := tw_le s inm (k + 1) (by omega)
 have hex := ext_tw s inm (k + 1)
 have hl1 := goes4 hg
 have HV : Hid (tokB (s.data.toList.drop k) = if Named ((s.data.toList.drop (k + 1)).takeWhile inm) then some (4, 0, (s.data.toList.drop (k + 1)).takeWhile inm, ((s.data.toList.drop (k + 1)).takeWhile inm).length + 1) else none) := by
  show _ = _
  rw [HD.out, hl1, tokB, if_neg (by decide), if_neg (by decide), if_neg (by decide), if_neg (by decide), if_pos rfl]
 generalize hnm : (s.data.toList.drop (k + 1)).takeWhile inm = nm at *
 generalize he : k + 1 + nm.length = e at *
 have hnv := lname_any (s.extract (k + 1) e) (wr.setCell ⟨W.heap.size, 0, none⟩ (.int .i64 4)) (by rw [ext_size _ hle]; omega)
 have HX : Hid (nameV (s.extract (k + 1) e) = .tuple #[.string (if Named nm then ⟨nm.toArray⟩ else ⟨#[]⟩), .bool (decide (Named nm))]) := by
  show _ = _
  unfold nameV
  rw [hex]
  by_cases h : Named nm
  ·rw [if_pos h, if_pos h, ba_of hex]
  ·rw [if_neg h, if_neg h]
 rw [HX.out] at hnv
 have HBK : Hid (BackT (if Named nm then some (4, 0, nm, nm.length + 1) else none) k (decide (Named nm)) 4 0 (if Named nm then ⟨nm.toArray⟩ else ⟨#[]⟩) (e : Int)) := by
  show BackT _ _ _ _ _ _ _
  by_cases h : Named nm
  ·rw [if_pos h, if_pos h, decide_eq_true h]
   exact back_some rfl (by omega)
  ·rw [if_neg h, if_neg h, decide_eq_false h]
   exact back_none
 generalize (if Named nm then (⟨nm.toArray⟩ : ByteArray) else ⟨#[]⟩) = x at *
 generalize decide (Named nm) = ok at *
 have HPA := Lib.hid hpa
 have HNV := Lib.hid hnv
 have HB1 := Lib.hid (HB.out.set 0 (.int .i64 4))
 have hki : k + 1 ≤ e := by omega
 have hki2 : ((k + 1 : Nat) : Int) ≤ (e : Int) := by omega
 have hki3 : (k : Int) + 1 ≤ (e : Int) + 1 := by omega
 have hki4 : ((k : Int) + 1).toNat = k + 1 := by omega
 have hki5 : (0 : Int) ≤ (k : Int) + 1 := by omega
 have hki6 : (k : Int) + 1 ≤ (e : Int) := by omega
 clear hpa hnv hb hkb hbl hg ht hex hnm he hl1
 go_wp2_with fail
 refine HPA.out.mono ?_
 rintro e' w' ⟨rfl, rfl⟩
 go_wp2_with fail
 refine HNV.out.mono ?_
 rintro e' w2 ⟨rfl, hb2⟩
 have T2 := Lib.hid (T1.out.then_ hb2)
 have T3 := Lib.hid (T2.out.setS x)
 have HB3 := Lib.hid ((HB1.out.then_ hb2).set 3 (.string x))
 have c3 := T2.out.c4
 have f3 := T2.out.fz
 clear hb2
 go_wp2_with fail
 go_step3
 refine ⟨JAll7 ⟨ts, A, m, c, k, b, _, _, _, _, _, _, Fr_mk, (HB3.out : ABase s W ts A m c k _), hk, HKB.out, HBL.out, T3.out, ?_⟩, ?_⟩
 ·rw [HV.out]
  exact HBK.out
 ·rw [mu_eq Fr_mk]
  simp
end Go.Proofs.YtmoglaknmlhpgaaGreatDoor
/- lex.All: from label to label. -/
namespace Go.Proofs.YtmoglaknmlhpgaaGreatDoor
set_option linter.unusedVariables false
open Go.RowKit

set_option maxRecDepth 100000 in
set_option maxHeartbeats 1600000 in
theorem pass2 (s : ByteArray) (W : World) (hs : s.size ≤ 4096) (a : Act) (wr : World) (hJ : JTok s W 2 a wr) : ∃ R, findLabel allCode 2 = some R ∧ R.wp Tryz.prog (exitsTo (fun l' a' w' => JAll s W l' a' w' ∧ muAll s l' a' w' < muAll s 2 a wr) (allQ s W)) a wr := by
 refine ⟨_, rfl, ?_⟩
 obtain ⟨ts, A, m, c, k, b, ve, vo, hf, hb, hk, hkb, hbl, hg, ht⟩ := hJ
 rw [mu_eq hf]
 obtain ⟨u, rfl⟩ := hf
 have HB := Lib.hid hb
 have HKB := Lib.hid hkb
 have HBL := Lib.hid hbl
 have HD := Lib.hid (drop_at' hkb)
 have T1 := Lib.hid (ht.setK 2)
 have c1 := ht.c4
 have f1 := ht.fz
 have c2 := T1.out.c4
 have f2 := T1.out.fz
 have hpa := past_digit s (by unfold maxLen; omega) (k + 1) (by omega) wr
 have hle := tw_le s dgt (k + 1) (by omega)
 have hex := ext_tw1 s dgt k hkb
 have hl1 := goes2 hg
 have HV : Hid (tokB (s.data.toList.drop k) = (numbA (b :: (s.data.toList.drop (k + 1)).takeWhile dgt)).map fun n => (2, n, [], ((s.data.toList.drop (k + 1)).takeWhile dgt).length + 1)) := by
  show _ = _
  rw [HD.out, tokB, if_neg (by rw [hl1.1]; simp), numbA]
  by_cases hd : dgt b = true
  ·have h45 : b ≠ 45 := by rintro rfl; revert hd; decide
   rw [if_pos hd, if_neg h45, List.takeWhile_cons, if_pos hd, Option.map_map]
   rfl
  ·obtain rfl : b = 45 := hl1.2.resolve_left hd
   rw [if_neg hd, if_pos rfl, if_pos rfl]
   cases decD 9223372036854775808 ((s.data.toList.drop (k + 1)).takeWhile dgt) with
   | none => rfl
   | some n =>
    simp only [Option.bind_some]
    by_cases hz : n = 0
    ·rw [if_pos hz, if_pos hz]; rfl
    ·rw [if_neg hz, if_neg hz]; rfl
 have hal := tw_all dgt (s.data.toList.drop (k + 1))
 generalize hnm : (s.data.toList.drop (k + 1)).takeWhile dgt = ds at *
 generalize he : k + 1 + ds.length = e at *
 have hnv := number_any (s.extract k e) (by rw [ext_size _ hle]; omega) hex hal (by rcases hl1.2 with h | h; exact .inr h; exact .inl h) (wr.setCell ⟨W.heap.size, 0, none⟩ (.int .i64 2))
 rw [hex] at hnv
 generalize numbA (b :: ds) = o at *
 have HX : Hid (nmV o = .tuple #[.int .i64 (o.getD 0), .bool o.isSome]) := rfl
 rw [HX.out] at hnv
 have HBK : Hid (BackT (o.map fun n => (2, n, [], ds.length + 1)) k o.isSome 2 (o.getD 0) ⟨#[]⟩ (e : Int)) := by
  show BackT _ _ _ _ _ _ _
  cases o with
  | none => exact back_none
  | some n => exact back_some rfl (by omega)
 generalize o.getD 0 = x at *
 generalize o.isSome = ok at *
 have HPA := Lib.hid hpa
 have HNV := Lib.hid hnv
 have HB1 := Lib.hid (HB.out.set 0 (.int .i64 2))
 have T3 := Lib.hid (T1.out.setN x)
 have HB3 := Lib.hid (HB1.out.set 2 (.int .i64 x))
 have hki : k ≤ e := by omega
 have hki2 : ((k : Nat) : Int) ≤ (e : Int) := by omega
 have hki3 : (k : Int) + 1 ≤ (e : Int) + 1 := by omega
 have hki4 : ((k : Int) + 1).toNat = k + 1 := by omega
 have hki5 : (0 : Int) ≤ (k : Int) + 1 := by omega
 have hki6 : (k : Int) + 1 ≤ (e : Int) := by omega
 clear hpa hnv hb hkb hbl hg ht hex hnm he hl1 hal
 go_wp2_with fail
 refine HPA.out.mono ?_
 rintro e' w' ⟨rfl, rfl⟩
 go_wp2_with fail
 refine HNV.out.mono ?_
 rintro e' w2 ⟨rfl, rfl⟩
 go_wp2_with fail
 go_step3
 refine ⟨JAll7 ⟨ts, A, m, c, k, b, _, _, _, _, _, _, Fr_mk, (HB3.out : ABase s W ts A m c k _), hk, HKB.out, HBL.out, T3.out, ?_⟩, ?_⟩
 ·rw [HV.out]
  exact HBK.out
 ·rw [mu_eq Fr_mk]
  simp

set_option maxRecDepth 100000 in
set_option maxHeartbeats 1600000 in
theorem pass3 (s : ByteArray) (W : World) (hs : s.size ≤ 4096) (a : Act) (wr : World) (hJ : JTok s W 3 a wr) : ∃ R, findLabel allCode 3 = some R ∧ R.wp Tryz.prog (exitsTo (fun l' a' w' => JAll s W l' a' w' ∧ muAll s l' a' w' < muAll s 3 a wr) (allQ s W)) a wr := by
 refine ⟨_, rfl, ?_⟩
 obtain ⟨ts, A, m, c, k, b, ve, vo, hf, hb, hk, hkb, hbl, hg, ht⟩ := hJ
 rw [mu_eq hf]
 obtain ⟨u, rfl⟩ := hf
 have HB := Lib.hid hb
 have HKB := Lib.hid hkb
 have HBL := Lib.hid hbl
 have HD := Lib.hid (drop_at' hkb)
 have T1 := Lib.hid (ht.setK 3)
 have c1 := ht.c4
 have f1 := ht.fz
 have c2 := T1.out.c4
 have f2 := T1.out.fz
 have hpa := past_digit s (by unfold maxLen; omega) (k + 1) (by omega) wr
 have hle := tw_le s dgt (k + 1) (by omega)
 have hex := ext_tw s dgt (k + 1)
 have hl1 := goes3 hg
 have HV : Hid (tokB (s.data.toList.drop k) = ((decD 1099511627776 ((s.data.toList.drop (k + 1)).takeWhile dgt)).map fun (n : Nat) => (n : Int)).map fun n => (3, n, [], ((s.data.toList.drop (k + 1)).takeWhile dgt).length + 1)) := by
  show _ = _
  rw [HD.out, hl1, tokB, if_neg (by decide), if_neg (by decide), if_neg (by decide), if_pos rfl, Option.map_map]
  rfl
 have hal := tw_all dgt (s.data.toList.drop (k + 1))
 generalize hnm : (s.data.toList.drop (k + 1)).takeWhile dgt = ds at *
 generalize he : k + 1 + ds.length = e at *
 have hnv := above_any (s.extract (k + 1) e) (by rw [ext_size _ hle]; omega) (by rw [hex]; exact hal) 1099511627776 (by omega) (by omega) (wr.setCell ⟨W.heap.size, 0, none⟩ (.int .i64 3))
 rw [hex] at hnv
 generalize (decD 1099511627776 ds).map (fun (n : Nat) => (n : Int)) = o at *
 have HX : Hid (nmV o = .tuple #[.int .i64 (o.getD 0), .bool o.isSome]) := rfl
 rw [HX.out] at hnv
 have HBK : Hid (BackT (o.map fun n => (3, n, [], ds.length + 1)) k o.isSome 3 (o.getD 0) ⟨#[]⟩ (e : Int)) := by
  show BackT _ _ _ _ _ _ _
  cases o with
  | none => exact back_none
  | some n => exact back_some rfl (by omega)
 generalize o.getD 0 = x at *
 generalize o.isSome = ok at *
 have HPA := Lib.hid hpa
 have HNV := Lib.hid hnv
 have HB1 := Lib.hid (HB.out.set 0 (.int .i64 3))
 have T3 := Lib.hid (T1.out.setN x)
 have HB3 := Lib.hid (HB1.out.set 2 (.int .i64 x))
 have hki : k ≤ e := by omega
 have hki2 : ((k : Nat) : Int) ≤ (e : Int) := by omega
 have hki3 : (k : Int) + 1 ≤ (e : Int) + 1 := by omega
 have hki4 : ((k : Int) + 1).toNat = k + 1 := by omega
 have hki5 : (0 : Int) ≤ (k : Int) + 1 := by omega
 have hki6 : (k : Int) + 1 ≤ (e : Int) := by omega
 clear hpa hnv hb hkb hbl hg ht hex hnm he hl1 hal
 go_wp2_with fail
 refine HPA.out.mono ?_
 rintro e' w' ⟨rfl, rfl⟩
 go_wp2_with fail
 refine HNV.out.mono ?_
 rintro e' w2 ⟨rfl, rfl⟩
 go_wp2_with fail
 go_step3
 refine ⟨JAll7 ⟨ts, A, m, c, k, b, _, _, _, _, _, _, Fr_mk, (HB3.out : ABase s W ts A m c k _), hk, HKB.out, HBL.out, T3.out, ?_⟩, ?_⟩
 ·rw [HV.out]
  exact HBK.out
 ·rw [mu_eq Fr_mk]
  simp
end Go.Proofs.YtmoglaknmlhpgaaGreatDoor
/- lex.All: from label to label. -/
namespace Go.Proofs.YtmoglaknmlhpgaaGreatDoor
set_option linter.unusedVariables false
open Go.RowKit

set_option maxRecDepth 100000 in
set_option maxHeartbeats 1600000 in
theorem pass5 (s : ByteArray) (W : World) (hs : s.size ≤ 4096) (a : Act) (wr : World) (hJ : JTok s W 5 a wr) : ∃ R, findLabel allCode 5 = some R ∧ R.wp Tryz.prog (exitsTo (fun l' a' w' => JAll s W l' a' w' ∧ muAll s l' a' w' < muAll s 5 a wr) (allQ s W)) a wr := by
 refine ⟨_, rfl, ?_⟩
 obtain ⟨ts, A, m, c, k, b, ve, vo, hf, hb, hk, hkb, hbl, hg, ht⟩ := hJ
 rw [mu_eq hf]
 obtain ⟨u, rfl⟩ := hf
 have HB := Lib.hid hb
 have HKB := Lib.hid hkb
 have HBL := Lib.hid hbl
 have HD := Lib.hid (drop_at' hkb)
 have T1 := Lib.hid (ht.setK 5)
 have c1 := ht.c4
 have f1 := ht.fz
 have c2 := T1.out.c4
 have f2 := T1.out.fz
 have hnv := ltext_any s (by omega) (k + 1) (by omega) (wr.setCell ⟨W.heap.size, 0, none⟩ (.int .i64 5))
 have hl1 := goes5 hg
 have HV : Hid (tokB (s.data.toList.drop k) = (txtR (s.data.toList.drop (k + 1))).map fun p => (5, 0, p.1, p.2 + 1)) := by
  show _ = _
  rw [HD.out, hl1, tokB, if_neg (by decide), if_neg (by decide), if_neg (by decide), if_neg (by decide), if_neg (by decide), if_pos rfl]
  unfold txtR
  cases qtB (s.data.toList.drop (k + 1)) with
  | none => rfl
  | some p =>
   simp only [Option.bind_some]
   by_cases hz : p.1.length ≤ 64
   ·rw [if_pos hz, if_pos hz]; rfl
   ·rw [if_neg hz, if_neg hz]; rfl
 obtain ⟨x, e, ok, HX, HBK⟩ : ∃ (x : ByteArray) (e : Int) (ok : Bool), Hid (textV s.data.toList (k + 1) = .tuple #[.string x, .int .i64 e, .bool ok]) ∧ Hid (BackT ((txtR (s.data.toList.drop (k + 1))).map fun p => (5, 0, p.1, p.2 + 1)) k ok 5 0 x e) := by
  cases ho : txtR (s.data.toList.drop (k + 1)) with
  | none => exact ⟨_, _, _, textV_none ho, back_none⟩
  | some p => exact ⟨_, _, _, textV_some ho, back_some rfl (by omega)⟩
 rw [HX.out] at hnv
 have HNV := Lib.hid hnv
 have HB1 := Lib.hid (HB.out.set 0 (.int .i64 5))
 have hki4 : ((k : Int) + 1).toNat = k + 1 := by omega
 have hki5 : (0 : Int) ≤ (k : Int) + 1 := by omega
 clear hnv hb hkb hbl hg ht hl1
 go_wp2_with fail
 refine HNV.out.mono ?_
 rintro e' w2 ⟨rfl, hb2⟩
 have T2 := Lib.hid (T1.out.then_ hb2)
 have T3 := Lib.hid (T2.out.setS x)
 have HB3 := Lib.hid ((HB1.out.then_ hb2).set 3 (.string x))
 have c3 := T2.out.c4
 have f3 := T2.out.fz
 clear hb2
 go_wp2_with fail
 go_step3
 refine ⟨JAll7 ⟨ts, A, m, c, k, b, _, _, _, _, _, _, Fr_mk, (HB3.out : ABase s W ts A m c k _), hk, HKB.out, HBL.out, T3.out, ?_⟩, ?_⟩
 ·rw [HV.out]
  exact HBK.out
 ·rw [mu_eq Fr_mk]
  simp
end Go.Proofs.YtmoglaknmlhpgaaGreatDoor
/- lex.All: from label to label. -/
namespace Go.Proofs.YtmoglaknmlhpgaaGreatDoor
set_option linter.unusedVariables false
open Go.RowKit

set_option maxRecDepth 100000 in
set_option maxHeartbeats 1600000 in
theorem pass6 (s : ByteArray) (W : World) (hs : s.size ≤ 4096) (a : Act) (wr : World) (hJ : JTok s W 6 a wr) : ∃ R, findLabel allCode 6 = some R ∧ R.wp Tryz.prog (exitsTo (fun l' a' w' => JAll s W l' a' w' ∧ muAll s l' a' w' < muAll s 6 a wr) (allQ s W)) a wr := by
 refine ⟨_, rfl, ?_⟩
 obtain ⟨ts, A, m, c, k, b, ve, vo, hf, hb, hk, hkb, hbl, hg, ht⟩ := hJ
 rw [mu_eq hf]
 obtain ⟨u, rfl⟩ := hf
 have HB := Lib.hid hb
 have HKB := Lib.hid hkb
 have HBL := Lib.hid hbl
 have HD := Lib.hid (drop_at' hkb)
 have T1 := Lib.hid (ht.setK 6)
 have c1 := ht.c4
 have f1 := ht.fz
 have c2 := T1.out.c4
 have f2 := T1.out.fz
 have hl1 := goes6 hg
 have hnv := mark_any b (wr.setCell ⟨W.heap.size, 0, none⟩ (.int .i64 6))
 have HV : Hid (tokB (s.data.toList.drop k) = if mrk b = true then some (6, 0, [b], 1) else none) := by
  show _ = _
  rw [HD.out, tokB, if_neg (by rw [hl1.1]; simp), if_neg (by rw [hl1.2.1]; simp), if_neg hl1.2.2.1, if_neg hl1.2.2.2.1, if_neg hl1.2.2.2.2.1, if_neg hl1.2.2.2.2.2]
 have HX : Hid (markV b = .tuple #[.string (if mrk b = true then ⟨#[b]⟩ else ⟨#[]⟩), .bool (mrk b)]) := rfl
 rw [HX.out] at hnv
 have HBK : Hid (BackT (if mrk b = true then some (6, 0, [b], 1) else none) k (mrk b) 6 0 (if mrk b = true then ⟨#[b]⟩ else ⟨#[]⟩) ((k : Int) + 1)) := by
  show BackT _ _ _ _ _ _ _
  cases h : mrk b with
  | true => rw [if_pos rfl, if_pos rfl]; exact back_some rfl (by omega)
  | false => rw [if_neg (by simp), if_neg (by simp)]; exact back_none
 have hbyte : s[k] = b := by
  have := data_at hk
  rw [hkb] at this
  exact (Option.some.inj this).symm
 generalize (if mrk b = true then (⟨#[b]⟩ : ByteArray) else ⟨#[]⟩) = x at *
 generalize mrk b = ok at *
 have HNV := Lib.hid hnv
 have HB1 := Lib.hid (HB.out.set 0 (.int .i64 6))
 have hki : 0 ≤ (k : Int) ∧ (k : Int) < s.size := by omega
 clear hnv hb hkb hbl hg ht hl1
 go_wp2_with fail
 refine HNV.out.mono ?_
 rintro e' w2 ⟨rfl, hb2⟩
 have T2 := Lib.hid (T1.out.then_ hb2)
 have T3 := Lib.hid (T2.out.setS x)
 have HB3 := Lib.hid ((HB1.out.then_ hb2).set 3 (.string x))
 have c3 := T2.out.c4
 have f3 := T2.out.fz
 clear hb2
 go_wp2_with fail
 go_step3
 go_step
 go_step
 refine wp_mono (backPass s W hs _ _ ⟨ts, A, m, c, k, b, (k : Int) + 1, ok, _, 6, 0, x, Fr_mk, (HB3.out : ABase s W ts A m c k _), hk, HKB.out, HBL.out, T3.out, by rw [HV.out]; exact HBK.out⟩) ?_
 intro e2 a2 w3 hq
 cases e2 with
 | goto l =>
  refine ⟨hq.1, Nat.lt_trans hq.2 ?_⟩
  rw [mu_eq Fr_mk]
  simp
 | _ => exact hq
end Go.Proofs.YtmoglaknmlhpgaaGreatDoor
