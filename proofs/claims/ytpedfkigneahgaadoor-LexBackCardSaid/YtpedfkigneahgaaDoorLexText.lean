/- text of package lex: a quoted text. -/
import Derived.Test.YtpedfkigneahgaaDoorLexOneS
import Derived.Test.YtpedfkigneahgaaDoorLexNumS
import Derived.Test.YtpedfkigneahgaaDoorMake
namespace Go.Proofs.YtpedfkigneahgaaDoor
set_option linter.unusedVariables false
open Go.RowKit

def txtR (l : List UInt8) : Option (List UInt8 × Nat) := (qtB l).bind fun p => if p.1.length ≤ 64 then some p else none
/-- text's answer. -/
def textV (l : List UInt8) (a : Nat) : Value := match txtR (l.drop a) with
  | some (m, j) => .tuple #[.string ⟨m.toArray⟩, .int .i64 ((a + j : Nat) : Int), .bool true]
  | none => .tuple #[.string ⟨#[]⟩, .int .i64 0, .bool false]
theorem textV_none {l : List UInt8} {a : Nat} (h : txtR (l.drop a) = none) : textV l a = .tuple #[.string ⟨#[]⟩, .int .i64 0, .bool false] := by unfold textV; rw [h]
theorem textV_some {l : List UInt8} {a j : Nat} {m : List UInt8} (h : txtR (l.drop a) = some (m, j)) : textV l a = .tuple #[.string ⟨m.toArray⟩, .int .i64 ((a + j : Nat) : Int), .bool true] := by unfold textV; rw [h]

/-- Behind k the text goes on as behind a, with m meant so far. -/
def QtTo (l : List UInt8) (a k : Nat) (m : List UInt8) : Prop := a ≤ k ∧ qtB (l.drop a) = (qtB (l.drop k)).map fun p => (m ++ p.1, (k - a) + p.2)
theorem QtTo.start (l : List UInt8) (a : Nat) : QtTo l a a [] := ⟨Nat.le_refl _, by simp⟩
theorem QtTo.step {l : List UInt8} {a k : Nat} {m r : List UInt8} {c x : UInt8} {j : Nat} (h : QtTo l a k m) (hd : l.drop k = c :: r) (hc : c ≠ 34) (ho : oneB (c :: r) = some (x, j)) : QtTo l a (k + j) (m ++ [x]) := by
  obtain ⟨h1, h2⟩ := h
  refine ⟨by omega, ?_⟩
  rw [h2, hd, qtB_one hc ho, ← hd, List.drop_drop, Option.map_map]
  congr 1
  funext p
  simp [Function.comp]
  omega
theorem QtTo.bad {l : List UInt8} {a k : Nat} {m r : List UInt8} {c : UInt8} (h : QtTo l a k m) (hd : l.drop k = c :: r) (hc : c ≠ 34) (ho : oneB (c :: r) = none) : txtR (l.drop a) = none := by
  unfold txtR; rw [h.2, hd, qtB_bad hc ho]; rfl
theorem QtTo.end {l : List UInt8} {a k : Nat} {m : List UInt8} (h : QtTo l a k m) (hk : l.length ≤ k) : txtR (l.drop a) = none := by
  unfold txtR; rw [h.2, List.drop_of_length_le hk, qtB_nil]; rfl
theorem QtTo.quote {l : List UInt8} {a k : Nat} {m r : List UInt8} (h : QtTo l a k m) (hd : l.drop k = 34 :: r) : txtR (l.drop a) = if m.length ≤ 64 then some (m, k - a + 1) else none := by
  unfold txtR; rw [h.2, hd, qtB_end]; simp

def TRel (w : World) (l : List UInt8) (a n : Nat) (i o : Value) (wr : World) : Prop :=
  ∃ (k j c : Nat) (A : Option Addr) (m : List UInt8), k ≤ n ∧ i = .int .i64 (k : Int) ∧ o = .slice A j c ∧ wr.ownsRow w.heap.size 5 1 (.slice A j c) j (bv m) ∧ Below w.heap.size w wr ∧ QtTo l a k m ∧ m.length ≤ k

theorem drop_at {l : List UInt8} {k : Nat} {c : UInt8} (h : l[k]? = some c) : l.drop k = c :: l.drop (k + 1) := by
  obtain ⟨hk, e⟩ := List.getElem?_eq_some_iff.1 h
  rw [List.drop_eq_getElem_cons hk, e]

set_option maxHeartbeats 1600000 in
theorem ltext_any (s : ByteArray) (hs : s.size ≤ 100000) (a : Nat) (ha : a ≤ s.size) (w : World) :
    Calls Tryd.prog 19 #[.string s, .int .i64 (a : Int)] w fun e w' => e = .returned (textV s.data.toList a) ∧ Below w.heap.size w w' := by
  have hl := data_len s
  have hone : ∀ k w, k < s.size → Calls Tryd.prog 28 #[.string (s.extract k s.size)] w fun e w' => e = .returned (oneV (s.data.toList.drop k)) ∧ w' = w := fun k w hk => by
    have := one_any (s.extract k s.size) (by rw [ext_size _ (Nat.le_refl _)]; unfold maxLen; omega) (by rw [ext_size _ (Nat.le_refl _)]; omega) w
    rwa [ext_drop] at this
  generalize hL : s.data.toList = l at *
  have HONE := Lib.hid hone
  have HD : Hid (∀ k (h : k < s.size), l[k]? = some s[k]) := by
    show ∀ k (h : k < s.size), l[k]? = some s[k]
    subst hL; exact fun k h => data_at h
  have HL := Lib.hid hl
  clear hl hone hL
  have hstart : TRel w l a s.size (.int .i64 (a : Int)) (.slice none 0 0) w := ⟨a, 0, 0, none, [], ha, rfl, rfl, ⟨rfl, .inl ⟨rfl, rfl⟩⟩, Below.refl _ _, QtTo.start _ _, by simp⟩
  have HS := Lib.hid hstart
  clear hstart
  obtain ⟨i, hi, hz0, hz1, hz2⟩ := info_parts u8info
  have HI := Lib.hid (And.intro hi (And.intro hz0 (And.intro hz1 hz2)))
  clear hi hz0 hz1 hz2
  go_enter Tryd.func19, Tryd.ntmps19
  go_wp2_with fail
  go_loopw [1, 7] (fun i o wr => TRel w l a s.size i o wr) (fun i _ _ => s.size - (intOf i).toNat)
  case atStart => exact HS.out
  case round =>
    obtain ⟨k, j, c, A, m, hk, rfl, rfl, hown, hbel, hq, hmk⟩ := hrel
    have HQ := Lib.hid hq
    have HB := Lib.hid hbel
    have hj : m.length = j := by have := hown.1; simpa [bv_len] using this
    have HJ := Lib.hid hj
    clear hq hj
    by_cases hlt : k < s.size
    · have hki : 0 ≤ (k : Int) ∧ (k : Int) < s.size := by omega
      have hc := HD.out k hlt
      generalize hcc : s[k] = b at *
      have HC := Lib.hid (drop_at hc)
      clear hc
      have hb8 : b.toNat < 256 := b.toNat_lt
      by_cases h34 : b = 34
      · subst h34
        by_cases h64 : m.length ≤ 64
        · have HV : Hid (textV l a = .tuple #[.string ⟨m.toArray⟩, .int .i64 ((a + (k - a + 1) : Nat) : Int), .bool true]) := by show _ = _; exact textV_some (by rw [HQ.out.quote HC.out, if_pos h64])
          have hcv := conv_text Tryd.underlying52 Tryd.underlying5 Tryd.underlying9 (Sl.of_own hown)
          have hak : ((a + (k - a + 1) : Nat) : Int) = (k : Int) + 1 := by have := HQ.out.1; omega
          have HAK := Lib.hid hak
          have hkn : ((k : Int) == (s.size : Int)) = false := by rw [beq_eq_false_iff_ne]; omega
          have hj64 : ¬ (64 : Int) < (j : Int) := by have := HJ.out; omega
          clear hown hbel hak h64 hmk
          go_wp2_with fail
          go_ret3
          exact ⟨by rw [HV.out, HAK.out]; rfl, HB.out⟩
        · have HV : Hid (textV l a = .tuple #[.string ⟨#[]⟩, .int .i64 0, .bool false]) := by show _ = _; exact textV_none (by rw [HQ.out.quote HC.out, if_neg h64])
          have hkn : ((k : Int) == (s.size : Int)) = false := by rw [beq_eq_false_iff_ne]; omega
          have hj64 : (64 : Int) < (j : Int) := by have := HJ.out; omega
          clear hown hbel h64 hmk
          go_wp2_with fail
          go_ret3
          exact ⟨by rw [HV.out]; rfl, HB.out⟩
      · have hb34 : ((b.toNat : Int) != 34) = true := by
          rw [bne_iff_ne]
          intro h
          exact h34 (UInt8.toNat_inj.1 (by have : (34 : UInt8).toNat = 34 := rfl; omega))
        have ho := HONE.out k wr hlt
        rw [HC.out] at ho
        cases hone : oneB (b :: l.drop (k + 1)) with
        | none =>
          rw [oneV_none hone] at ho
          have HO := Lib.hid ho
          have HV : Hid (textV l a = .tuple #[.string ⟨#[]⟩, .int .i64 0, .bool false]) := by show _ = _; exact textV_none (HQ.out.bad HC.out h34 hone)
          clear hown hbel hmk ho hone h34
          go_wp2_with (go_at_call 28; refine HO.out.mono ?_; rintro e w' ⟨rfl, rfl⟩)
          go_ret3
          exact ⟨by rw [HV.out]; rfl, HB.out⟩
        | some xk =>
          obtain ⟨x, q⟩ := xk
          rw [oneV_some hone] at ho
          have HO := Lib.hid ho
          have hqp := oneB_pos hone
          have hqn : 1 ≤ q ∧ k + q ≤ s.size := by
            have := hqp.2
            rw [← HC.out, List.length_drop, HL.out] at this
            omega
          have hq0 : ((q : Int) == 0) = false := by rw [beq_eq_false_iff_ne]; omega
          obtain ⟨A2, c2, w2, hap, hown2, hbel2⟩ := append_one (P := Tryd.prog) (ty := 52) Tryd.underlying52 HI.out.1 HI.out.2.1 HI.out.2.2.1 HI.out.2.2.2 hown (by have := HJ.out; omega) hbel.size (x.toNat : Int)
          have hown3 : w2.ownsRow w.heap.size 5 1 (.slice A2 (j + 1) c2) (j + 1) (bv (m ++ [x])) := by rw [bv_app]; exact hown2
          have HO2 := Lib.hid hown3
          have HB2 := Lib.hid (hbel.trans hbel2)
          have HAP := Lib.hid hap
          have HQ2 := Lib.hid (HQ.out.step HC.out h34 hone)
          clear hown hbel ho hone h34 hqp hap hown2 hbel2 hown3
          go_wp2_with (first | (go_at_call 28; refine HO.out.mono ?_; rintro e w' ⟨rfl, rfl⟩) | (at_builtin; refine wpList_append_run rfl _ _ _ _ rfl rfl rfl HAP.out ?_))
          go_roundw
          case rel => exact ⟨k + q, j + 1, c2, A2, m ++ [x], hqn.2, by go_num, rfl, HO2.out, HB2.out, HQ2.out, by rw [List.length_append]; simp; omega⟩
          case measure => simp [intOf]; omega
    · obtain rfl : k = s.size := by omega
      have HV : Hid (textV l a = .tuple #[.string ⟨#[]⟩, .int .i64 0, .bool false]) := by show _ = _; exact textV_none (HQ.out.end (by rw [HL.out]; exact Nat.le_refl _))
      clear hown hbel
      go_wp2_with fail
      go_ret3
      exact ⟨by rw [HV.out]; rfl, HB.out⟩
end Go.Proofs.YtpedfkigneahgaaDoor
