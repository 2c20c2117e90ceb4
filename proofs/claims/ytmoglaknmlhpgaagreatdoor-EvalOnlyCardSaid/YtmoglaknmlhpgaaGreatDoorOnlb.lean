/- Several texts in one: ParIn, Put7, KeepSame, AskFew, AskAsks, AskApart, AskPut, AskWithA, AskShort. -/
import Derived.Test.YtmoglaknmlhpgaaGreatDoorOnla
import Derived.Test.YtmoglaknmlhpgaaGreatDoorOnlA
import Derived.Test.YtmoglaknmlhpgaaGreatDoorOnlF
import Derived.Laws.StructEq
import Derived.Laws.Tables
import Derived.Laws.Cover2
import Derived.Lib.QuietBelow
import Derived.Deep.CutRange
import Derived.Test.YtmoglaknmlhpgaaGreatDoorOnlM
import Derived.Test.YtmoglaknmlhpgaaGreatDoorOnlI
import Derived.Test.YtmoglaknmlhpgaaGreatDoorOnlG
/- What is read of a text, as the laws take it. -/
namespace Go.Proofs.YtmoglaknmlhpgaaGreatDoor
set_option linter.unusedVariables false
open Go.RowKit

theorem parse_is {w : World} {s : ByteArray} {p : Pol} {e i : Int} (h : parseR s = (p, e, i)) (hs : s.size ≤ maxLen) : Calls Tryz.prog 31 #[.string s] w fun x w' => ∃ y, x = .returned (.tuple #[y, .int .i64 e, .int .i64 i]) ∧ Below w.heap.size w w' ∧ PolOf w w' 5 p y := by
 have := parse_any (w := w) s hs
 unfold ParseP at this
 rw [h] at this
 exact this
theorem PolAt.in_ {w : World} {R : Nat → Prop} {d : Nat} {p : Pol} {A1 A2 A3 A4 : Option Addr} {n1 n2 n3 n4 c1 c2 c3 c4 : Nat} (h : PolAt w R (d + 1) [.string p.id, .bool p.set, .int .i64 p.alg, .slice A1 n1 c1, .slice A2 n2 c2, .slice A3 n3 c3, .slice A4 n4 c4] p) : PolIn w R p A1 n1 c1 A2 n2 c2 A3 n3 c3 A4 n4 c4 := by
 obtain ⟨B1, m1, d1, B2, m2, d2, B3, m3, d3, B4, m4, d4, e, h0, h00, h1, h2, h3, h4⟩ := h
 simp at e
 obtain ⟨⟨rfl, rfl, rfl⟩, ⟨rfl, rfl, rfl⟩, ⟨rfl, rfl, rfl⟩, ⟨rfl, rfl, rfl⟩⟩ := e
 exact ⟨⟨h0, h00⟩, h1, h2, ⟨d, h3⟩, h4⟩
end Go.Proofs.YtmoglaknmlhpgaaGreatDoor
/- Seven cells stored over others. -/
namespace Go.Proofs.YtmoglaknmlhpgaaGreatDoor
set_option linter.unusedVariables false
open Go.RowKit

def put1W (V : World) (P : Nat) (b0 : Value) : World := V.setCell ⟨P, 0, none⟩ b0
def put2W (V : World) (P : Nat) (b0 b1 : Value) : World := (put1W V P b0).setCell ⟨P, 1, none⟩ b1
def put3W (V : World) (P : Nat) (b0 b1 b2 : Value) : World := (put2W V P b0 b1).setCell ⟨P, 2, none⟩ b2
def put4W (V : World) (P : Nat) (b0 b1 b2 b3 : Value) : World := (put3W V P b0 b1 b2).setCell ⟨P, 3, none⟩ b3
def put5W (V : World) (P : Nat) (b0 b1 b2 b3 b4 : Value) : World := (put4W V P b0 b1 b2 b3).setCell ⟨P, 4, none⟩ b4
def put6W (V : World) (P : Nat) (b0 b1 b2 b3 b4 b5 : Value) : World := (put5W V P b0 b1 b2 b3 b4).setCell ⟨P, 5, none⟩ b5
def put7W (V : World) (P : Nat) (b0 b1 b2 b3 b4 b5 b6 : Value) : World := (put6W V P b0 b1 b2 b3 b4 b5).setCell ⟨P, 6, none⟩ b6
section
variable {V : World} {P : Nat} {t : TypeId} {a0 a1 a2 a3 a4 a5 a6 : Value}
theorem put1_ob (h : Ob V P t #[a0, a1, a2, a3, a4, a5, a6]) (b0 : Value) : Ob (put1W V P b0) P t #[b0, a1, a2, a3, a4, a5, a6] := h.put 0 b0
theorem put2_ob (h : Ob V P t #[a0, a1, a2, a3, a4, a5, a6]) (b0 b1 : Value) : Ob (put2W V P b0 b1) P t #[b0, b1, a2, a3, a4, a5, a6] := (put1_ob h b0).put 1 b1
theorem put3_ob (h : Ob V P t #[a0, a1, a2, a3, a4, a5, a6]) (b0 b1 b2 : Value) : Ob (put3W V P b0 b1 b2) P t #[b0, b1, b2, a3, a4, a5, a6] := (put2_ob h b0 b1).put 2 b2
theorem put4_ob (h : Ob V P t #[a0, a1, a2, a3, a4, a5, a6]) (b0 b1 b2 b3 : Value) : Ob (put4W V P b0 b1 b2 b3) P t #[b0, b1, b2, b3, a4, a5, a6] := (put3_ob h b0 b1 b2).put 3 b3
theorem put5_ob (h : Ob V P t #[a0, a1, a2, a3, a4, a5, a6]) (b0 b1 b2 b3 b4 : Value) : Ob (put5W V P b0 b1 b2 b3 b4) P t #[b0, b1, b2, b3, b4, a5, a6] := (put4_ob h b0 b1 b2 b3).put 4 b4
theorem put6_ob (h : Ob V P t #[a0, a1, a2, a3, a4, a5, a6]) (b0 b1 b2 b3 b4 b5 : Value) : Ob (put6W V P b0 b1 b2 b3 b4 b5) P t #[b0, b1, b2, b3, b4, b5, a6] := (put5_ob h b0 b1 b2 b3 b4).put 5 b5
theorem put7_ob (h : Ob V P t #[a0, a1, a2, a3, a4, a5, a6]) (b0 b1 b2 b3 b4 b5 b6 : Value) : Ob (put7W V P b0 b1 b2 b3 b4 b5 b6) P t #[b0, b1, b2, b3, b4, b5, b6] := (put6_ob h b0 b1 b2 b3 b4 b5).put 6 b6
theorem put7_only (b0 b1 b2 b3 b4 b5 b6 : Value) : Only P V (put7W V P b0 b1 b2 b3 b4 b5 b6) := by
 have on : ∀ {W : World} (q : Only P V W) (i : Nat) (b : Value), Only P V (W.setCell ⟨P, i, none⟩ b) := fun q i b => q.setCell rfl b
 exact on (on (on (on (on (on (on Only.refl 0 b0) 1 b1) 2 b2) 3 b3) 4 b4) 5 b5) 6 b6
end
end Go.Proofs.YtmoglaknmlhpgaaGreatDoor
/- bailiffkeep: two policies that are the same. -/
namespace Go.Proofs.YtmoglaknmlhpgaaGreatDoor
set_option linter.unusedVariables false
open Go.RowKit Go.Sort

section
variable {w : World} {R R' : Nat → Prop} {A A' : Option Addr} {n c n' c' : Nat}
theorem Rw.same_len {α : Type} {k k' : Nat} {P P' : List Value → α → Prop} {w : World} {R R' : Nat → Prop} {A A' : Option Addr} {n n' c c' : Nat} {l : List α} (h : Rw k P w R A n c l) (h' : Rw k' P' w R' A' n' c' l) : n = n' := by rw [← h.len, ← h'.len]
set_option maxHeartbeats 800000 in
theorem same_dut {l : List Dut} (h : Dus w R A n c l) (h' : Dus w R' A' n c' l) : Calls Tryz.prog 25 #[.slice A n c, .slice A' n c'] w fun e w' => e = .returned (.bool true) ∧ Below w.heap.size w w' := by
 have hcap := h.cap
 have hle := h.le
 have hle' := h'.le
 unfold maxLen at hcap
 have H := Lib.hid h
 have H' := Lib.hid h'
 clear h h'
 go_enter Tryz.func25, Tryz.ntmps25
 go_wp2
 go_loopw [5] (fun i wr => ∃ k : Nat, k ≤ n ∧ i = .int .i64 k ∧ ∃ q, wr = w.drewN q) (fun i _ => n - (intOf i).toNat)
 case atStart => exact ⟨0, Nat.zero_le _, rfl, 0, rfl⟩
 case round =>
  obtain ⟨k, hk, rfl, q, rfl⟩ := hrel
  by_cases hlt : k < n
  ·obtain ⟨b, o, x, rfl, _, _, hx, _, ⟨x0, x1, x2⟩⟩ := H.out.at_ hlt
   obtain ⟨b', o', y, rfl, _, _, hy, _, ⟨y0, y1, y2⟩⟩ := H'.out.at_ hlt
   obtain rfl := Option.some.inj (hx.symm.trans hy)
   have hve := dut_eq x x
   simp only [decide_true] at hve
   clear hx hy
   go_wp2_with fail
   go_quiet (fail)
   go_wp2
   go_roundw
   case rel => exact ⟨k + 1, by omega, by go_num, _, rfl⟩
   case measure => simp [intOf]; omega
  ·obtain rfl : k = n := by omega
   go_wp2
   go_ret
   exact ⟨rfl, below_drewN (Below.refl _ _) _⟩
end
end Go.Proofs.YtmoglaknmlhpgaaGreatDoor
/- bailiffkeep.Few: may a request be gone through in a while? -/
namespace Go.Proofs.YtmoglaknmlhpgaaGreatDoor
set_option linter.unusedVariables false
open Go.RowKit

def valC (v : Vl) : Nat := textC v.s
def givC (g : Giv) : Nat := textC g.name + g.bag.length + sumC valC g.bag
def fewC (l : List Giv) : Nat := 2 * l.length + sumC givC l
theorem few_each {l : List Giv} (h : fewC l ≤ 1200) {g : Giv} (hg : g ∈ l) : g.name.size ≤ 9600 ∧ g.bag.length ≤ 1200 ∧ ∀ v ∈ g.bag, v.s.size ≤ 9600 := by
 have h1 := sumC_mem (f := givC) hg
 unfold fewC at h
 have e : givC g = textC g.name + g.bag.length + sumC valC g.bag := rfl
 have e2 : textC g.name = 1 + g.name.size / 8 := rfl
 refine ⟨by omega, by omega, fun v hv => ?_⟩
 have h2 := sumC_mem (f := valC) hv
 have e3 : valC v = 1 + v.s.size / 8 := rfl
 omega
theorem few_len {l : List Giv} (h : fewC l ≤ 1200) : l.length ≤ 600 := by unfold fewC at h; omega

set_option maxHeartbeats 1600000 in
theorem few_any {w : World} {R : Nat → Prop} {A : Option Addr} {n c : Nat} {l : List Giv} (h0 : Gvs w R A n c l) :
  Calls Tryz.prog 5 #[.slice A n c] w fun e w' => e = .returned (.bool (decide (fewC l ≤ 1200))) ∧ Below w.heap.size w w' := by
 have hb0 : Below w.heap.size w (w.alloc (.cells #[.int .i64 1200] 53)) := (Below.refl _ _).alloc (Nat.le_refl _) _
 have h : Gvs (w.alloc (.cells #[.int .i64 1200] 53)) (fun b => b < w.heap.size) A n c l := h0.keep (Kept.all hb0 R) (fun b _ hb => hb)
 have hl : Lf (w.alloc (.cells #[.int .i64 1200] 53)) w.heap.size 1200 := Ob.made w _ _
 have hR : ∀ b, b < w.heap.size → b ≠ w.heap.size := fun b hb => by omega
 have hle := Rw.le h
 have hcap := Rw.cap h
 have hbig := Rw.big h
 have HL := Lib.hid (Rw.len h)
 have HT := Lib.hid (takes_any (n := 2 * n) hl (by omega) (by unfold maxLen; omega))
 unfold Taking at HT
 rw [show ((2 * n : Nat) : Int) = 2 * (n : Int) by omega] at HT
 have H := Lib.hid h
 have HR := Lib.hid hR
 have HB0 := Lib.hid hb0
 have HC : Hid (fewC l = 2 * n + sumC givC l) := by show fewC l = _; unfold fewC; rw [HL.out]
 unfold maxLen at hcap
 generalize hcc : fewC l = cc at *
 have HG : Hid (∀ W, Only w.heap.size (w.alloc (.cells #[.int .i64 1200] 53)) W → Below w.heap.size w W) := Lib.hid (fun W hW => hb0.trans (hW.below (by simp) (Nat.le_refl _)))
 clear hcc h hl hR hb0 h0
 generalize hg : w.heap.size = g at *
 by_cases h1 : 2 * n ≤ 1200
 ·rw [decide_eq_true h1] at HT
  have H1 := Lib.hid h1
  clear h1
  go_enter Tryz.func5, Tryz.ntmps5
  go_wp2_with (go_at_call 14; refine HT.out.mono ?_; rintro e w1 ⟨rfl, hb, hw⟩; have B1 := Lib.hid hb; have W1 := Lib.hid (hw H1.out); clear hb hw)
  go_loopw [18] (fun i wr => ∃ k mk : Nat, k ≤ n ∧ i = .int .i64 k ∧ sumC givC (l.take k) + mk = 1200 - 2 * n ∧ Lf wr g mk ∧ Only g (w.alloc (.cells #[.int .i64 1200] 53)) wr) (fun i _ => n - (intOf i).toNat)
  case atStart => exact ⟨0, 1200 - 2 * n, Nat.zero_le _, rfl, by rw [sumC_zero]; omega, W1.out, B1.out⟩
  case round =>
   obtain ⟨wo, hwo⟩ : ∃ wo, wo = wr := ⟨wr, rfl⟩
   subst hwo
   obtain ⟨k, mk, hk, rfl, hs, hlf, hb⟩ := hrel
   have HS := Lib.hid hs
   have HB := Lib.hid hb
   have HF := Lib.hid hlf
   clear hs hb hlf
   by_cases hlt : k < n
   ·obtain ⟨b, o, x, A', n', c', rfl, hRb, hbl, hx, hok, ⟨c0, c1, c2⟩, hin⟩ := (H.out.keep (HB.out.kept HR.out) (fun _ h _ => h)).at_ hlt
    have HX := Lib.hid hx
    have hle' := Rw.le hin
    have hcap' := Rw.cap hin
    have hbig' := Rw.big hin
    have HL' := Lib.hid (Rw.len hin)
    have HIN := Lib.hid hin
    have HSX := Lib.hid (sumC_le (f := givC) hx)
    have HEX : Hid (givC x = textC x.name + n' + sumC valC x.bag) := by show givC x = _; unfold givC; rw [HL'.out]
    have HXT := Lib.hid (ktext_any x.name (HF.out.alloc (.cells #[.int .i64 x.cat, .string x.name, .slice A' n' c'] 34)) (by have := HS.out; omega) hok.2)
    unfold Taking at HXT
    have hne : wo.heap.size ≠ g := by have := HF.out.lt; omega
    unfold maxLen at hcap'
    clear hx hok hin
    by_cases h2 : textC x.name ≤ mk
    ·rw [decide_eq_true h2] at HXT
     have H2 := Lib.hid h2
     clear h2
     by_cases h3 : n' ≤ mk - textC x.name
     ·have d3 := decide_eq_true h3
      have H3 := Lib.hid h3
      clear h3
      go_wp2_with (first
       | (go_at_call 15; (with_reducible refine HXT.out.mono ?_); rintro e w2 ⟨rfl, hb, hw⟩; have B2 := Lib.hid hb; have W2 := Lib.hid (hw H2.out); have BX := Lib.hid ((Ob.made wo 34 #[.int .i64 x.cat, .string x.name, .slice A' n' c']).keep (hb.heap (by simp) hne)); have g2 := BX.out.cell 2; have HT3 := Lib.hid (takes_any (n := n') W2.out (by have := HS.out; omega) (by unfold maxLen; omega)); unfold Taking at HT3; rw [d3] at HT3; clear hb hw)
       | (go_at_call 14; (with_reducible refine HT3.out.mono ?_); rintro e w3 ⟨rfl, hb, hw⟩; have B3 := Lib.hid hb; have W3 := Lib.hid (hw H3.out); have BX3 := Lib.hid (BX.out.keep (hb.heap BX.out.lt hne)); have g3 := BX3.out.cell 2; clear hb hw))
      go_loopw [38] (fun i wq => ∃ k2 m2 : Nat, k2 ≤ n' ∧ i = .int .i64 k2 ∧ sumC valC (x.bag.take k2) + m2 = mk - textC x.name - n' ∧ Lf wq g m2 ∧ Only g wo wq) (fun i _ => n' - (intOf i).toNat)
      case atStart => exact ⟨0, mk - textC x.name - n', Nat.zero_le _, rfl, by rw [sumC_zero]; omega, W3.out, (Only.alloc _ _ _).trans (B2.out.trans B3.out)⟩
      case round =>
       obtain ⟨wq, hwq⟩ : ∃ wq, wq = wr := ⟨wr, rfl⟩
       subst hwq
       obtain ⟨k2, m2, hk2, rfl, hs, hlf, hb⟩ := hrel
       have HS2 := Lib.hid hs
       have HB2 := Lib.hid hb
       have HF2 := Lib.hid hlf
       clear hs hb hlf
       by_cases hlt2 : k2 < n'
       ·obtain ⟨b2, o2, y, rfl, hRb2, hbl2, hy, hoky, ⟨f0, f1, f2⟩⟩ := (HIN.out.keep (HB2.out.kept HR.out) (fun _ h _ => h)).at_ hlt2
        have HY := Lib.hid hy
        have HSY := Lib.hid (sumC_le (f := valC) hy)
        have HEY : Hid (valC y = textC y.s) := rfl
        have HYT := Lib.hid (ktext_any y.s (HF2.out.alloc (.cells #[.int .i64 y.k, .int .i64 y.n, .string y.s] 31)) (by have := HS2.out; have := HS.out; omega) hoky.2.2)
        unfold Taking at HYT
        clear hy hoky
        by_cases h4 : textC y.s ≤ m2
        ·rw [decide_eq_true h4] at HYT
         have H4 := Lib.hid h4
         clear h4
         go_wp2_with (go_at_call 15; (with_reducible refine HYT.out.mono ?_); rintro e w4 ⟨rfl, hb, hw⟩; have B4 := Lib.hid hb; have W4 := Lib.hid (hw H4.out); clear hb hw)
         go_roundw
         case rel => exact ⟨k2 + 1, m2 - textC y.s, by omega, by go_num, by rw [sumC_take HY.out, HEY.out]; have := HS2.out; have := H4.out; omega, W4.out, HB2.out.trans ((Only.alloc _ _ _).trans B4.out)⟩
         case measure => simp [intOf]; omega
        ·rw [decide_eq_false h4] at HYT
         have H4 := Lib.hid h4
         clear h4
         go_wp2_with (go_at_call 15; (with_reducible refine HYT.out.mono ?_); rintro e w4 ⟨rfl, hb, hw⟩; have B4 := Lib.hid hb; clear hb hw)
         go_ret
         have hbad : ¬ cc ≤ 1200 := by
          have := HC.out; have := HS.out; have := H1.out; have := HSX.out; have := HEX.out; have := H2.out; have := H3.out; have := HS2.out; have := HSY.out; have := HEY.out; have := H4.out
          omega
         exact ⟨ret_bool (decide_eq_false hbad).symm, HG.out _ (HB.out.trans (HB2.out.trans ((Only.alloc _ _ _).trans B4.out)))⟩
       ·obtain rfl : k2 = n' := by omega
        go_wp2
        go_roundw
        case rel => exact ⟨k + 1, m2, by omega, by go_num, by rw [sumC_take HX.out, HEX.out]; have := HS2.out; rw [sumC_all HL'.out] at this; have := HS.out; have := H2.out; have := H3.out; omega, HF2.out, HB.out.trans HB2.out⟩
        case measure => simp [intOf]; omega
     ·have d3 := decide_eq_false h3
      have H3 := Lib.hid h3
      clear h3
      go_wp2_with (first
       | (go_at_call 15; (with_reducible refine HXT.out.mono ?_); rintro e w2 ⟨rfl, hb, hw⟩; have B2 := Lib.hid hb; have W2 := Lib.hid (hw H2.out); have BX := Lib.hid ((Ob.made wo 34 #[.int .i64 x.cat, .string x.name, .slice A' n' c']).keep (hb.heap (by simp) hne)); have g2 := BX.out.cell 2; have HT3 := Lib.hid (takes_any (n := n') W2.out (by have := HS.out; omega) (by unfold maxLen; omega)); unfold Taking at HT3; rw [d3] at HT3; clear hb hw)
       | (go_at_call 14; (with_reducible refine HT3.out.mono ?_); rintro e w3 ⟨rfl, hb, hw⟩; have B3 := Lib.hid hb; clear hb hw))
      go_ret
      have hbad : ¬ cc ≤ 1200 := by
       have := HC.out; have := HS.out; have := H1.out; have := HSX.out; have := HEX.out; have := H2.out; have := H3.out
       omega
      exact ⟨ret_bool (decide_eq_false hbad).symm, HG.out _ (HB.out.trans ((Only.alloc _ _ _).trans (B2.out.trans B3.out)))⟩
    ·rw [decide_eq_false h2] at HXT
     have H2 := Lib.hid h2
     clear h2
     go_wp2_with (go_at_call 15; (with_reducible refine HXT.out.mono ?_); rintro e w2 ⟨rfl, hb, hw⟩; have B2 := Lib.hid hb; clear hb hw)
     go_ret
     have hbad : ¬ cc ≤ 1200 := by
      have := HC.out; have := HS.out; have := H1.out; have := HSX.out; have := HEX.out; have := H2.out
      omega
     exact ⟨ret_bool (decide_eq_false hbad).symm, HG.out _ (HB.out.trans ((Only.alloc _ _ _).trans B2.out))⟩
   ·obtain rfl : k = n := by omega
    go_wp2
    go_ret
    have hs := HS.out
    rw [sumC_all HL.out] at hs
    have := HC.out
    have := H1.out
    exact ⟨ret_bool (decide_eq_true (by omega)).symm, HG.out _ HB.out⟩
 ·rw [decide_eq_false h1] at HT
  have H1 := Lib.hid h1
  clear h1
  go_enter Tryz.func5, Tryz.ntmps5
  go_wp2_with (go_at_call 14; refine HT.out.mono ?_; rintro e w1 ⟨rfl, hb, hw⟩; have B1 := Lib.hid hb; clear hb hw)
  go_ret
  have hbad : ¬ cc ≤ 1200 := by have := HC.out; have := H1.out; omega
  exact ⟨ret_bool (decide_eq_false hbad).symm, HG.out _ B1.out⟩
end Go.Proofs.YtmoglaknmlhpgaaGreatDoor
/- bailiffkeep.Asks: a request in new memory. -/
namespace Go.Proofs.YtmoglaknmlhpgaaGreatDoor
set_option linter.unusedVariables false
open Go.RowKit

def Og (w : World) (base : Nat) (A : Option Addr) (n c : Nat) (l : List Giv) : Prop := Ow 3 (GivAt w (Nb 0 (.slice A n c))) w base 34 A n c l ∧ base ≤ w.heap.size
theorem Og.below {w w' : World} {base n c : Nat} {A : Option Addr} {l : List Giv} (h : Og w base A n c l) (hb : Below w.heap.size w w') : Og w' base A n c l :=
 ⟨(h.1.mapP (fun vs x _ hp => hp.keep (Kept.all hb _) (fun _ h _ => h))).below hb, Nat.le_trans h.2 hb.size⟩
theorem Og.gvs {w : World} {base n c : Nat} {A : Option Addr} {l : List Giv} (h : Og w base A n c l) (hn : n ≤ 1000000) : Gvs w (fun _ => True) A n c l :=
 (h.1.mapP (fun vs x _ hp => hp.keep (Kept.refl _ _) (fun _ _ _ => trivial))).rw (by omega) (fun _ _ _ => trivial)
theorem Og.push {w : World} {base n c : Nat} {A : Option Addr} {l : List Giv} {A1 : Option Addr} {n1 c1 : Nat} {g : Giv} (h : Og w base A n c l) (hok : g.ok) (hx : Vls w (Nb 0 (.slice A n c)) A1 n1 c1 g.bag) (hn : n < 1000000) :
  ∃ A' c' w', (Builtin.append_ #[29, 29] 29 #[.slice A n c, .slice (some ⟨w.heap.size, 0, none⟩) 1 1]).run Tryz.prog (w.alloc (.cells #[.int .i64 g.cat, .string g.name, .slice A1 n1 c1] 34)) = .ok (.slice A' (n + 1) c') w' ∧ Og w' base A' (n + 1) c' (l ++ [g]) ∧ Below base w w' := by
 obtain ⟨i, hi, hz, hs, hb⟩ := info_of givinfo
 have hbase := h.2
 have a1 : Below w.heap.size w (w.alloc (.cells #[.int .i64 g.cat, .string g.name, .slice A1 n1 c1] 34)) := (Below.refl _ _).alloc (Nat.le_refl _) _
 have h' := Og.below h a1
 have hlit : Rw 3 (GivAt (w.alloc (.cells #[.int .i64 g.cat, .string g.name, .slice A1 n1 c1] 34)) (Nb 0 (.slice A n c))) (w.alloc (.cells #[.int .i64 g.cat, .string g.name, .slice A1 n1 c1] 34)) (fun _ => True) (some ⟨w.heap.size, 0, none⟩) 1 1 [g] := by
  have := Rw.lit (P := GivAt (w.alloc (.cells #[.int .i64 g.cat, .string g.name, .slice A1 n1 c1] 34)) (Nb 0 (.slice A n c))) (R := fun _ => True) w 34 (fun _ => [.int .i64 g.cat, .string g.name, .slice A1 n1 c1]) [g] (n := 1) rfl (by omega) trivial (fun _ _ => rfl) (fun y hy => by simp at hy; subst hy; exact GivAt.keep ⟨A1, n1, c1, rfl, hok, hx⟩ (Kept.all a1 _) (fun _ h _ => h))
  simpa using this
 obtain ⟨A', c', w', hrun, hown, hbel, hg, hob⟩ := Ow.app (ty := 29) Tryz.underlying29 hi hz hs hb rfl (by omega) (by omega) h'.1 hlit (GivAt.one) (by omega) h'.2
 refine ⟨A', c', w', hrun, ⟨hown.mapP fun vs x _ hp => hp.keep ⟨hg.size, fun b hR hlt => hg.block b hlt hR.2⟩ (fun b hR hlt => ⟨hR.1, ?_⟩), Nat.le_trans h'.2 hbel.size⟩, (a1.mono hbase).trans hbel⟩
 rcases hob with e | e
 ·rw [e]; exact hR.2
 ·rw [e]
  intro he
  injection he with he
  omega

end Go.Proofs.YtmoglaknmlhpgaaGreatDoor
/- apart: the same attribute in memory of its own. -/
namespace Go.Proofs.YtmoglaknmlhpgaaGreatDoor
set_option linter.unusedVariables false
open Go.RowKit Go.Sort

theorem giv_ret {fn : Func} {p : Tmp} {tmps : Array Value} {w : World} {g : Nat} {k : Int} {s : ByteArray} {A : Option Addr} {n c : Nat} (h : fn.results = #[.cell p 34]) (hp : tmps.getD p undef = .pointer (some ⟨g, 0, none⟩)) (hg : Ob w g 34 #[.int .i64 k, .string s, .slice A n c]) :
  (results fn tmps).run Tryz.prog w = .ok (.agg #[.int .i64 k, .string s, .slice A n c]) w :=
 results_cell_row h tmps w g _ _ (0, 0) _ hp hg Tryz.underlying34 rfl (by kernel_rfl)
set_option maxRecDepth 100000 in
set_option maxHeartbeats 4000000 in
theorem apart_any {w : World} {R : Nat → Prop} {A : Option Addr} {n c : Nat} (g : Giv) (hs : g.name.size ≤ 1000000) (h : Vls w R A n c g.bag) (hsh : Shorts g.bag) (hn : n ≤ 100000) :
  Calls Tryz.prog 23 #[.agg #[.int .i64 g.cat, .string g.name, .slice A n c]] w fun e w' => ∃ A' c', e = .returned (.agg #[.int .i64 g.cat, .string g.name, .slice A' n c']) ∧ Below w.heap.size w w' ∧ Vls w' (fun b => w.heap.size ≤ b) A' n c' g.bag := by
 obtain ⟨gc, gn, gb⟩ := g
 simp only at hs h hsh ⊢
 have HCL := Lib.hid (fun W => clone_any gn W hs)
 have B0 := Lib.hid (((Below.refl w.heap.size w).alloc (Nat.le_refl _) (.cells #[.int .i64 gc, .string gn, .slice A n c] 34)).alloc (by rw [size_al]; omega) (.cells #[.int .i64 0, .string ⟨#[]⟩, .slice none 0 0] 34))
 have OB : Ob ((w.alloc (.cells #[.int .i64 gc, .string gn, .slice A n c] 34)).alloc (.cells #[.int .i64 0, .string ⟨#[]⟩, .slice none 0 0] 34)) w.heap.size 34 #[.int .i64 gc, .string gn, .slice A n c] := (Ob.made w _ _).keep (Below.heap_alloc _ _ _ (by rw [size_al]; omega))
 have OR : Ob ((w.alloc (.cells #[.int .i64 gc, .string gn, .slice A n c] 34)).alloc (.cells #[.int .i64 0, .string ⟨#[]⟩, .slice none 0 0] 34)) (w.heap.size + 1) 34 #[.int .i64 0, .string ⟨#[]⟩, .slice none 0 0] := by
  have := Ob.made (w.alloc (.cells #[.int .i64 gc, .string gn, .slice A n c] 34)) 34 #[.int .i64 0, .string ⟨#[]⟩, .slice none 0 0]
  rwa [size_al] at this
 have HSZ : Hid (((w.alloc (.cells #[.int .i64 gc, .string gn, .slice A n c] 34)).alloc (.cells #[.int .i64 0, .string ⟨#[]⟩, .slice none 0 0] 34)).heap.size = w.heap.size + 2) := by show _ = _; rw [size_al, size_al]
 have CP := Lib.hid (fun W (hW : Below w.heap.size w W) => copied_any (h.keep (Kept.all hW R) (fun _ h _ => h)) hsh hn)
 go_enter Tryz.func23, Tryz.ntmps23
 go_upto_region 1 with fail
 generalize (w.alloc (.cells #[.int .i64 gc, .string gn, .slice A n c] 34)).alloc (.cells #[.int .i64 0, .string ⟨#[]⟩, .slice none 0 0] 34) = W1 at *
 have KO : Hid (∀ W, Below W1.heap.size W1 W → W.cell? ⟨w.heap.size, 0, none⟩ = some (.int .i64 gc) ∧ W.cell? ⟨w.heap.size, 1, none⟩ = some (.string gn) ∧ W.cell? ⟨w.heap.size, 2, none⟩ = some (.slice A n c)) := by
  show ∀ W, _ → _
  intro W hb
  have o := OB.below hb (by have := HSZ.out; omega)
  exact ⟨o.cell 0, o.cell 1, o.cell 2⟩
 have HOR := Lib.hid OR
 clear OB OR h
 refine wp_region_held_tail (fun w' => Below W1.heap.size W1 w') 9 (by kernel_rfl) (by kernel_rfl) ?_
 intro G
 change HeadW _ _ _ _ _ _ _ _ _ _ (W1.drewN 1)
 have S0 := Lib.hid (below_drewN (Below.refl W1.heap.size W1) 1)
 generalize W1.drewN 1 = v0 at *
 refine HeadW_take (i := 0) (v := ?_) G rfl (by kernel_rfl) (by kernel_rfl) (by kernel_rfl) (fun _ _ _ h => h) (Or.inl ⟨by rfl, ?_⟩) S0.out ?_
 rotate_left
 ·intro wz hS
  go_simp
  try with_reducible rfl
 refine HeadW_take (i := 1) (v := ?_) G rfl (by kernel_rfl) (by kernel_rfl) (by kernel_rfl) (fun _ _ _ h => h) (Or.inl ⟨by rfl, ?_⟩) S0.out ?_
 rotate_left
 ·intro wz hS
  have hk1 := (KO.out _ hS).1
  go_simp
  try with_reducible rfl
 refine HeadW_take (i := 2) (v := ?_) G rfl (by kernel_rfl) (by kernel_rfl) (by kernel_rfl) (fun _ _ _ h => h) (Or.inl ⟨by rfl, ?_⟩) S0.out ?_
 rotate_left
 ·intro wz hS
  go_simp
  try with_reducible rfl
 refine HeadW_take (i := 3) (v := ?_) G rfl (by kernel_rfl) (by kernel_rfl) (by kernel_rfl) (fun _ _ _ h => h) (Or.inl ⟨by rfl, ?_⟩) S0.out ?_
 rotate_left
 ·intro wz hS
  have hk1 := (KO.out _ hS).2.1
  go_simp
  try with_reducible rfl
 refine HeadW_take (i := 5) (v := ?_) G rfl (by kernel_rfl) (by kernel_rfl) (by kernel_rfl) (fun _ _ _ h => h) (Or.inl ⟨by rfl, ?_⟩) S0.out ?_
 rotate_left
 ·intro wz hS
  go_simp
  try with_reducible rfl
 refine HeadW_take (i := 6) (v := ?_) G rfl (by kernel_rfl) (by kernel_rfl) (by kernel_rfl) (fun _ _ _ h => h) (Or.inl ⟨by rfl, ?_⟩) S0.out ?_
 rotate_left
 ·intro wz hS
  have hk1 := (KO.out _ hS).2.2
  go_simp
  try with_reducible rfl
 refine HeadW_ready (rs := [4]) (by kernel_rfl) rfl rfl ?_
 refine AllW.cons rfl (fun K hK => ?_) AllW.nil
 go_simp
 refine (HCL.out _).mono ?_
 rintro e v2 ⟨rfl, hb⟩
 have S2 := Lib.hid (S0.out.trans (hb.mono S0.out.size))
 refine hK _ _ S2.out ?_
 clear hK K hb
 refine HeadW_ready (rs := [7]) (by kernel_rfl) rfl rfl ?_
 refine AllW.cons rfl (fun K hK => ?_) AllW.nil
 go_simp
 refine (CP.out _ (B0.out.trans (S2.out.mono B0.out.size))).mono ?_
 rintro e v3 ⟨A3, c3, rfl, hb, hv⟩
 have S3 := Lib.hid (S2.out.trans (hb.mono S2.out.size))
 have V3 := Lib.hid hv
 have Z2 := Lib.hid S2.out.size
 refine hK _ _ S3.out ?_
 clear hK K hb hv
 refine HeadW_ready (rs := [8]) (by kernel_rfl) rfl rfl ?_
 refine AllW.cons rfl (fun K hK => ?_) AllW.nil
 go_simp
 refine hK _ _ S3.out ?_
 clear hK K
 intro _
 refine ⟨by kernel_rfl, ?_⟩
 simp only [List.drop_succ_cons, List.drop_zero]
 have OR3 := HOR.out.below S3.out (by have := HSZ.out; omega)
 have P1 := OR3.put 0 (.int .i64 gc)
 have P2 := P1.put 1 (.string gn)
 have P3 := Lib.hid (P2.put 2 (.slice A3 n c3))
 have f0 := OR3.frozen 0
 have f1 := P1.frozen 1
 have f2 := P2.frozen 2
 have z0 := OR3.cell 0
 have z1 := P1.cell 1
 have z2 := P2.cell 2
 clear OR3 P1 P2
 go_wp2_with fail
 refine bodyPost_ret (giv_ret rfl rfl (by simpa using P3.out)) rfl ?_
 have hsz := HSZ.out
 have hsz3 := S3.out.size
 have hlow : Below w.heap.size w v3 := B0.out.trans (S3.out.mono B0.out.size)
 refine ⟨A3, c3, rfl, ((hlow.setCell (p := ⟨w.heap.size + 1, 0, none⟩) (by show _ ≤ w.heap.size + 1; omega) _).setCell (p := ⟨w.heap.size + 1, 1, none⟩) (by show _ ≤ w.heap.size + 1; omega) _).setCell (p := ⟨w.heap.size + 1, 2, none⟩) (by show _ ≤ w.heap.size + 1; omega) _, ?_⟩
 refine V3.out.keep ⟨by simp [World.setCell], fun b hb _ => ?_⟩ (fun b hb _ => ?_)
 ·have hb' : v2.heap.size ≤ b := hb
  have := Z2.out
  rw [Below.heap_setCell _ _ _ _ (by show b ≠ w.heap.size + 1; omega), Below.heap_setCell _ _ _ _ (by show b ≠ w.heap.size + 1; omega), Below.heap_setCell _ _ _ _ (by show b ≠ w.heap.size + 1; omega)]
 ·have hb' : v2.heap.size ≤ b := hb
  have := Z2.out
  show w.heap.size ≤ b
  omega
end Go.Proofs.YtmoglaknmlhpgaaGreatDoor
/- A store of an attribute into a row of the call's own. -/
namespace Go.Proofs.YtmoglaknmlhpgaaGreatDoor
set_option linter.unusedVariables false
open Go.RowKit

theorem flatten_set3 {a b c : Value} : ∀ {raw : List (List Value)} {j : Nat}, (∀ y ∈ raw, y.length = 3) → j < raw.length → (raw.set j [a, b, c]).flatten = ((raw.flatten.set (j * 3) a).set (j * 3 + 1) b).set (j * 3 + 2) c
 | [], _, _, h => by simp at h
 | y :: raw, 0, hk, _ => by
  have := hk y (by simp)
  match y, this with
  | [y0, y1, y2], _ => rfl
 | y :: raw, j + 1, hk, h => by
  have hy := hk y (by simp)
  have ih := flatten_set3 (a := a) (b := b) (c := c) (raw := raw) (j := j) (fun z hz => hk z (by simp [hz])) (by simpa using h)
  match y, hy with
  | [y0, y1, y2], _ =>
   rw [List.set_cons_succ, List.flatten_cons, ih, List.flatten_cons, show (j + 1) * 3 = j * 3 + 1 + 1 + 1 by omega]
   rfl
theorem Gr.less {w : World} {base base' n c : Nat} {A : Option Addr} {l : List Giv} (h : Gr 3 GivAt w base 34 A n c l) (hb : base' ≤ base) : Gr 3 GivAt w base' 34 A n c l := by
 obtain ⟨⟨raw, ⟨h0, h1⟩, h2, h3, h4, h5⟩, hbs⟩ := h
 refine ⟨⟨raw, ⟨h0, ?_⟩, h2, h3, h4, fun j vs x a b => (h5 j vs x a b).keep (Kept.refl _ _) (fun k hk _ => ⟨Nat.le_trans hb hk.1, hk.2⟩)⟩, Nat.le_trans hb hbs⟩
 rcases h1 with h1 | ⟨g, cap, cur, a, b, r⟩
 ·exact .inl h1
 ·exact .inr ⟨g, cap, cur, a, Nat.le_trans hb b, r⟩
theorem Gr.put_giv {w : World} {base n c : Nat} {A : Option Addr} {l : List Giv} {A1 : Option Addr} {n1 c1 j : Nat} {g : Giv} (h : Gr 3 GivAt w base 34 A n c l) (hj : j < n) (hok : g.ok) (hx : Vls w (Nb base (.slice A n c)) A1 n1 c1 g.bag) :
  ∃ b u0 u1 u2, A = some ⟨b, 0, none⟩ ∧ base ≤ b ∧ b < w.heap.size ∧ (w.cell? ⟨b, j * 3, none⟩ = some u0 ∧ (w.setCell ⟨b, j * 3, none⟩ (.int .i64 g.cat)).cell? ⟨b, j * 3 + 1, none⟩ = some u1 ∧ ((w.setCell ⟨b, j * 3, none⟩ (.int .i64 g.cat)).setCell ⟨b, j * 3 + 1, none⟩ (.string g.name)).cell? ⟨b, j * 3 + 2, none⟩ = some u2) ∧
   (w.frozen? ⟨b, j * 3, none⟩ = false ∧ (w.setCell ⟨b, j * 3, none⟩ (.int .i64 g.cat)).frozen? ⟨b, j * 3 + 1, none⟩ = false ∧ ((w.setCell ⟨b, j * 3, none⟩ (.int .i64 g.cat)).setCell ⟨b, j * 3 + 1, none⟩ (.string g.name)).frozen? ⟨b, j * 3 + 2, none⟩ = false) ∧
   Only b w (((w.setCell ⟨b, j * 3, none⟩ (.int .i64 g.cat)).setCell ⟨b, j * 3 + 1, none⟩ (.string g.name)).setCell ⟨b, j * 3 + 2, none⟩ (.slice A1 n1 c1)) ∧
   Gr 3 GivAt (((w.setCell ⟨b, j * 3, none⟩ (.int .i64 g.cat)).setCell ⟨b, j * 3 + 1, none⟩ (.string g.name)).setCell ⟨b, j * 3 + 2, none⟩ (.slice A1 n1 c1)) base 34 A n c (l.set j g) := by
 obtain ⟨⟨raw, h1, h2, h3, h4, h5⟩, hbs⟩ := h
 rcases h1.2 with ⟨hv, hn⟩ | ⟨b, cap, cur, hv, hb, hg, hnc, hcm, hcs, ht⟩
 ·omega
 ·injection hv with e1 e2 e3
  subst e1 e3
  have hlt : b < w.heap.size := by
   rcases Nat.lt_or_ge b w.heap.size with hlt | hge
   ·exact hlt
   ·rw [Array.getElem?_eq_none hge] at hg; cases hg
  have hr : raw[j]? = some raw[j] := List.getElem?_eq_getElem (by omega)
  have hlen := h4 _ (List.getElem_mem (show j < raw.length by omega))
  have hfl : raw.flatten.length = n * 3 := by rw [flatten_len h4, h2]
  have hob : Ob w b 34 cur := hg
  have hcu : ∀ i : Nat, i < n * 3 → i < cur.size := fun i hi => by
   have := h1.cells (g := b) rfl i _ (List.getElem?_eq_getElem (by rw [hfl]; exact hi))
   have add : (⟨b, 0, none⟩ : Addr).add i = ⟨b, i, none⟩ := by by_cases hi0 : i = 0 <;> simp [Addr.add, hi0]
   rw [add, hob.cell] at this
   exact (Array.getElem?_eq_some_iff.1 this).1
  obtain ⟨s1, t1⟩ := h1.stored (j * 3) (.int .i64 g.cat)
  obtain ⟨s2, t2⟩ := s1.stored (j * 3 + 1) (.string g.name)
  obtain ⟨s3, t3⟩ := s2.stored (j * 3 + 2) (.slice A1 n1 c1)
  have o1 := hob.put (j * 3) (.int .i64 g.cat)
  have o2 := o1.put (j * 3 + 1) (.string g.name)
  have hon : Only b w (((w.setCell ⟨b, j * 3, none⟩ (.int .i64 g.cat)).setCell ⟨b, j * 3 + 1, none⟩ (.string g.name)).setCell ⟨b, j * 3 + 2, none⟩ (.slice A1 n1 c1)) := ((Only.refl.setCell (p := ⟨b, j * 3, none⟩) rfl _).setCell (p := ⟨b, j * 3 + 1, none⟩) rfl _).setCell (p := ⟨b, j * 3 + 2, none⟩) rfl _
  have K : Kept (Nb base (.slice (some ⟨b, 0, none⟩) n c)) w (((w.setCell ⟨b, j * 3, none⟩ (.int .i64 g.cat)).setCell ⟨b, j * 3 + 1, none⟩ (.string g.name)).setCell ⟨b, j * 3 + 2, none⟩ (.slice A1 n1 c1)) :=
   ⟨hon.le, fun k hk hl => hon.heap hl (fun e => hk.2 (by rw [e]; rfl))⟩
  have c0 := hcu (j * 3) (by omega)
  have c1' := hcu (j * 3 + 1) (by omega)
  have c2' := hcu (j * 3 + 2) (by omega)
  refine ⟨b, cur[j * 3], _, _, rfl, hb, hlt, ⟨by rw [hob.cell]; exact Array.getElem?_eq_getElem c0, (o1.cell _).trans (Array.getElem?_eq_getElem (by simpa using c1')), (o2.cell _).trans (Array.getElem?_eq_getElem (by simpa using c2'))⟩, ⟨hob.frozen _, o1.frozen _, o2.frozen _⟩, hon, ⟨raw.set j [.int .i64 g.cat, .string g.name, .slice A1 n1 c1], ?_, by rw [List.length_set]; exact h2, by rw [List.length_set]; exact h3, fun z hz => ?_, fun i vs x a b' => ?_⟩, Nat.le_trans hbs hon.le⟩
  ·rw [flatten_set3 h4 (by omega)]; exact s3
  ·rcases List.mem_or_eq_of_mem_set hz with hz | hz
   ·exact h4 z hz
   ·rw [hz]; rfl
  ·by_cases hij : j = i
   ·subst hij
    rw [List.getElem?_set_self (by omega)] at a b'
    obtain rfl := Option.some.inj a
    obtain rfl := Option.some.inj b'
    exact ⟨A1, n1, c1, rfl, hok, hx.keep K (fun _ h _ => h)⟩
   ·rw [List.getElem?_set_ne hij] at a b'
    exact (h5 i vs x a b').keep K (fun _ h _ => h)
end Go.Proofs.YtmoglaknmlhpgaaGreatDoor
/- With: a request with one more attribute, or another one in its place. -/
namespace Go.Proofs.YtmoglaknmlhpgaaGreatDoor
set_option linter.unusedVariables false
open Go.RowKit

def ShortN (l : List Giv) : Prop := ∀ g ∈ l, g.name.size ≤ 1000000
set_option maxRecDepth 100000 in
set_option maxHeartbeats 4000000 in
theorem awith_any {w : World} {R R1 : Nat → Prop} {A A1 : Option Addr} {n c n1 c1 : Nat} {l : List Giv} (g : Giv) (h : Gvs w R A n c l) (hs : ShortG l) (hm : ShortN l) (hn : n ≤ 100000) (hok : g.ok) (hg : Vls w R1 A1 n1 c1 g.bag) (hgs : Shorts g.bag) (hgn : n1 ≤ 100000) (hgm : g.name.size ≤ 1000000) :
    Calls Tryz.prog 11 #[.slice A n c, .agg #[.int .i64 g.cat, .string g.name, .slice A1 n1 c1]] w fun e w' => ∃ A' n' c', e = .returned (.slice A' n' c') ∧ Below w.heap.size w w' ∧ n' ≤ n + 1 ∧ Gr 3 GivAt w' w.heap.size 34 A' n' c' (withA l g) := by
  obtain ⟨gc, gn, gb⟩ := g
  have hle := Rw.le h
  have hcap := Rw.cap h
  have HL := Lib.hid (Rw.len h)
  unfold maxLen at hcap
  have HAL := Lib.hid ((Below.refl w.heap.size w).alloc (Nat.le_refl _) (.cells #[.int .i64 gc, .string gn, .slice A1 n1 c1] 34))
  have HOB := Lib.hid (Ob.made w 34 #[.int .i64 gc, .string gn, .slice A1 n1 c1])
  have HK := Lib.hid (fun W (hW : Below w.heap.size w W) => h.keep (Kept.all hW R) (fun _ h _ => h))
  have HP := Lib.hid (fun W (hW : Below w.heap.size w W) => place_any gc gn (h.keep (Kept.all hW R) (fun _ h _ => h)))
  have HA := Lib.hid (fun W (hW : Below w.heap.size w W) => apart_any (w := W) ⟨gc, gn, gb⟩ hgm (hg.keep (Kept.all hW R1) (fun _ h _ => h)) hgs hgn)
  have HOKG : Hid (Giv.ok ⟨gc, gn, gb⟩) := hok
  have HS := Lib.hid hs
  have HM := Lib.hid hm
  clear h hs hm hok hg hgs hgn hgm
  simp only at HA
  go_enter Tryz.func11, Tryz.ntmps11
  go_wp2
  go_loopw [5, 11] (fun out i wr => ∃ (k : Nat) (A' : Option Addr) (c' : Nat), k ≤ n ∧ i = .int .i64 k ∧ out = .slice A' k c' ∧ Gr 3 GivAt wr (w.heap.size + 1) 34 A' k c' (l.take k) ∧ Below (w.heap.size + 1) (w.alloc (.cells #[.int .i64 gc, .string gn, .slice A1 n1 c1] 34)) wr) (fun out i _ => n - (intOf i).toNat)
  case atStart => exact ⟨0, none, 0, Nat.zero_le _, rfl, rfl, Gr.nil _ _ (by rw [size_al]; omega), Below.refl _ _⟩
  case round =>
    obtain ⟨k, A', c', hk, rfl, rfl, ho, hb⟩ := hrel
    have HO := Lib.hid ho
    have HB := Lib.hid hb
    have HW := Lib.hid (HAL.out.trans (hb.mono (Nat.le_succ _)))
    have OBr := Lib.hid (HOB.out.below hb (Nat.lt_succ_self _))
    clear ho hb
    by_cases hlt : k < n
    · obtain ⟨b, o, x, Ax, nx, cx, rfl, hRb, hbl, hx, hok, ⟨x0, x1, x2⟩, hin⟩ := (HK.out wr HW.out).at_ hlt
      have HX := Lib.hid hx
      have HOK := Lib.hid hok
      obtain ⟨hsx, hbx⟩ := HS.out x (List.mem_of_getElem? hx)
      have hmx := HM.out x (List.mem_of_getElem? hx)
      have hlim : nx ≤ 100000 := by have := Rw.len hin; omega
      obtain ⟨xc, xn, xb⟩ := x
      simp only at x0 x1 x2 hin hmx hsx
      have D0 := Lib.hid ((Below.refl wr.heap.size wr).alloc (Nat.le_refl _) (.cells #[.int .i64 xc, .string xn, .slice Ax nx cx] 34))
      have AP := apart_any (w := wr.alloc (.cells #[.int .i64 xc, .string xn, .slice Ax nx cx] 34)) ⟨xc, xn, xb⟩ hmx (hin.keep (Kept.all D0.out R) (fun _ h _ => h)) hsx hlim
      simp only at AP
      have AP := Lib.hid AP
      clear hx hok hin hmx hsx hbx
      go_wp2_with (first
        | (go_at_call 23; refine AP.out.mono ?_; rintro e w1 ⟨A5, c5, rfl, hb1, hv1⟩
           have d1 := below_step D0.out hb1
           obtain ⟨A2, c2, w2, r2, o2, b2⟩ := push_giv (g := ⟨xc, xn, xb⟩) (Gr.below keeps_giv HO.out d1) HOK.out (hv1.keep (Kept.refl _ _) (fun b hb _ => HO.out.apart b (Nat.le_trans D0.out.size hb))) (by omega)
           simp only at r2
           have R2 := Lib.hid r2
           have O2 := Lib.hid o2
           have B2 := Lib.hid (HB.out.trans ((d1.mono (Nat.le_trans (by rw [size_al]; exact Nat.le_refl _) HB.out.size)).trans b2))
           clear hb1 hv1 d1 r2 o2 b2)
        | (at_builtin; refine wpList_append_run (o := ⟨some 19, _, _, _, _, _⟩) rfl _ _ _ _ rfl rfl rfl R2.out ?_))
      go_roundw
      case rel => exact ⟨k + 1, A2, c2, by omega, by go_num, rfl, by rw [take_one HX.out]; exact O2.out, B2.out⟩
      case measure => simp [intOf]; omega
    · obtain rfl : k = n := by omega
      have hg := HO.out
      rw [List.take_of_length_le (by have := HL.out; omega)] at hg
      have HGR := Lib.hid hg
      have b0 := OBr.out.cell 0
      have b1 := OBr.out.cell 1
      have b2 := OBr.out.cell 2
      clear hg
      by_cases hi : idxA l gc gn < l.length
      · have hp : placeI l gc gn = (idxA l gc gn : Int) := place_pos hi
        rw [hp] at HP
        have hin : idxA l gc gn < k := by have := HL.out; omega
        have HE : Hid (withA l ⟨gc, gn, gb⟩ = l.set (idxA l gc gn) ⟨gc, gn, gb⟩) := withA_pos hi
        obtain ⟨j, hj⟩ : ∃ j, j = idxA l gc gn := ⟨_, rfl⟩
        rw [← hj] at HP hin HE
        clear hj
        clear hp hi
        obtain ⟨bo, hbo⟩ : ∃ bo, A' = some ⟨bo, 0, none⟩ := by
          obtain ⟨bo, _, _, _, e, _⟩ := HGR.out.put_giv hin HOKG.out (A1 := none) (n1 := 0) (c1 := 0) (g := ⟨gc, gn, []⟩) (Rw.nil_ _ _ _ _)
          exact ⟨bo, e⟩
        subst hbo
        have hkc' : k ≤ c' := by
          have := Rw.le (Gr.rw keeps_giv HGR.out (by omega)); exact this
        go_wp2_with (first
          | (go_at_call 24; (with_reducible refine (HP.out _ HW.out).mono ?_); rintro e w1 ⟨rfl, hb1⟩
             have W1 := Lib.hid (HW.out.trans (hb1.mono HW.out.size))
             have OB1 := Lib.hid (OBr.out.below hb1 (Ob.lt OBr.out))
             have p0 := OB1.out.cell 0
             have p1 := OB1.out.cell 1
             have p2 := OB1.out.cell 2
             have G1 := Lib.hid (Gr.below keeps_giv HGR.out hb1)
             clear hb1)
          | (go_at_call 23; (with_reducible refine (HA.out _ W1.out).mono ?_); rintro e w2 ⟨A5, c5, rfl, hb2, hv2⟩
             have W2 := Lib.hid (W1.out.trans (hb2.mono W1.out.size))
             obtain ⟨b', u0, u1, u2, ha, hbb, hblt, ⟨t0, t1, t2⟩, ⟨f0, f1, f2⟩, hon, hset⟩ := (Gr.below keeps_giv G1.out hb2).put_giv hin HOKG.out (A1 := A5) (n1 := n1) (c1 := c5) (hv2.keep (Kept.refl _ _) (fun b hb _ => G1.out.apart b hb))
             injection ha with ha
             injection ha with ha
             subst ha
             simp only at t1 t2 f1 f2 hon hset
             have HON := Lib.hid hon
             have HSET := Lib.hid hset
             have HBB := Lib.hid hbb
             clear hb2 hv2 hon hset hbb))
        go_ret
        exact ⟨some ⟨bo, 0, none⟩, k, c', rfl, W2.out.trans (HON.out.below W2.out.size (by have := HBB.out; omega)), Nat.le_succ _, by rw [HE.out]; exact HSET.out.less (Nat.le_succ _)⟩
      · have hp : placeI l gc gn = -1 := place_neg hi
        rw [hp] at HP
        have HE : Hid (withA l ⟨gc, gn, gb⟩ = l ++ [⟨gc, gn, gb⟩]) := if_neg hi
        clear hp hi
        go_wp2_with (first
          | (go_at_call 24; (with_reducible refine (HP.out _ HW.out).mono ?_); rintro e w1 ⟨rfl, hb1⟩
             have W1 := Lib.hid (HW.out.trans (hb1.mono HW.out.size))
             have OB1 := Lib.hid (OBr.out.below hb1 (Ob.lt OBr.out))
             have p0 := OB1.out.cell 0
             have p1 := OB1.out.cell 1
             have p2 := OB1.out.cell 2
             have G1 := Lib.hid (Gr.below keeps_giv HGR.out hb1)
             clear hb1)
          | (go_at_call 23; (with_reducible refine (HA.out _ W1.out).mono ?_); rintro e w2 ⟨A5, c5, rfl, hb2, hv2⟩
             have W2 := Lib.hid (W1.out.trans (hb2.mono W1.out.size))
             obtain ⟨A6, c6, w6, r6, o6, b6⟩ := push_giv (g := ⟨gc, gn, gb⟩) (Gr.below keeps_giv G1.out hb2) HOKG.out (hv2.keep (Kept.refl _ _) (fun b hb _ => G1.out.apart b hb)) (by omega)
             simp only at r6
             have R6 := Lib.hid r6
             have O6 := Lib.hid o6
             have B6 := Lib.hid (W2.out.trans (b6.mono (Nat.le_succ _)))
             clear hb2 hv2 r6 o6 b6)
          | (at_builtin; refine wpList_append_run (o := ⟨some 33, _, _, _, _, _⟩) rfl _ _ _ _ rfl rfl rfl R6.out ?_))
        go_ret
        exact ⟨A6, k + 1, c6, rfl, B6.out, Nat.le_refl _, by rw [HE.out]; exact O6.out.less (Nat.le_succ _)⟩
end Go.Proofs.YtmoglaknmlhpgaaGreatDoor
/- Requests that may be gone through in a while: none of their parts is long. -/
namespace Go.Proofs.YtmoglaknmlhpgaaGreatDoor
set_option linter.unusedVariables false
open Go.RowKit

theorem few_short {l : List Giv} (h : fewC l ≤ 1200) : ShortG l := fun g hg => by
 obtain ⟨h1, h2, h3⟩ := few_each h hg
 exact ⟨fun v hv => by have := h3 v hv; omega, by omega⟩
theorem few_names {l : List Giv} (h : fewC l ≤ 1200) : ShortN l := fun g hg => by
 obtain ⟨h1, h2, h3⟩ := few_each h hg
 omega
theorem one_giv {w : World} {R : Nat → Prop} {A : Option Addr} {n c : Nat} (g : Giv) (hok : g.ok) (h : Vls w R A n c g.bag) : Gvs (w.alloc (.cells #[.int .i64 g.cat, .string g.name, .slice A n c] 34)) (fun _ => True) (some ⟨w.heap.size, 0, none⟩) 1 1 [g] := by
 have a1 : Below w.heap.size w (w.alloc (.cells #[.int .i64 g.cat, .string g.name, .slice A n c] 34)) := (Below.refl _ _).alloc (Nat.le_refl _) _
 have := Rw.lit (P := GivAt (w.alloc (.cells #[.int .i64 g.cat, .string g.name, .slice A n c] 34)) (fun _ => True)) (R := fun _ => True) w 34 (fun _ => [.int .i64 g.cat, .string g.name, .slice A n c]) [g] (n := 1) rfl (by omega) trivial (fun _ _ => rfl) (fun y hy => by simp at hy; subst hy; exact GivAt.keep ⟨A, n, c, rfl, hok, h⟩ (Kept.all a1 _) (fun _ _ _ => trivial))
 exact this
theorem Gr.gvs {w : World} {base n c : Nat} {A : Option Addr} {l : List Giv} (h : Gr 3 GivAt w base 34 A n c l) (hn : n ≤ 1000000) : Gvs w (fun b => base ≤ b) A n c l := Gr.rw keeps_giv h (by omega)
theorem with_short {l : List Giv} {g : Giv} (h : ShortG l) (hg : Shorts g.bag ∧ g.bag.length ≤ 100000) : ShortG (withA l g) := fun x hx => by
 rcases with_mem hx with rfl | hx
 ·exact hg
 ·exact h x hx
theorem with_getE {l : List Giv} {g : Giv} {a : Atr} (h : ¬ (a.cat = g.cat ∧ a.name = g.name)) : getE (withA l g) a = getE l a := by
 unfold getE getB
 rw [with_other h]
theorem with_getR {l : List Giv} {g : Giv} {a : Atr} (h : ¬ (a.cat = g.cat ∧ a.name = g.name)) : getR (withA l g) a = getR l a := by
 unfold getR
 rw [with_getE h]
 unfold getB
 rw [with_other h]
end Go.Proofs.YtmoglaknmlhpgaaGreatDoor
