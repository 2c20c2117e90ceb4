/- Quoted texts: the project's and the reference's. -/
import Derived.Test.YtpedfkigneahgaaDoorVNameV
import Derived.Test.YtpedfkigneahgaaDoorVBox
import Derived.Test.YtpedfkigneahgaaDoorConvText
import Derived.Test.YtpedfkigneahgaaDoorMake
import Derived.Deep.RegionLaw
import Derived.Laws.OwnMore
namespace Go.Proofs.YtpedfkigneahgaaDoor
set_option linter.unusedVariables false
open Go.RowKit

theorem odd_of {c : UInt8} (h : c.toNat < 32 ∨ 126 < c.toNat ∨ c.toNat = 34 ∨ c.toNat = 92) : odd8 c = true := by simpa [odd8, or_assoc] using h
theorem odd_not {c : UInt8} (h : ¬ (c.toNat < 32 ∨ 126 < c.toNat ∨ c.toNat = 34 ∨ c.toNat = 92)) : odd8 c = false := by
  rw [← Bool.not_eq_true]
  intro h'
  exact h (by simpa [odd8, or_assoc] using h')
theorem byte_ways (c : UInt8) : ((c.toNat : Int) < 32) ∨ ((32 ≤ (c.toNat : Int) ∧ 126 < (c.toNat : Int))) ∨ ((c.toNat : Int) = 34) ∨ ((c.toNat : Int) = 92) ∨ ((32 ≤ (c.toNat : Int) ∧ (c.toNat : Int) ≤ 126) ∧ ((c.toNat : Int) == 34) = false ∧ ((c.toNat : Int) == 92) = false) := by
  simp only [beq_eq_false_iff_ne]; omega
theorem byte_odd {c : UInt8} (h : ((c.toNat : Int) < 32) ∨ ((32 ≤ (c.toNat : Int) ∧ 126 < (c.toNat : Int))) ∨ ((c.toNat : Int) = 34) ∨ ((c.toNat : Int) = 92)) : odd8 c = true := odd_of (by omega)

set_option maxRecDepth 100000 in
theorem and15 : ∀ x : Nat, x < 256 → x &&& 15 = x % 16 := by decide +kernel
theorem u8_and15 {x : Int} (h1 : 0 ≤ x) (h2 : x < 256) : bits .and .u8 x 15 = x % 16 := by
  rw [u8_and x 15 h1 h2 (by omega) (by omega)]
  have e : (15 : Int).toNat = 15 := rfl
  rw [e, and15 _ (by omega)]; omega

/-- The digits to the base 16. -/
def digs : ByteArray := ⟨#[48, 49, 50, 51, 52, 53, 54, 55, 56, 57, 97, 98, 99, 100, 101, 102]⟩
theorem digs_at : ∀ x : Fin 16, digs[x.val]? = some (hexd x.val) := by decide
theorem digs_get {i : Int} {x : Nat} (hi : i.toNat = x) (hx : x < 16) (h : i.toNat < digs.size) : digs[i.toNat]'h = hexd x := by
  subst hi
  have := digs_at ⟨i.toNat, hx⟩
  dsimp only at this
  rw [getElem?_pos digs i.toNat h] at this
  exact Option.some.inj this

def QRel (w : World) (l : List UInt8) (o i : Value) (wr : World) : Prop :=
  ∃ (k n c : Nat) (A : Option Addr), k ≤ l.length ∧ i = .int .i64 (k : Int) ∧ o = .slice A n c ∧ wr.ownsRow w.heap.size 5 1 (.slice A n c) n (bv ([34] ++ quoteL (l.take k))) ∧ Below w.heap.size w wr

theorem own_lit (w : World) (x : UInt8) : (w.alloc (.cells #[.int .u8 (x.toNat : Int)] 5)).ownsRow w.heap.size 5 1 (.slice (some ⟨w.heap.size, 0, none⟩) 1 1) 1 (bv [x]) :=
  ⟨rfl, .inr ⟨w.heap.size, 1, #[.int .u8 (x.toNat : Int)], rfl, Nat.le_refl _, heap_alloc_new w _, Nat.le_refl _, by simp [maxLen], rfl, rfl⟩⟩

theorem quoteL_step {l : List UInt8} {k : Nat} {b : UInt8} (h : l[k]? = some b) : quoteL (l.take (k + 1)) = quoteL (l.take k) ++ quoteC b := by
  obtain ⟨hk, e⟩ := List.getElem?_eq_some_iff.1 h
  rw [List.take_succ_eq_append_getElem hk, quoteL_app, e]
  simp [quoteL]

/-- A literal's bytes, appended. -/
theorem append_bytes {w : World} {base n c m : Nat} {A : Option Addr} {l : List UInt8} (h : w.ownsRow base 5 1 (.slice A n c) n (bv l)) (cs : List UInt8) (hm : cs.length = m) (hn : n + m ≤ 140737488355328) (hb : base ≤ w.heap.size) :
    ∃ A' c' w', (Builtin.append_ #[52, 52] 52 #[.slice A n c, .slice (some ⟨w.heap.size, 0, none⟩) m m]).run Tryd.prog (w.alloc (.cells (bv cs).toArray 5)) = .ok (.slice A' (n + m) c') w' ∧
      w'.ownsRow base 5 1 (.slice A' (n + m) c') (n + m) (bv (l ++ cs)) ∧ Below base w w' := by
  obtain ⟨i, hi, hz0, hz1, hz2⟩ := info_parts u8info
  obtain ⟨A', c', w', h1, h2, h3⟩ := append_row (P := Tryd.prog) (ty := 52) Tryd.underlying52 hi hz0 hz1 hz2 (h.alloc _) (Sl.lit w 5 (bv cs) m (by rw [bv_len, hm]) (by unfold maxLen; omega)) one_bv hn (by rw [size_al]; omega)
  exact ⟨A', c', w', h1, by rw [bv_app]; exact h2, ((Below.refl base w).alloc hb _).trans h3⟩

set_option maxHeartbeats 1600000 in
theorem quoted_any (s : ByteArray) (hs : s.size ≤ 1000000) (w : World) :
    Calls Tryd.prog 24 #[.string s] w fun e w' => e = .returned (.string ⟨(quoteB s.data.toList).toArray⟩) ∧ Below w.heap.size w w' := by
  have hl := data_len s
  generalize hL : s.data.toList = l at *
  have HD : Hid (∀ k (h : k < s.size), l[k]? = some s[k]) := by
    show ∀ k (h : k < s.size), l[k]? = some s[k]
    subst hL; exact fun k h => data_at h
  have HL := Lib.hid hl
  have hstart : QRel w l (.slice (some ⟨w.heap.size, 0, none⟩) 1 1) (.int .i64 0) (w.alloc (.cells #[.int .u8 34] 5)) :=
    ⟨0, 1, 1, _, by omega, rfl, rfl, by simpa [quoteL] using own_lit w 34, (Below.refl _ _).alloc (Nat.le_refl _) _⟩
  have HS := Lib.hid hstart
  clear hl hL hstart
  go_enter Tryd.func24, Tryd.ntmps24
  go_wp2_with fail
  go_loopw [3, 9] (fun o i wr => QRel w l o i wr) (fun _ i _ => s.size - (intOf i).toNat)
  case atStart => exact HS.out
  case round =>
    obtain ⟨k, n, c, A, hk, rfl, rfl, hown, hbel⟩ := hrel
    have hn : n ≤ 3000001 := by
      have := hown.1
      have h2 := quoteL_len (l.take k)
      have h3 := HL.out
      simp [bv_len] at this h2
      omega
    have hkl : k ≤ s.size := by have := HL.out; omega
    have HB := Lib.hid hbel
    by_cases hlt : k < s.size
    · have hc := HD.out k hlt
      have hi2 : 0 ≤ (k : Int) ∧ (k : Int) < s.size := by omega
      generalize hcc : s[k] = b at *
      have HC := Lib.hid hc
      clear hc
      rcases byte_ways b with a | a | a | a | a
      case inr.inr.inr.inr =>
        obtain ⟨A2, c2, w2, hap, hown2, hbel2⟩ := append_bytes hown [b] (m := 1) rfl (by omega) hbel.size
        have HO2 := Lib.hid hown2
        have HB2 := Lib.hid (hbel.trans hbel2)
        have HODD : Hid (odd8 b = false) := odd_not (by obtain ⟨a1, a2, a3⟩ := a; simp only [beq_eq_false_iff_ne] at a2 a3; omega)
        have HAP := Lib.hid hap
        clear hown hbel hown2 hbel2 hk hap
        go_wp2_with (at_builtin; refine wpList_append_run rfl _ _ _ _ rfl rfl rfl HAP.out ?_)
        go_roundw
        case rel =>
          refine ⟨k + 1, n + 1, c2, A2, by have := HL.out; omega, by go_num, rfl, ?_, HB2.out⟩
          have e : quoteL (l.take (k + 1)) = quoteL (l.take k) ++ [b] := by rw [quoteL_step HC.out]; unfold quoteC; rw [HODD.out]; rfl
          rw [e, ← List.append_assoc]
          exact HO2.out
        case measure => simp [intOf]; omega
      case inr.inr.inl =>
        obtain rfl : b = 34 := UInt8.toNat_inj.1 (by have : (34 : UInt8).toNat = 34 := rfl; omega)
        have HODD : Hid (odd8 34 = true) := rfl
        have hb1 : bits .and .u8 34 15 = 2 := by decide
        have hd1 : ∀ h, (⟨#[48, 49, 50, 51, 52, 53, 54, 55, 56, 57, 97, 98, 99, 100, 101, 102]⟩ : ByteArray)[2]'h = 50 := fun h => rfl
        have hd2 : ∀ h, (⟨#[48, 49, 50, 51, 52, 53, 54, 55, 56, 57, 97, 98, 99, 100, 101, 102]⟩ : ByteArray)[2]'h = 50 := fun h => rfl
        clear a
        obtain ⟨A2, c2, w2, hap, hown2, hbel2⟩ := append_bytes (w := wr.drew) (base := w.heap.size) (A := A) (n := n) (c := c) (l := [34] ++ quoteL (l.take k)) hown [92, 50, 50] (m := 3) rfl (by omega) hbel.size
        have HO2 := Lib.hid hown2
        have HB2 := Lib.hid ((below_drewN hbel 1).trans hbel2)
        have hap' : (Builtin.append_ #[52, 52] 52 #[.slice A n c, .slice (some ⟨wr.heap.size, 0, none⟩) 3 3]).run Tryd.prog ((wr.alloc (.cells #[.int .u8 92, .int .u8 50, .int .u8 50] 5)).drew) = .ok (.slice A2 (n + 3) c2) w2 := hap
        have HAP := Lib.hid hap'
        clear hown hbel hown2 hbel2 hk hap hap'
        go_wp2_with fail
        go_region_law (refine step_append_run rfl (.tmp 29) (.tmp 36) _ _ rfl (by simp [Act.eval]) (by simp [Act.eval]) HAP.out ?_)
        all_goals
         go_wp2_with fail
         go_roundw
         case rel =>
          refine ⟨k + 1, n + 3, c2, A2, by have := HL.out; omega, by go_num, rfl, ?_, HB2.out⟩
          have e : quoteL (l.take (k + 1)) = quoteL (l.take k) ++ [92, 50, 50] := by rw [quoteL_step HC.out]; unfold quoteC; rw [HODD.out]; rfl
          rw [e, ← List.append_assoc]
          exact HO2.out
         case measure => simp [intOf]; omega
      case inr.inr.inr.inl =>
        obtain rfl : b = 92 := UInt8.toNat_inj.1 (by have : (92 : UInt8).toNat = 92 := rfl; omega)
        have HODD : Hid (odd8 92 = true) := rfl
        have hb1 : bits .and .u8 92 15 = 12 := by decide
        have hd1 : ∀ h, (⟨#[48, 49, 50, 51, 52, 53, 54, 55, 56, 57, 97, 98, 99, 100, 101, 102]⟩ : ByteArray)[5]'h = 53 := fun h => rfl
        have hd2 : ∀ h, (⟨#[48, 49, 50, 51, 52, 53, 54, 55, 56, 57, 97, 98, 99, 100, 101, 102]⟩ : ByteArray)[12]'h = 99 := fun h => rfl
        clear a
        obtain ⟨A2, c2, w2, hap, hown2, hbel2⟩ := append_bytes (w := wr.drew) (base := w.heap.size) (A := A) (n := n) (c := c) (l := [34] ++ quoteL (l.take k)) hown [92, 53, 99] (m := 3) rfl (by omega) hbel.size
        have HO2 := Lib.hid hown2
        have HB2 := Lib.hid ((below_drewN hbel 1).trans hbel2)
        have hap' : (Builtin.append_ #[52, 52] 52 #[.slice A n c, .slice (some ⟨wr.heap.size, 0, none⟩) 3 3]).run Tryd.prog ((wr.alloc (.cells #[.int .u8 92, .int .u8 53, .int .u8 99] 5)).drew) = .ok (.slice A2 (n + 3) c2) w2 := hap
        have HAP := Lib.hid hap'
        clear hown hbel hown2 hbel2 hk hap hap'
        go_wp2_with fail
        go_region_law (refine step_append_run rfl (.tmp 29) (.tmp 36) _ _ rfl (by simp [Act.eval]) (by simp [Act.eval]) HAP.out ?_)
        all_goals
         go_wp2_with fail
         go_roundw
         case rel =>
          refine ⟨k + 1, n + 3, c2, A2, by have := HL.out; omega, by go_num, rfl, ?_, HB2.out⟩
          have e : quoteL (l.take (k + 1)) = quoteL (l.take k) ++ [92, 53, 99] := by rw [quoteL_step HC.out]; unfold quoteC; rw [HODD.out]; rfl
          rw [e, ← List.append_assoc]
          exact HO2.out
         case measure => simp [intOf]; omega
      all_goals
        have HODD : Hid (odd8 b = true) := odd_of (by omega)
        have hb8 : b.toNat < 256 := b.toNat_lt
        have hx1 : 0 ≤ (b.toNat : Int) / 16 ∧ (b.toNat : Int) / 16 < 16 := by omega
        have hx2 : 0 ≤ (b.toNat : Int) % 16 ∧ (b.toNat : Int) % 16 < 16 := by omega
        have hb1 : bits .and .u8 (b.toNat : Int) 15 = (b.toNat : Int) % 16 := u8_and15 (by omega) (by omega)
        have hd1 : ∀ h, (⟨#[48, 49, 50, 51, 52, 53, 54, 55, 56, 57, 97, 98, 99, 100, 101, 102]⟩ : ByteArray)[((b.toNat : Int) / 16).toNat]'h = hexd (b.toNat / 16) := fun h => digs_get (by omega) (by omega) h
        have hd2 : ∀ h, (⟨#[48, 49, 50, 51, 52, 53, 54, 55, 56, 57, 97, 98, 99, 100, 101, 102]⟩ : ByteArray)[((b.toNat : Int) % 16).toNat]'h = hexd (b.toNat % 16) := fun h => digs_get (by omega) (by omega) h
        obtain ⟨A2, c2, w2, hap, hown2, hbel2⟩ := append_bytes (w := wr.drew) (base := w.heap.size) (A := A) (n := n) (c := c) (l := [34] ++ quoteL (l.take k)) hown [92, hexd (b.toNat / 16), hexd (b.toNat % 16)] (m := 3) rfl (by omega) hbel.size
        have HO2 := Lib.hid hown2
        have HB2 := Lib.hid ((below_drewN hbel 1).trans hbel2)
        have hap' : (Builtin.append_ #[52, 52] 52 #[.slice A n c, .slice (some ⟨wr.heap.size, 0, none⟩) 3 3]).run Tryd.prog ((wr.alloc (.cells #[.int .u8 92, .int .u8 ((hexd (b.toNat / 16)).toNat : Int), .int .u8 ((hexd (b.toNat % 16)).toNat : Int)] 5)).drew) = .ok (.slice A2 (n + 3) c2) w2 := hap
        have HAP := Lib.hid hap'
        clear hown hbel hown2 hbel2 hk hap hap'
        go_wp2_with fail
        go_region_law (refine step_append_run rfl (.tmp 29) (.tmp 36) _ _ rfl (by simp [Act.eval]) (by simp [Act.eval]) HAP.out ?_)
        all_goals
         go_wp2_with fail
         go_roundw
         case rel =>
          refine ⟨k + 1, n + 3, c2, A2, by have := HL.out; omega, by go_num, rfl, ?_, HB2.out⟩
          have e : quoteL (l.take (k + 1)) = quoteL (l.take k) ++ [92, hexd (b.toNat / 16), hexd (b.toNat % 16)] := by rw [quoteL_step HC.out]; unfold quoteC; rw [HODD.out]; rfl
          rw [e, ← List.append_assoc]
          exact HO2.out
         case measure => simp [intOf]; omega
    · obtain rfl : k = s.size := by omega
      obtain ⟨A2, c2, w2, hap, hown2, hbel2⟩ := append_bytes hown [34] (m := 1) rfl (by omega) hbel.size
      have e : [34] ++ quoteL (l.take s.size) ++ [34] = quoteB l := by rw [← HL.out, List.take_length]; rfl
      rw [e] at hown2
      have hcv := conv_text Tryd.underlying52 Tryd.underlying5 Tryd.underlying9 (Sl.of_own hown2)
      have HB2 := Lib.hid (hbel.trans hbel2)
      have HAP := Lib.hid hap
      clear hown hbel hown2 hbel2 hk hap e
      go_wp2_with (at_builtin; refine wpList_append_run rfl _ _ _ _ rfl rfl rfl HAP.out ?_)
      go_ret
      exact ⟨rfl, HB2.out⟩
end Go.Proofs.YtpedfkigneahgaaDoor
