/- Several texts in one: ConvText, Make, VQuoteV, VDigitsM, VShowV, ShowAttr, RSWords, ShowLeaf, RSObls, HMono, VInT, VName, VRight, Num, TextP, Text, Pieces, Reader, ReadSpec, RNum, RText, VQuote, VRefQuote, VDigits, VShow, ShowRow, ShowTexts, RSTgt, ShowStack, ShowNode, RSExpr. -/
import Derived.Test.YtjpkemamfccfdaaGreatDoorMade
import Derived.Laws.BytesArg
import Derived.Test.YtjpkemamfccfdaaGreatDoorVNameV
import Derived.Test.YtjpkemamfccfdaaGreatDoorVBox
import Derived.Deep.RegionLaw
import Derived.Laws.OwnMore
import Derived.Test.YtjpkemamfccfdaaGreatDoorVMath
import Derived.Lib.ItoaLen
import Derived.Test.YtjpkemamfccfdaaGreatDoorVRightV
import Derived.Test.YtjpkemamfccfdaaGreatDoorTelA
import Derived.Test.YtjpkemamfccfdaaGreatDoorPolLeaf
import Derived.Lib.QuietBelow
import Derived.Deep.CutRange
import Derived.Laws.StructEq
import Derived.Laws.Tables
import Derived.Laws.Cover2
import Derived.Test.YtjpkemamfccfdaaGreatDoorHTail
import Derived.Test.YtjpkemamfccfdaaGreatDoorVRefName
import Derived.Test.YtjpkemamfccfdaaGreatDoorVRefRight
import Derived.Test.YtjpkemamfccfdaaGreatDoorMath
import Derived.StillTactics
import Derived.Test.YtjpkemamfccfdaaGreatDoorCellRows
import Derived.Test.YtjpkemamfccfdaaGreatDoorPolOw
import Derived.Test.YtjpkemamfccfdaaGreatDoorShelf
import Derived.Test.YtjpkemamfccfdaaGreatDoorPolExpr
/- A slice of bytes as a text: string(b). -/
namespace Go.Proofs.YtjpkemamfccfdaaGreatDoor
set_option linter.unusedVariables false
open Go.RowKit

theorem conv_text {P : Program} {w : World} {src dst e : TypeId} {B n c : Nat} {A : Option Addr} {l : List UInt8} (hs : P.underlying src = some (.slice e)) (he : P.underlying e = some (.int .u8)) (hd : P.underlying dst = some .string)
    (h : Sl w B A n c (bv l)) : (convert src dst (.slice A n c)).run P w = .ok (.string ⟨l.toArray⟩) w := by
  have hlen := h.len
  rw [bv_len] at hlen
  have fin : ∀ ad : Addr, A = some ad → (∀ j u, (bv l)[j]? = some u → w.cell? (ad.add j) = some u) → (convert src dst (.slice A n c)).run P w = .ok (.string ⟨l.toArray⟩) w := by
    rintro ad rfl hc
    have hb : bv l = (l.map fun x : UInt8 => (x.toNat : Int)).map (Value.int .u8) := by simp [bv]
    have hl : (loadCells ad n).run P w = .ok ((l.map fun x : UInt8 => (x.toNat : Int)).map (Value.int .u8)).toArray w := by
      have := run_loadCells_list (P := P) w ad (bv l) hc
      rw [bv_len, hlen, hb] at this
      exact this
    rw [run_convert_bytes_string w src dst e ad n c hs he hd, run_bytesToString w ad n c _ hl, foldl_push_bytes]
    simp [ByteArray.empty, ByteArray.emptyWithCapacity, Function.comp_def]
    rfl
  rcases h.2.2.2 with h0 | ⟨b, o, e, hb, hc⟩
  · subst h0
    obtain rfl : l = [] := List.eq_nil_of_length_eq_zero hlen
    rcases A with _ | ad
    · exact run_convert_bytes_nil w src e hs he 0 c dst hd
    · exact fin ad rfl (fun j u hu => by simp [bv] at hu)
  · refine fin _ e fun j u hu => ?_
    have := hc j u hu
    by_cases hj : j = 0
    · subst hj; simpa [Addr.add] using this
    · simpa [Addr.add, hj] using this

end Go.Proofs.YtjpkemamfccfdaaGreatDoor
/- Rows of bytes in new memory: what a byte's type is, and make. -/
namespace Go.Proofs.YtjpkemamfccfdaaGreatDoor
open Go.RowKit

theorem u8info : (Tryz.prog.info? 5).map (fun i => (i.zero, i.size, i.bytes)) = some (some (.int .u8 0), 1, 1) := by kernel_rfl

theorem madeBytes (n : Nat) : madeCells (Value.int .u8 0).cells (n * 1) = (List.replicate n (Value.int .u8 0)).toArray := by
  apply Array.ext
  · simp [madeCells]
  · intro i h1 h2; simp [madeCells, Value.cells, Nat.mod_one]

theorem make_bytes (n c : Nat) (hnc : n ≤ c) (h : c ≤ 140737488355328) (W : World) :
    (Instr.makeSlice 86 (.int .i64 (n : Int)) (.int .i64 (c : Int))).run Tryz.prog W = .ok (.slice (some ⟨W.heap.size, 0, none⟩) n c) (W.alloc (.cells (List.replicate c (Value.int .u8 0)).toArray 5)) := by
  obtain ⟨i, hi, hz0, hz1, hz2⟩ := info_parts u8info
  have hr := run_make (P := Tryz.prog) W 86 5 i _ Tryz.underlying86 hi hz0 .i64 .i64 n c (by omega) (by omega) (by rw [hz2]; omega) (by omega)
  rw [hz1] at hr
  simp only [Int.toNat_natCast, madeBytes] at hr
  exact hr

end Go.Proofs.YtjpkemamfccfdaaGreatDoor
/- Quoted texts: the project's and the reference's. -/
namespace Go.Proofs.YtjpkemamfccfdaaGreatDoor
set_option linter.unusedVariables false
open Go.RowKit

theorem odd_of {c : UInt8} (h : c.toNat < 32 ∨ 126 < c.toNat ∨ c.toNat = 34 ∨ c.toNat = 92) : odd8 c = true := by simpa [odd8, or_assoc] using h
theorem odd_not {c : UInt8} (h : ¬ (c.toNat < 32 ∨ 126 < c.toNat ∨ c.toNat = 34 ∨ c.toNat = 92)) : odd8 c = false := by
  rw [← Bool.not_eq_true]
  intro h'
  exact h (by simpa [odd8, or_assoc] using h')
theorem byte_ways (c : UInt8) : ((c.toNat : Int) < 32) ∨ ((32 ≤ (c.toNat : Int) ∧ 126 < (c.toNat : Int))) ∨ ((c.toNat : Int) = 34) ∨ ((c.toNat : Int) = 92) ∨ ((32 ≤ (c.toNat : Int) ∧ (c.toNat : Int) ≤ 126) ∧ ((c.toNat : Int) == 34) = false ∧ ((c.toNat : Int) == 92) = false) := by
  simp only [beq_eq_false_iff_ne]; omega
theorem byte_odd {c : UInt8} (h : ((c.toNat : Int) < 32) ∨ ((32 ≤ (c.toNat : Int) ∧ 126 < (c.toNat : Int))) ∨ ((c.toNat : Int) = 34) ∨ ((c.toNat : Int) = 92)) : odd8 c = true := odd_of (by omega)

set_option maxRecDepth 100000 in
theorem and15 : ∀ x : Nat, x < 256 → x &&& 15 = x % 16 := by decide +kernel
theorem u8_and15 {x : Int} (h1 : 0 ≤ x) (h2 : x < 256) : bits .and .u8 x 15 = x % 16 := by
  rw [u8_and x 15 h1 h2 (by omega) (by omega)]
  have e : (15 : Int).toNat = 15 := rfl
  rw [e, and15 _ (by omega)]; omega

/-- The digits to the base 16. -/
def digs : ByteArray := ⟨#[48, 49, 50, 51, 52, 53, 54, 55, 56, 57, 97, 98, 99, 100, 101, 102]⟩
theorem digs_at : ∀ x : Fin 16, digs[x.val]? = some (hexd x.val) := by decide
theorem digs_get {i : Int} {x : Nat} (hi : i.toNat = x) (hx : x < 16) (h : i.toNat < digs.size) : digs[i.toNat]'h = hexd x := by
  subst hi
  have := digs_at ⟨i.toNat, hx⟩
  dsimp only at this
  rw [getElem?_pos digs i.toNat h] at this
  exact Option.some.inj this

def QRel (w : World) (l : List UInt8) (o i : Value) (wr : World) : Prop :=
  ∃ (k n c : Nat) (A : Option Addr), k ≤ l.length ∧ i = .int .i64 (k : Int) ∧ o = .slice A n c ∧ wr.ownsRow w.heap.size 5 1 (.slice A n c) n (bv ([34] ++ quoteL (l.take k))) ∧ Below w.heap.size w wr

theorem own_lit (w : World) (x : UInt8) : (w.alloc (.cells #[.int .u8 (x.toNat : Int)] 5)).ownsRow w.heap.size 5 1 (.slice (some ⟨w.heap.size, 0, none⟩) 1 1) 1 (bv [x]) :=
  ⟨rfl, .inr ⟨w.heap.size, 1, #[.int .u8 (x.toNat : Int)], rfl, Nat.le_refl _, heap_alloc_new w _, Nat.le_refl _, by simp [maxLen], rfl, rfl⟩⟩

theorem quoteL_step {l : List UInt8} {k : Nat} {b : UInt8} (h : l[k]? = some b) : quoteL (l.take (k + 1)) = quoteL (l.take k) ++ quoteC b := by
  obtain ⟨hk, e⟩ := List.getElem?_eq_some_iff.1 h
  rw [List.take_succ_eq_append_getElem hk, quoteL_app, e]
  simp [quoteL]

/-- A literal's bytes, appended. -/
theorem append_bytes {w : World} {base n c m : Nat} {A : Option Addr} {l : List UInt8} (h : w.ownsRow base 5 1 (.slice A n c) n (bv l)) (cs : List UInt8) (hm : cs.length = m) (hn : n + m ≤ 140737488355328) (hb : base ≤ w.heap.size) :
    ∃ A' c' w', (Builtin.append_ #[86, 86] 86 #[.slice A n c, .slice (some ⟨w.heap.size, 0, none⟩) m m]).run Tryz.prog (w.alloc (.cells (bv cs).toArray 5)) = .ok (.slice A' (n + m) c') w' ∧
      w'.ownsRow base 5 1 (.slice A' (n + m) c') (n + m) (bv (l ++ cs)) ∧ Below base w w' := by
  obtain ⟨i, hi, hz0, hz1, hz2⟩ := info_parts u8info
  obtain ⟨A', c', w', h1, h2, h3⟩ := append_row (P := Tryz.prog) (ty := 86) Tryz.underlying86 hi hz0 hz1 hz2 (h.alloc _) (Sl.lit w 5 (bv cs) m (by rw [bv_len, hm]) (by unfold maxLen; omega)) one_bv hn (by rw [size_al]; omega)
  exact ⟨A', c', w', h1, by rw [bv_app]; exact h2, ((Below.refl base w).alloc hb _).trans h3⟩

set_option maxHeartbeats 1600000 in
set_option maxRecDepth 100000 in
theorem quoted_any (s : ByteArray) (hs : s.size ≤ 1000000) (w : World) :
    Calls Tryz.prog 73 #[.string s] w fun e w' => e = .returned (.string ⟨(quoteB s.data.toList).toArray⟩) ∧ Below w.heap.size w w' := by
  have hl := data_len s
  generalize hL : s.data.toList = l at *
  have HD : Hid (∀ k (h : k < s.size), l[k]? = some s[k]) := by
    show ∀ k (h : k < s.size), l[k]? = some s[k]
    subst hL; exact fun k h => data_at h
  have HL := Lib.hid hl
  have hstart : QRel w l (.slice (some ⟨w.heap.size, 0, none⟩) 1 1) (.int .i64 0) (w.alloc (.cells #[.int .u8 34] 5)) :=
    ⟨0, 1, 1, _, by omega, rfl, rfl, by simpa [quoteL] using own_lit w 34, (Below.refl _ _).alloc (Nat.le_refl _) _⟩
  have HS := Lib.hid hstart
  clear hl hL hstart
  go_enter Tryz.func73, Tryz.ntmps73
  go_wp2_with fail
  go_loopw [3, 9] (fun o i wr => QRel w l o i wr) (fun _ i _ => s.size - (intOf i).toNat)
  case atStart => exact HS.out
  case round =>
    obtain ⟨k, n, c, A, hk, rfl, rfl, hown, hbel⟩ := hrel
    have hn : n ≤ 3000001 := by
      have := hown.1
      have h2 := quoteL_len (l.take k)
      have h3 := HL.out
      simp [bv_len] at this h2
      omega
    have hkl : k ≤ s.size := by have := HL.out; omega
    have HB := Lib.hid hbel
    by_cases hlt : k < s.size
    · have hc := HD.out k hlt
      have hi2 : 0 ≤ (k : Int) ∧ (k : Int) < s.size := by omega
      generalize hcc : s[k] = b at *
      have HC := Lib.hid hc
      clear hc
      rcases byte_ways b with a | a | a | a | a
      case inr.inr.inr.inr =>
        obtain ⟨A2, c2, w2, hap, hown2, hbel2⟩ := append_bytes hown [b] (m := 1) rfl (by omega) hbel.size
        have HO2 := Lib.hid hown2
        have HB2 := Lib.hid (hbel.trans hbel2)
        have HODD : Hid (odd8 b = false) := odd_not (by obtain ⟨a1, a2, a3⟩ := a; simp only [beq_eq_false_iff_ne] at a2 a3; omega)
        have HAP := Lib.hid hap
        clear hown hbel hown2 hbel2 hk hap
        go_wp2_with (at_builtin; refine wpList_append_run rfl _ _ _ _ rfl rfl rfl HAP.out ?_)
        go_roundw
        case rel =>
          refine ⟨k + 1, n + 1, c2, A2, by have := HL.out; omega, by go_num, rfl, ?_, HB2.out⟩
          have e : quoteL (l.take (k + 1)) = quoteL (l.take k) ++ [b] := by rw [quoteL_step HC.out]; unfold quoteC; rw [HODD.out]; rfl
          rw [e, ← List.append_assoc]
          exact HO2.out
        case measure => simp [intOf]; omega
      case inr.inr.inl =>
        obtain rfl : b = 34 := UInt8.toNat_inj.1 (by have : (34 : UInt8).toNat = 34 := rfl; omega)
        have HODD : Hid (odd8 34 = true) := rfl
        have hb1 : bits .and .u8 34 15 = 2 := by decide
        have hd1 : ∀ h, (⟨#[48, 49, 50, 51, 52, 53, 54, 55, 56, 57, 97, 98, 99, 100, 101, 102]⟩ : ByteArray)[2]'h = 50 := fun h => rfl
        have hd2 : ∀ h, (⟨#[48, 49, 50, 51, 52, 53, 54, 55, 56, 57, 97, 98, 99, 100, 101, 102]⟩ : ByteArray)[2]'h = 50 := fun h => rfl
        clear a
        obtain ⟨A2, c2, w2, hap, hown2, hbel2⟩ := append_bytes (w := wr.drew) (base := w.heap.size) (A := A) (n := n) (c := c) (l := [34] ++ quoteL (l.take k)) hown [92, 50, 50] (m := 3) rfl (by omega) hbel.size
        have HO2 := Lib.hid hown2
        have HB2 := Lib.hid ((below_drewN hbel 1).trans hbel2)
        have hap' : (Builtin.append_ #[86, 86] 86 #[.slice A n c, .slice (some ⟨wr.heap.size, 0, none⟩) 3 3]).run Tryz.prog ((wr.alloc (.cells #[.int .u8 92, .int .u8 50, .int .u8 50] 5)).drew) = .ok (.slice A2 (n + 3) c2) w2 := hap
        have HAP := Lib.hid hap'
        clear hown hbel hown2 hbel2 hk hap hap'
        go_wp2_with fail
        go_region_law (refine step_append_run rfl (.tmp 29) (.tmp 36) _ _ rfl (by simp [Act.eval]) (by simp [Act.eval]) HAP.out ?_)
        all_goals
         go_wp2_with fail
         go_roundw
         case rel =>
          refine ⟨k + 1, n + 3, c2, A2, by have := HL.out; omega, by go_num, rfl, ?_, HB2.out⟩
          have e : quoteL (l.take (k + 1)) = quoteL (l.take k) ++ [92, 50, 50] := by rw [quoteL_step HC.out]; unfold quoteC; rw [HODD.out]; rfl
          rw [e, ← List.append_assoc]
          exact HO2.out
         case measure => simp [intOf]; omega
      case inr.inr.inr.inl =>
        obtain rfl : b = 92 := UInt8.toNat_inj.1 (by have : (92 : UInt8).toNat = 92 := rfl; omega)
        have HODD : Hid (odd8 92 = true) := rfl
        have hb1 : bits .and .u8 92 15 = 12 := by decide
        have hd1 : ∀ h, (⟨#[48, 49, 50, 51, 52, 53, 54, 55, 56, 57, 97, 98, 99, 100, 101, 102]⟩ : ByteArray)[5]'h = 53 := fun h => rfl
        have hd2 : ∀ h, (⟨#[48, 49, 50, 51, 52, 53, 54, 55, 56, 57, 97, 98, 99, 100, 101, 102]⟩ : ByteArray)[12]'h = 99 := fun h => rfl
        clear a
        obtain ⟨A2, c2, w2, hap, hown2, hbel2⟩ := append_bytes (w := wr.drew) (base := w.heap.size) (A := A) (n := n) (c := c) (l := [34] ++ quoteL (l.take k)) hown [92, 53, 99] (m := 3) rfl (by omega) hbel.size
        have HO2 := Lib.hid hown2
        have HB2 := Lib.hid ((below_drewN hbel 1).trans hbel2)
        have hap' : (Builtin.append_ #[86, 86] 86 #[.slice A n c, .slice (some ⟨wr.heap.size, 0, none⟩) 3 3]).run Tryz.prog ((wr.alloc (.cells #[.int .u8 92, .int .u8 53, .int .u8 99] 5)).drew) = .ok (.slice A2 (n + 3) c2) w2 := hap
        have HAP := Lib.hid hap'
        clear hown hbel hown2 hbel2 hk hap hap'
        go_wp2_with fail
        go_region_law (refine step_append_run rfl (.tmp 29) (.tmp 36) _ _ rfl (by simp [Act.eval]) (by simp [Act.eval]) HAP.out ?_)
        all_goals
         go_wp2_with fail
         go_roundw
         case rel =>
          refine ⟨k + 1, n + 3, c2, A2, by have := HL.out; omega, by go_num, rfl, ?_, HB2.out⟩
          have e : quoteL (l.take (k + 1)) = quoteL (l.take k) ++ [92, 53, 99] := by rw [quoteL_step HC.out]; unfold quoteC; rw [HODD.out]; rfl
          rw [e, ← List.append_assoc]
          exact HO2.out
         case measure => simp [intOf]; omega
      all_goals
        have HODD : Hid (odd8 b = true) := odd_of (by omega)
        have hb8 : b.toNat < 256 := b.toNat_lt
        have hx1 : 0 ≤ (b.toNat : Int) / 16 ∧ (b.toNat : Int) / 16 < 16 := by omega
        have hx2 : 0 ≤ (b.toNat : Int) % 16 ∧ (b.toNat : Int) % 16 < 16 := by omega
        have hb1 : bits .and .u8 (b.toNat : Int) 15 = (b.toNat : Int) % 16 := u8_and15 (by omega) (by omega)
        have hd1 : ∀ h, (⟨#[48, 49, 50, 51, 52, 53, 54, 55, 56, 57, 97, 98, 99, 100, 101, 102]⟩ : ByteArray)[((b.toNat : Int) / 16).toNat]'h = hexd (b.toNat / 16) := fun h => digs_get (by omega) (by omega) h
        have hd2 : ∀ h, (⟨#[48, 49, 50, 51, 52, 53, 54, 55, 56, 57, 97, 98, 99, 100, 101, 102]⟩ : ByteArray)[((b.toNat : Int) % 16).toNat]'h = hexd (b.toNat % 16) := fun h => digs_get (by omega) (by omega) h
        obtain ⟨A2, c2, w2, hap, hown2, hbel2⟩ := append_bytes (w := wr.drew) (base := w.heap.size) (A := A) (n := n) (c := c) (l := [34] ++ quoteL (l.take k)) hown [92, hexd (b.toNat / 16), hexd (b.toNat % 16)] (m := 3) rfl (by omega) hbel.size
        have HO2 := Lib.hid hown2
        have HB2 := Lib.hid ((below_drewN hbel 1).trans hbel2)
        have hap' : (Builtin.append_ #[86, 86] 86 #[.slice A n c, .slice (some ⟨wr.heap.size, 0, none⟩) 3 3]).run Tryz.prog ((wr.alloc (.cells #[.int .u8 92, .int .u8 ((hexd (b.toNat / 16)).toNat : Int), .int .u8 ((hexd (b.toNat % 16)).toNat : Int)] 5)).drew) = .ok (.slice A2 (n + 3) c2) w2 := hap
        have HAP := Lib.hid hap'
        clear hown hbel hown2 hbel2 hk hap hap'
        go_wp2_with fail
        go_region_law (refine step_append_run rfl (.tmp 29) (.tmp 36) _ _ rfl (by simp [Act.eval]) (by simp [Act.eval]) HAP.out ?_)
        all_goals
         go_wp2_with fail
         go_roundw
         case rel =>
          refine ⟨k + 1, n + 3, c2, A2, by have := HL.out; omega, by go_num, rfl, ?_, HB2.out⟩
          have e : quoteL (l.take (k + 1)) = quoteL (l.take k) ++ [92, hexd (b.toNat / 16), hexd (b.toNat % 16)] := by rw [quoteL_step HC.out]; unfold quoteC; rw [HODD.out]; rfl
          rw [e, ← List.append_assoc]
          exact HO2.out
         case measure => simp [intOf]; omega
    · obtain rfl : k = s.size := by omega
      obtain ⟨A2, c2, w2, hap, hown2, hbel2⟩ := append_bytes hown [34] (m := 1) rfl (by omega) hbel.size
      have e : [34] ++ quoteL (l.take s.size) ++ [34] = quoteB l := by rw [← HL.out, List.take_length]; rfl
      rw [e] at hown2
      have hcv := conv_text Tryz.underlying86 Tryz.underlying5 Tryz.underlying9 (Sl.of_own hown2)
      have HB2 := Lib.hid (hbel.trans hbel2)
      have HAP := Lib.hid hap
      clear hown hbel hown2 hbel2 hk hap e
      go_wp2_with (at_builtin; refine wpList_append_run rfl _ _ _ _ rfl rfl rfl HAP.out ?_)
      go_ret
      exact ⟨rfl, HB2.out⟩
end Go.Proofs.YtjpkemamfccfdaaGreatDoor
/- Digits and texts, plainly. -/
namespace Go.Proofs.YtjpkemamfccfdaaGreatDoor
set_option linter.unusedVariables false
open Go.RowKit

theorem dec_big {m : Nat} (h : ¬ m < 10) : Lib.decDigits m = Lib.decDigits (m / 10) ++ [UInt8.ofNat (48 + m % 10)] := by rw [Lib.decDigits, dif_neg h]
theorem dec_small {m : Nat} (h : m < 10) : Lib.decDigits m = [UInt8.ofNat (48 + m % 10)] := by rw [Lib.decDigits, dif_pos h, Nat.mod_eq_of_lt h]
theorem dec_len {m : Nat} (h : m < 18446744073709551616) : (Lib.decDigits m).length ≤ 20 := by
  rw [Lib.decDigits_length]
  exact Lib.nDigits_le20 m h
theorem str_add (a b : List UInt8) : (⟨a.toArray⟩ : ByteArray) ++ ⟨b.toArray⟩ = ⟨(a ++ b).toArray⟩ := by
  have e : ∀ a b : ByteArray, a.data = b.data → a = b := fun a b h => by cases a; cases b; simp_all
  apply e
  simp [ByteArray.data_append]

end Go.Proofs.YtjpkemamfccfdaaGreatDoor
/- The texts of values: the project's and the reference's. -/
namespace Go.Proofs.YtjpkemamfccfdaaGreatDoor
set_option linter.unusedVariables false
open Go.RowKit

theorem show_wrong {v : Vl} (h : ¬ v.right) : showB v = [] := by unfold showB; rw [if_neg h]
theorem show1 {n : Int} {s : ByteArray} (h : Vl.right ⟨1, n, s⟩) : showB ⟨1, n, s⟩ = Lib.formatBool (n == 1) := by
  unfold showB
  rw [if_pos h, if_pos rfl]
  by_cases hn : n = 1
  · subst hn; rfl
  · rw [if_neg hn, show (n == 1) = false from by rw [beq_eq_false_iff_ne]; exact hn]; rfl
theorem show2 {n : Int} {s : ByteArray} (h : Vl.right ⟨2, n, s⟩) : showB ⟨2, n, s⟩ = Lib.itoa n := by unfold showB; rw [if_pos h]; simp
theorem show3 {n : Int} {s : ByteArray} (h : Vl.right ⟨3, n, s⟩) : showB ⟨3, n, s⟩ = quoteB s.data.toList := by unfold showB; rw [if_pos h]; simp [Vl.l]
theorem show4 {n : Int} {s : ByteArray} (h : Vl.right ⟨4, n, s⟩) : showB ⟨4, n, s⟩ = 64 :: Lib.itoa n := by unfold showB; rw [if_pos h]; simp
theorem show5 {n : Int} {s : ByteArray} (h : Vl.right ⟨5, n, s⟩) : showB ⟨5, n, s⟩ = 35 :: s.data.toList := by unfold showB; rw [if_pos h]; simp [Vl.l]
theorem ret_str {x y : ByteArray} (h : x = y) : Ending.returned (.string x) = .returned (.string y) := by rw [h]
theorem mk_self (s : ByteArray) : (⟨s.data.toList.toArray⟩ : ByteArray) = s := by simp

theorem str_add_s (a : List UInt8) (s : ByteArray) : (⟨a.toArray⟩ : ByteArray) ++ s = ⟨(a ++ s.data.toList).toArray⟩ := by rw [← str_add, mk_self]

set_option maxHeartbeats 3200000 in
theorem vtext_any (k n : Int) (s : ByteArray) (hn : -9223372036854775808 ≤ n ∧ n ≤ 9223372036854775807) (hs : s.size ≤ 1000000) (w : World) (htab : Tab w) :
    Calls Tryz.prog 56 #[.agg #[.int .i64 k, .int .i64 n, .string s]] w fun e w' => e = .returned (.string ⟨(showB ⟨k, n, s⟩).toArray⟩) ∧ Below w.heap.size w w' := by
  have hr := right_any k n s (by unfold maxLen; omega)
  have ht : ∀ w', Below w.heap.size w w' → Tab w' := fun w' hb => htab.then_ hb
  have HT := Lib.hid ht
  have HN := Lib.hid hn
  have hq := quoted_any s hs
  have HQ := Lib.hid hq
  have HS := Lib.hid (data_len s)
  clear ht htab hn hq
  by_cases h1 : RightV k n s.data.toList
  · rw [decide_eq_true h1] at hr
    have HR := Lib.hid hr
    have H1 : Hid (Vl.right ⟨k, n, s⟩) := h1
    have hkk : k = 1 ∨ k = 2 ∨ k = 3 ∨ k = 4 ∨ k = 5 := by
      rcases kind_cases k with h | h | h | h | h | h
      · exact .inl h
      · exact .inr (.inl h)
      · exact .inr (.inr (.inl h))
      · exact .inr (.inr (.inr (.inl h)))
      · exact .inr (.inr (.inr (.inr h)))
      · exact absurd h1 (rv_none h)
    clear hr h1
    rcases hkk with rfl | rfl | rfl | rfl | rfl
    all_goals
      go_enter Tryz.func56, Tryz.ntmps56
      go_wp2_with fail
      refine (HR.out _).mono ?_
      rintro e w1 ⟨rfl, hb1⟩
      have b1 := ((Bx.made w _ n s).then_ hb1).c3
      have D1 := Lib.hid (Below.lit hb1)
      clear hb1
    · go_wp2_with fail
      refine (Tryz.strconv_FormatBool _ _).mono ?_
      rintro e w2 ⟨rfl, rfl⟩
      go_wp2_with fail
      go_ret
      exact ⟨ret_str (by rw [show1 H1.out]), D1.out⟩
    · go_wp2_with fail
      refine (itoa_any (HT.out _ D1.out) n HN.out.1 HN.out.2).mono ?_
      rintro e w2 ⟨rfl, hb2⟩
      have D2 := Lib.hid (below_step D1.out hb2)
      clear hb2
      go_wp2_with fail
      go_ret
      exact ⟨ret_str (by rw [show2 H1.out]), D2.out⟩
    · go_wp2_with fail
      refine (HQ.out _).mono ?_
      rintro e w2 ⟨rfl, hb2⟩
      have D2 := Lib.hid (below_step D1.out hb2)
      clear hb2
      go_wp2_with fail
      go_ret
      exact ⟨ret_str (by rw [show3 H1.out]), D2.out⟩
    · go_wp2_with fail
      refine (itoa_any (HT.out _ D1.out) n HN.out.1 HN.out.2).mono ?_
      rintro e w2 ⟨rfl, hb2⟩
      have D2 := Lib.hid (below_step D1.out hb2)
      have hlen := Lib.itoa_length_le n HN.out.1 HN.out.2
      have HI := Lib.hid (show (⟨#[64]⟩ : ByteArray) ++ ⟨(Lib.itoa n).toArray⟩ = ⟨(showB ⟨4, n, s⟩).toArray⟩ by
        rw [show4 H1.out, show (⟨#[64]⟩ : ByteArray) = ⟨[64].toArray⟩ from rfl, str_add]; rfl)
      clear hb2
      generalize Lib.itoa n = li at *
      go_wp2_with fail
      go_ret
      exact ⟨ret_str HI.out, D2.out⟩
    · have HI := Lib.hid (show (⟨#[35]⟩ : ByteArray) ++ s = ⟨(showB ⟨5, n, s⟩).toArray⟩ by
        rw [show5 H1.out, show (⟨#[35]⟩ : ByteArray) = ⟨[35].toArray⟩ from rfl, str_add_s]; rfl)
      have hle : ¬ 9223372036854775807 < 1 + s.size := by omega
      go_wp2_with fail
      go_ret
      exact ⟨ret_str HI.out, D1.out⟩
  · rw [decide_eq_false h1] at hr
    have HR := Lib.hid hr
    have H1 : Hid (¬ Vl.right ⟨k, n, s⟩) := h1
    clear hr h1
    go_enter Tryz.func56, Tryz.ntmps56
    go_wp2_with fail
    refine (HR.out _).mono ?_
    rintro e w1 ⟨rfl, hb1⟩
    have D1 := Lib.hid (Below.lit hb1)
    clear hb1
    go_wp2_with fail
    go_ret
    exact ⟨ret_str (by rw [show_wrong H1.out]), D1.out⟩

end Go.Proofs.YtjpkemamfccfdaaGreatDoor
/- An attribute's text; a match's; a duty's. -/
namespace Go.Proofs.YtjpkemamfccfdaaGreatDoor
set_option linter.unusedVariables false
open Go.RowKit

theorem bl_app (a b : ByteArray) : bl (a ++ b) = bl a ++ bl b := by
  show (a ++ b).data.toList = _
  rw [ByteArray.data_append, Array.toList_append]
  rfl
theorem bl_mk (l : List UInt8) : bl (⟨l.toArray⟩ : ByteArray) = l := rfl
theorem bl_mka (l : Array UInt8) : bl (⟨l⟩ : ByteArray) = l.toList := rfl
theorem ret_text {x : ByteArray} {l : List UInt8} (h : bl x = l) : Ending.returned (.string x) = .returned (.string ⟨l.toArray⟩) := ret_str (text_eq h)
theorem word_size {l : List UInt8} {n : Nat} (h : l.length ≤ n) : (⟨l.toArray⟩ : ByteArray).size ≤ n := h

set_option maxHeartbeats 800000 in
theorem show_attr (a : Atr) (hok : a.ok) (w : World) (ht : Tbl w) :
    Calls Tryz.prog 14 #[.agg #[.int .i64 a.cat, .string a.name, .bool a.must]] w fun e w' => e = .returned (.string ⟨(attrS a).toArray⟩) ∧ Below w.heap.size w w' := by
  have hcon := fun W => attr_any a hok W
  have HT := Lib.hid ht
  obtain ⟨c, nm, mu⟩ := a
  by_cases h : attrB ⟨c, nm, mu⟩ = true
  · have hall := h
    unfold attrB at hall
    simp only [Bool.and_eq_true, decide_eq_true_eq] at hall
    obtain ⟨⟨h1, h4⟩, hn⟩ := hall
    have hsz : nm.size ≤ 16 := hn.1.2
    have hi : 0 ≤ c ∧ c < 5 := by omega
    obtain ⟨x, hx⟩ : ∃ x : ByteArray, x = ⟨(catW c).toArray⟩ := ⟨_, rfl⟩
    have hxs : x.size ≤ 7 := by rw [hx]; exact word_size (catW_len c)
    have HE : Hid (attrS ⟨c, nm, mu⟩ = bl x ++ 46 :: (bl nm ++ if mu = true then [33] else [])) := by
      show attrS _ = _
      unfold attrS
      rw [if_pos h, hx]
      rfl
    have HG : Hid (∀ W, Below w.heap.size w W → W.cell? ⟨0, c.toNat, none⟩ = some (.string x)) := fun W hb => by
      rw [hx]; exact (HT.out.then_ hb).cat h1 h4
    rw [h] at hcon
    have HC := Lib.hid hcon
    clear hcon ht hok h hn hx h1 h4
    generalize attrS ⟨c, nm, mu⟩ = r at *
    cases mu
    all_goals
      go_enter Tryz.func14, Tryz.ntmps14
      go_wp2_with (go_at_call 31; refine (HC.out _).mono ?_; rintro e w1 ⟨rfl, hb1⟩; have B1 := Lib.hid (Below.lit hb1); have C1 := Lib.hid (Ob.below (Ob.made _ _ _) hb1 (by simp)); have c0 := C1.out.cell 0; have c1 := C1.out.cell 1; have c2 := C1.out.cell 2)
      have hg := HG.out _ B1.out
      clear hb1
      go_quiet (fail)
      go_wp2_with fail
      go_ret
      refine ⟨ret_text ?_, below_drewN B1.out _⟩
      rw [HE.out]
      simp [bl_app, bl_mka]
  · rw [Bool.not_eq_true] at h
    have HE : Hid (attrS ⟨c, nm, mu⟩ = []) := by
      show attrS _ = _
      unfold attrS
      rw [if_neg (by rw [h]; simp)]
    rw [h] at hcon
    have HC := Lib.hid hcon
    clear hcon ht hok h
    generalize attrS ⟨c, nm, mu⟩ = r at *
    go_enter Tryz.func14, Tryz.ntmps14
    go_wp2_with (go_at_call 31; refine (HC.out _).mono ?_; rintro e w1 ⟨rfl, hb1⟩; have B1 := Lib.hid (Below.lit hb1))
    go_ret
    exact ⟨ret_text (by rw [HE.out]; rfl), B1.out⟩

theorem show_effect (b : Bool) (w : World) : Calls Tryz.prog 65 #[.bool b] w fun e w' => e = .returned (.string ⟨(effW b).toArray⟩) ∧ w' = w := by
  cases b
  all_goals
    go_enter Tryz.func65, Tryz.ntmps65
    go_wp2_with fail
    go_ret
    exact ⟨rfl, rfl⟩
theorem show_takes (op : Int) (w : World) : Calls Tryz.prog 29 #[.int .i64 op] w fun e w' => e = .returned (.int .i64 (takesN op)) ∧ w' = w := by
  have two : (op = 1 ∨ op = 2 ∨ op = 3 ∨ op = 4 ∨ op = 11) ∨ ((op == 1) = false ∧ (op == 2) = false ∧ (op == 3) = false ∧ (op == 4) = false ∧ (op == 11) = false) := by
    simp only [beq_eq_false_iff_ne]; omega
  rcases two with (rfl | rfl | rfl | rfl | rfl) | ⟨h1, h2, h3, h4, h11⟩
  case inr =>
    have HE := Lib.hid (show takesN op = 2 by simp only [beq_eq_false_iff_ne] at *; unfold takesN; simp [h1, h2, h3, h4, h11])
    go_enter Tryz.func29, Tryz.ntmps29
    go_wp2_with fail
    go_ret
    exact ⟨ret_int (by rw [HE.out]; rfl), rfl⟩
  all_goals
    go_enter Tryz.func29, Tryz.ntmps29
    go_wp2_with fail
    go_ret
    exact ⟨rfl, rfl⟩
end Go.Proofs.YtjpkemamfccfdaaGreatDoor
/- The reference's words: categories, algorithms, functions, duties; an attribute's text; duties' texts. -/
namespace Go.Proofs.YtjpkemamfccfdaaGreatDoor
set_option linter.unusedVariables false
open Go.RowKit Go.Sort

set_option maxHeartbeats 1600000 in
theorem rcat_any (n : Int) (w : World) : Calls Tryz.prog 21 #[.int .i64 n] w fun e w' => e = .returned (.string ⟨(catW n).toArray⟩) ∧ w' = w := by
  by_cases h1 : n = 1
  · subst h1
    go_enter Tryz.func21, Tryz.ntmps21
    go_wp2_with fail
    go_ret
    exact ⟨rfl, rfl⟩
  by_cases h2 : n = 2
  · subst h2
    go_enter Tryz.func21, Tryz.ntmps21
    go_wp2_with fail
    go_ret
    exact ⟨rfl, rfl⟩
  by_cases h3 : n = 3
  · subst h3
    go_enter Tryz.func21, Tryz.ntmps21
    go_wp2_with fail
    go_ret
    exact ⟨rfl, rfl⟩
  have HE : Hid (catW n = [101, 110, 118]) := by show _ = _; unfold catW; simp only [if_neg h1, if_neg h2, if_neg h3]
  have b1 : (n == 1) = false := by rw [beq_eq_false_iff_ne]; exact h1
  have b2 : (n == 2) = false := by rw [beq_eq_false_iff_ne]; exact h2
  have b3 : (n == 3) = false := by rw [beq_eq_false_iff_ne]; exact h3
  clear h1 h2 h3
  go_enter Tryz.func21, Tryz.ntmps21
  go_wp2_with fail
  go_ret
  exact ⟨by rw [HE.out]; rfl, rfl⟩
set_option maxHeartbeats 1600000 in
theorem ralg_any (n : Int) (w : World) : Calls Tryz.prog 50 #[.int .i64 n] w fun e w' => e = .returned (.string ⟨(algW n).toArray⟩) ∧ w' = w := by
  by_cases h1 : n = 1
  · subst h1
    go_enter Tryz.func50, Tryz.ntmps50
    go_wp2_with fail
    go_ret
    exact ⟨rfl, rfl⟩
  by_cases h2 : n = 2
  · subst h2
    go_enter Tryz.func50, Tryz.ntmps50
    go_wp2_with fail
    go_ret
    exact ⟨rfl, rfl⟩
  by_cases h3 : n = 3
  · subst h3
    go_enter Tryz.func50, Tryz.ntmps50
    go_wp2_with fail
    go_ret
    exact ⟨rfl, rfl⟩
  by_cases h4 : n = 4
  · subst h4
    go_enter Tryz.func50, Tryz.ntmps50
    go_wp2_with fail
    go_ret
    exact ⟨rfl, rfl⟩
  by_cases h5 : n = 5
  · subst h5
    go_enter Tryz.func50, Tryz.ntmps50
    go_wp2_with fail
    go_ret
    exact ⟨rfl, rfl⟩
  have HE : Hid (algW n = [112, 101, 114, 109, 105, 116, 117, 110, 108, 101, 115, 115]) := by show _ = _; unfold algW; simp only [if_neg h1, if_neg h2, if_neg h3, if_neg h4, if_neg h5]
  have b1 : (n == 1) = false := by rw [beq_eq_false_iff_ne]; exact h1
  have b2 : (n == 2) = false := by rw [beq_eq_false_iff_ne]; exact h2
  have b3 : (n == 3) = false := by rw [beq_eq_false_iff_ne]; exact h3
  have b4 : (n == 4) = false := by rw [beq_eq_false_iff_ne]; exact h4
  have b5 : (n == 5) = false := by rw [beq_eq_false_iff_ne]; exact h5
  clear h1 h2 h3 h4 h5
  go_enter Tryz.func50, Tryz.ntmps50
  go_wp2_with fail
  go_ret
  exact ⟨by rw [HE.out]; rfl, rfl⟩
set_option maxHeartbeats 1600000 in
theorem rop_any (n : Int) (w : World) : Calls Tryz.prog 19 #[.int .i64 n] w fun e w' => e = .returned (.string ⟨(fnW n).toArray⟩) ∧ w' = w := by
  by_cases h3 : n = 3
  · subst h3
    go_enter Tryz.func19, Tryz.ntmps19
    go_wp2_with fail
    go_ret
    exact ⟨rfl, rfl⟩
  by_cases h4 : n = 4
  · subst h4
    go_enter Tryz.func19, Tryz.ntmps19
    go_wp2_with fail
    go_ret
    exact ⟨rfl, rfl⟩
  by_cases h5 : n = 5
  · subst h5
    go_enter Tryz.func19, Tryz.ntmps19
    go_wp2_with fail
    go_ret
    exact ⟨rfl, rfl⟩
  by_cases h6 : n = 6
  · subst h6
    go_enter Tryz.func19, Tryz.ntmps19
    go_wp2_with fail
    go_ret
    exact ⟨rfl, rfl⟩
  by_cases h7 : n = 7
  · subst h7
    go_enter Tryz.func19, Tryz.ntmps19
    go_wp2_with fail
    go_ret
    exact ⟨rfl, rfl⟩
  by_cases h8 : n = 8
  · subst h8
    go_enter Tryz.func19, Tryz.ntmps19
    go_wp2_with fail
    go_ret
    exact ⟨rfl, rfl⟩
  by_cases h9 : n = 9
  · subst h9
    go_enter Tryz.func19, Tryz.ntmps19
    go_wp2_with fail
    go_ret
    exact ⟨rfl, rfl⟩
  by_cases h10 : n = 10
  · subst h10
    go_enter Tryz.func19, Tryz.ntmps19
    go_wp2_with fail
    go_ret
    exact ⟨rfl, rfl⟩
  by_cases h11 : n = 11
  · subst h11
    go_enter Tryz.func19, Tryz.ntmps19
    go_wp2_with fail
    go_ret
    exact ⟨rfl, rfl⟩
  by_cases h12 : n = 12
  · subst h12
    go_enter Tryz.func19, Tryz.ntmps19
    go_wp2_with fail
    go_ret
    exact ⟨rfl, rfl⟩
  have HE : Hid (fnW n = [111, 114]) := by show _ = _; unfold fnW; simp only [if_neg h3, if_neg h4, if_neg h5, if_neg h6, if_neg h7, if_neg h8, if_neg h9, if_neg h10, if_neg h11, if_neg h12]
  have b3 : (n == 3) = false := by rw [beq_eq_false_iff_ne]; exact h3
  have b4 : (n == 4) = false := by rw [beq_eq_false_iff_ne]; exact h4
  have b5 : (n == 5) = false := by rw [beq_eq_false_iff_ne]; exact h5
  have b6 : (n == 6) = false := by rw [beq_eq_false_iff_ne]; exact h6
  have b7 : (n == 7) = false := by rw [beq_eq_false_iff_ne]; exact h7
  have b8 : (n == 8) = false := by rw [beq_eq_false_iff_ne]; exact h8
  have b9 : (n == 9) = false := by rw [beq_eq_false_iff_ne]; exact h9
  have b10 : (n == 10) = false := by rw [beq_eq_false_iff_ne]; exact h10
  have b11 : (n == 11) = false := by rw [beq_eq_false_iff_ne]; exact h11
  have b12 : (n == 12) = false := by rw [beq_eq_false_iff_ne]; exact h12
  clear h3 h4 h5 h6 h7 h8 h9 h10 h11 h12
  go_enter Tryz.func19, Tryz.ntmps19
  go_wp2_with fail
  go_ret
  exact ⟨by rw [HE.out]; rfl, rfl⟩
set_option maxHeartbeats 1600000 in
theorem rduty_any (n : Int) (w : World) : Calls Tryz.prog 69 #[.int .i64 n] w fun e w' => e = .returned (.string ⟨(doW n).toArray⟩) ∧ w' = w := by
  by_cases h1 : n = 1
  · subst h1
    go_enter Tryz.func69, Tryz.ntmps69
    go_wp2_with fail
    go_ret
    exact ⟨rfl, rfl⟩
  by_cases h2 : n = 2
  · subst h2
    go_enter Tryz.func69, Tryz.ntmps69
    go_wp2_with fail
    go_ret
    exact ⟨rfl, rfl⟩
  by_cases h3 : n = 3
  · subst h3
    go_enter Tryz.func69, Tryz.ntmps69
    go_wp2_with fail
    go_ret
    exact ⟨rfl, rfl⟩
  have HE : Hid (doW n = [110, 111, 116, 105, 102, 121]) := by show _ = _; unfold doW; simp only [if_neg h1, if_neg h2, if_neg h3]
  have b1 : (n == 1) = false := by rw [beq_eq_false_iff_ne]; exact h1
  have b2 : (n == 2) = false := by rw [beq_eq_false_iff_ne]; exact h2
  have b3 : (n == 3) = false := by rw [beq_eq_false_iff_ne]; exact h3
  clear h1 h2 h3
  go_enter Tryz.func69, Tryz.ntmps69
  go_wp2_with fail
  go_ret
  exact ⟨by rw [HE.out]; rfl, rfl⟩
set_option maxHeartbeats 1600000 in
/-- An attribute's text: its name isn't too long. -/
theorem rattrT_any (a : Atr) (hs : a.name.size ≤ 1000000) (w : World) :
    Calls Tryz.prog 9 #[.agg #[.int .i64 a.cat, .string a.name, .bool a.must]] w fun e w' => e = .returned (.string ⟨(attrT a).toArray⟩) ∧ Below w.heap.size w w' := by
  obtain ⟨c, nm, mu⟩ := a
  obtain ⟨x, hx⟩ : ∃ x : ByteArray, x = ⟨(catW c).toArray⟩ := ⟨_, rfl⟩
  have hxs : x.size ≤ 7 := by rw [hx]; exact word_size (catW_len c)
  have HE : Hid (attrT ⟨c, nm, mu⟩ = bl x ++ 46 :: (bl nm ++ if mu = true then [33] else [])) := by show _ = _; rw [hx]; rfl
  have HC : Hid (∀ V : World, Calls Tryz.prog 21 #[.int .i64 c] V fun e w' => e = .returned (.string x) ∧ w' = V) := fun V => by rw [hx]; exact rcat_any c V
  clear hx
  simp only at hs
  generalize attrT ⟨c, nm, mu⟩ = r at *
  simp only
  have HC2 := Lib.hid (fun V d os => Calls.regrown_of (w := V) (d := d) (os := os) ((HC.out (grow (redrawn V d) os)).mono fun e w' h => ⟨h.1, by rw [h.2]; exact Below.refl _ _⟩))
  go_enter Tryz.func9, Tryz.ntmps9
  go_upto_region 1 with fail
  have OX := Lib.hid (Ob.made w 31 #[.int .i64 c, .string nm, .bool mu])
  have BX := Lib.hid ((Below.refl w.heap.size w).alloc (Nat.le_refl _) (.cells #[.int .i64 c, .string nm, .bool mu] 31))
  generalize hW : w.alloc (.cells #[.int .i64 c, .string nm, .bool mu] 31) = W at *
  have p0 := fun d os => cell_regrown (OX.out.cell 0) d os
  have p1 := fun d os => cell_regrown (OX.out.cell 1) d os
  have Q1 := Lib.hid (fun d os => HC2.out W d os)
  refine wp_region_quiet_below (by kernel_rfl) (by kernel_rfl) ?_
  repeat (go_big_quiet_step ((go_at_call 21; exact Q1.out _ _)))
  refine wpQuiet_nil ?_
  intro _ hw'
  obtain ⟨⟨dq, osq⟩, hw''⟩ := hw'
  subst hw''
  have BQ := Lib.hid (below_step BX.out (below_regrown W dq osq))
  have p2 := cell_regrown (OX.out.cell 2) dq osq
  clear p0 p1 Q1 hW
  cases mu
  all_goals
    go_wp2_with fail
    go_ret
    refine ⟨ret_text ?_, BQ.out⟩
    rw [HE.out]
    simp [bl_app, bl_mka]
end Go.Proofs.YtjpkemamfccfdaaGreatDoor
/- A match's text; a duty's. -/
namespace Go.Proofs.YtjpkemamfccfdaaGreatDoor
set_option linter.unusedVariables false
open Go.RowKit Go.Sort

theorem right_small {v : Vl} (h : v.right) : v.s.size ≤ 1000000 := by
  have hr := h
  unfold Vl.right RightV at hr
  have e : v.s.size = v.l.length := rfl
  rw [e]
  rcases hr with ⟨_, h, _⟩ | ⟨_, h⟩ | ⟨_, _, h⟩ | ⟨_, h, _⟩ | ⟨_, _, h, _⟩
  · rw [h]; simp
  · rw [h]; simp
  · omega
  · rw [h]; simp
  · omega
theorem al9' (w : World) (o : Obj) : Below w.heap.size w (w.alloc o) := (Below.refl _ _).alloc (Nat.le_refl _) _

set_option maxHeartbeats 800000 in
theorem show_match (m : Mat) (hok : m.ok) (hm : matE m = 0) (w : World) (ht : Tbl w) :
    Calls Tryz.prog 96 #[.agg #[.int .i64 m.a.cat, .string m.a.name, .bool m.a.must, .int .i64 m.op, .int .i64 m.v.k, .int .i64 m.v.n, .string m.v.s]] w fun e w' => e = .returned (.string ⟨(matT m).toArray⟩) ∧ Below w.heap.size w w' := by
  obtain ⟨ha, ho, hv⟩ := matE_all hm
  have hal := attr_len ha
  have hvl := val_len hv hok.2.2.2.1
  have hsz := hok.2.2.2.2
  obtain ⟨x, hx⟩ : ∃ x : ByteArray, x = ⟨(attrS m.a).toArray⟩ := ⟨_, rfl⟩
  obtain ⟨y, hy⟩ : ∃ x : ByteArray, x = ⟨(cmpW m.op).toArray⟩ := ⟨_, rfl⟩
  obtain ⟨z, hz⟩ : ∃ x : ByteArray, x = ⟨(showB m.v).toArray⟩ := ⟨_, rfl⟩
  have hxs : x.size ≤ 25 := by rw [hx]; exact word_size hal
  have hys : y.size ≤ 1 := by rw [hy]; exact word_size (cmpW_len _)
  have hzs : z.size ≤ 400 := by rw [hz]; exact word_size hvl
  have hs64 : m.v.s.size ≤ 1000000 := by
    have h := right_small hv
    exact h
  have HT : Hid (∀ W, Below w.heap.size w W → Tbl W) := fun W hb => ht.then_ hb
  have QA : ∀ W, Below w.heap.size w W → ∀ d os, Calls Tryz.prog 14 #[.agg #[.int .i64 m.a.cat, .string m.a.name, .bool m.a.must]] (grow (redrawn W d) os) fun e w'' => e = .returned (.string x) ∧ ∃ p : Regrown, w'' = grow (redrawn W p.d) p.os := fun W hb d os => by
    rw [hx]; exact Calls.regrown_of (show_attr m.a hok.1 _ (HT.out _ (hb.trans ((below_regrown W d os).mono hb.size))))
  have QV : ∀ W, Below w.heap.size w W → ∀ d os, Calls Tryz.prog 56 #[.agg #[.int .i64 m.v.k, .int .i64 m.v.n, .string m.v.s]] (grow (redrawn W d) os) fun e w'' => e = .returned (.string z) ∧ ∃ p : Regrown, w'' = grow (redrawn W p.d) p.os := fun W hb d os => by
    rw [hz]; exact Calls.regrown_of (vtext_any m.v.k m.v.n m.v.s hok.2.2.2.1 hs64 _ (HT.out _ (hb.trans ((below_regrown W d os).mono hb.size))).tab)
  have hG : ∀ W, Below w.heap.size w W → ∀ d os, (grow (redrawn W d) os).cell? ⟨5, m.op.toNat, none⟩ = some (.string y) := fun W hb d os => by
    rw [hy]; exact (HT.out _ (hb.trans ((below_regrown W d os).mono hb.size))).cmp (by omega) (by omega)
  have HQA := Lib.hid QA
  have HQV := Lib.hid QV
  have HG := Lib.hid hG
  have HE : Hid (bl x ++ 32 :: (bl y ++ 32 :: bl z) = matT m) := by rw [hx, hy, hz]; rfl
  generalize matT m = r at *
  obtain ⟨⟨ac, an, am⟩, op, ⟨vk, vn, vs⟩⟩ := m
  simp only at ho HQA HQV HG ⊢
  have hi : 0 ≤ op ∧ op < 4 := by omega
  clear QA QV hG hx hy hz ht hok hm ha hv hal hvl ho hsz hs64
  go_enter Tryz.func96, Tryz.ntmps96
  go_wp2_with fail
  have C1 := Lib.hid (Ob.made w 48 #[.int .i64 ac, .string an, .bool am, .int .i64 op, .int .i64 vk, .int .i64 vn, .string vs])
  have B0 := Lib.hid (al9' w (.cells #[.int .i64 ac, .string an, .bool am, .int .i64 op, .int .i64 vk, .int .i64 vn, .string vs] 48))
  have Q1 := Lib.hid (HQA.out _ B0.out)
  have Q2 := Lib.hid (HQV.out _ B0.out)
  have g1 := HG.out _ B0.out
  have x0 := fun d os => cell_regrown (C1.out.cell 0) d os
  have x1 := fun d os => cell_regrown (C1.out.cell 1) d os
  have x2 := fun d os => cell_regrown (C1.out.cell 2) d os
  have x3 := fun d os => cell_regrown (C1.out.cell 3) d os
  have x4 := fun d os => cell_regrown (C1.out.cell 4) d os
  have x5 := fun d os => cell_regrown (C1.out.cell 5) d os
  have x6 := fun d os => cell_regrown (C1.out.cell 6) d os
  refine wp_region_quiet_below (by kernel_rfl) (by kernel_rfl) ?_
  repeat (go_big_quiet_step (first
    | (go_at_call 14; exact Q1.out _ _)
    | (go_at_call 56; exact Q2.out _ _)))
  refine wpQuiet_nil ?_
  intro _ hw'
  obtain ⟨⟨dq, osq⟩, hw''⟩ := hw'
  subst hw''
  have BQ := Lib.hid (below_regrown (w.alloc (.cells #[.int .i64 ac, .string an, .bool am, .int .i64 op, .int .i64 vk, .int .i64 vn, .string vs] 48)) dq osq)
  generalize grow (redrawn _ dq) osq = w2 at *
  go_wp2_with fail
  go_ret
  refine ⟨ret_text ?_, B0.out.trans (BQ.out.mono B0.out.size)⟩
  rw [← HE.out]
  simp [bl_app, bl_mka]

set_option maxHeartbeats 800000 in
theorem show_duty (m : Dut) (hok : m.ok) (hm : dutE m = 0) (w : World) (ht : Tbl w) :
    Calls Tryz.prog 48 #[.agg #[.int .i64 m.on, .int .i64 m.kind, .string m.arg]] w fun e w' => e = .returned (.string ⟨(dutT m).toArray⟩) ∧ Below w.heap.size w w' := by
  obtain ⟨ho, hk, hn⟩ := dutE_all hm
  have hzs : m.arg.size ≤ 16 := hn.1.2
  obtain ⟨b, hb⟩ : ∃ b : Bool, b = decide (m.on = 2) := ⟨_, rfl⟩
  obtain ⟨x, hx⟩ : ∃ x : ByteArray, x = ⟨(effW b).toArray⟩ := ⟨_, rfl⟩
  obtain ⟨y, hy⟩ : ∃ x : ByteArray, x = ⟨(doW m.kind).toArray⟩ := ⟨_, rfl⟩
  have hxs : x.size ≤ 6 := by rw [hx]; exact word_size (effW_len b)
  have hys : y.size ≤ 6 := by rw [hy]; exact word_size (doW_len _)
  have h2 : (m.on == 2) = b := by rw [hb]; rfl
  have HT : Hid (∀ W, Below w.heap.size w W → Tbl W) := fun W hb => ht.then_ hb
  have QA : ∀ W, Below w.heap.size w W → ∀ d os, Calls Tryz.prog 65 #[.bool b] (grow (redrawn W d) os) fun e w'' => e = .returned (.string x) ∧ ∃ p : Regrown, w'' = grow (redrawn W p.d) p.os := fun W hb d os => by
    rw [hx]; exact Calls.regrown_of ((show_effect b _).mono fun e w' h => ⟨h.1, by rw [h.2]; exact Below.refl _ _⟩)
  have hG : ∀ W, Below w.heap.size w W → ∀ d os, (grow (redrawn W d) os).cell? ⟨3, m.kind.toNat, none⟩ = some (.string y) := fun W hb d os => by
    rw [hy]; exact (HT.out _ (hb.trans ((below_regrown W d os).mono hb.size))).do (by omega) (by omega)
  have HQA := Lib.hid QA
  have HG := Lib.hid hG
  have HE : Hid ([111, 110, 32] ++ (bl x ++ 32 :: (bl y ++ 32 :: bl m.arg)) = dutT m) := by rw [hx, hy, hb]; rfl
  generalize dutT m = r at *
  obtain ⟨on, kd, nm⟩ := m
  simp only at ho hk hzs h2 HQA HG ⊢
  have hi : 0 ≤ kd ∧ kd < 5 := by omega
  clear QA hG hx hy hb ht hok hm hn ho hk
  go_enter Tryz.func48, Tryz.ntmps48
  go_wp2_with fail
  have C1 := Lib.hid (Ob.made w 56 #[.int .i64 on, .int .i64 kd, .string nm])
  have B0 := Lib.hid (al9' w (.cells #[.int .i64 on, .int .i64 kd, .string nm] 56))
  have Q1 := Lib.hid (HQA.out _ B0.out)
  have g1 := HG.out _ B0.out
  have x0 := fun d os => cell_regrown (C1.out.cell 0) d os
  have x1 := fun d os => cell_regrown (C1.out.cell 1) d os
  have x2 := fun d os => cell_regrown (C1.out.cell 2) d os
  refine wp_region_quiet_below (by kernel_rfl) (by kernel_rfl) ?_
  repeat (go_big_quiet_step ((go_at_call 65; exact Q1.out _ _)))
  refine wpQuiet_nil ?_
  intro _ hw'
  obtain ⟨⟨dq, osq⟩, hw''⟩ := hw'
  subst hw''
  have BQ := Lib.hid (below_regrown (w.alloc (.cells #[.int .i64 on, .int .i64 kd, .string nm] 56)) dq osq)
  generalize grow (redrawn _ dq) osq = w2 at *
  go_wp2_with fail
  go_ret
  refine ⟨ret_text ?_, B0.out.trans (BQ.out.mono B0.out.size)⟩
  rw [← HE.out]
  simp [bl_app, bl_mka]
end Go.Proofs.YtjpkemamfccfdaaGreatDoor
/- The reference's duties' text. -/
namespace Go.Proofs.YtjpkemamfccfdaaGreatDoor
set_option linter.unusedVariables false
open Go.RowKit Go.Sort

/-- Words with a blank ahead of each. -/
def sp (xs : List (List UInt8)) : List UInt8 := Lib.joinTail [32] xs
theorem sp_nil : sp [] = [] := rfl
theorem sp_app (xs ys : List (List UInt8)) : sp (xs ++ ys) = sp xs ++ sp ys := by
  unfold sp Lib.joinTail
  rw [List.map_append, List.flatten_append]
theorem sp_one (x : List UInt8) : sp [x] = 32 :: x := by simp [sp, Lib.joinTail]
theorem sp_cons (x : List UInt8) (r : List (List UInt8)) : sp (x :: r) = 32 :: (x ++ sp r) := by
  have := sp_app [x] r
  rw [sp_one] at this
  simpa using this
theorem sp_len {B : Nat} (xs : List (List UInt8)) (h : ∀ x ∈ xs, x.length ≤ B) : (sp xs).length ≤ xs.length * (B + 1) := tail_le [32] xs h
theorem join_sp (x : List UInt8) (r : List (List UInt8)) : Lib.join (x :: r) [32] = x ++ sp r := Lib.join_cons x r [32]
theorem size_bl (s : ByteArray) : (bl s).length = s.size := by simp [bl]

set_option maxHeartbeats 3200000 in
theorem robls_any {w : World} {R : Nat → Prop} {A : Option Addr} {n c : Nat} {l : List Dut} (h : Dus w R A n c l) (hn : n ≤ 1000) (hf : ∀ x ∈ l, dutE x = 0) :
    Calls Tryz.prog 52 #[.slice A n c] w fun e w' => e = .returned (.string ⟨(sp (l.map dutT)).toArray⟩) ∧ Below w.heap.size w w' := by
  have hle := Rw.le h
  have hcap := Rw.cap h
  have HL := Lib.hid (Rw.len h)
  unfold maxLen at hcap
  have HK := Lib.hid (fun W (hW : Below w.heap.size w W) => Dus.keep h (Kept.all hW R) (R' := fun _ => True) (fun _ _ _ => trivial))
  have HF := Lib.hid hf
  clear h hf
  go_enter Tryz.func52, Tryz.ntmps52
  go_wp2
  go_loopw [3, 9] (fun o i wr => ∃ (k : Nat) (s : ByteArray), k ≤ n ∧ i = .int .i64 k ∧ o = .string s ∧ bl s = sp ((l.take k).map dutT) ∧ Below w.heap.size w wr) (fun _ i _ => n - (intOf i).toNat)
  case atStart => exact ⟨0, ⟨#[]⟩, Nat.zero_le _, rfl, rfl, rfl, Below.refl _ _⟩
  case round =>
    obtain ⟨k, s, hk, rfl, rfl, hs, hb⟩ := hrel
    have HSX := Lib.hid hs
    have HB := Lib.hid hb
    have hss : s.size ≤ 101000 := by
      rw [← size_bl, hs]
      have := sp_len (B := 100) ((l.take k).map dutT) (fun x hx => by
        obtain ⟨o, ho, rfl⟩ := List.mem_map.1 hx
        exact dut_len (HF.out o (List.mem_of_mem_take ho)))
      rw [List.length_map, List.length_take] at this
      omega
    clear hs hb
    by_cases hlt : k < n
    · obtain ⟨b, o, x, rfl, _, _, hx, hok, x0, x1, x2⟩ := (HK.out wr HB.out).at_ hlt
      have HE := HF.out x (List.mem_of_getElem? hx)
      have hdl := dut_len HE
      have HST : Hid (sp ((l.take (k + 1)).map dutT) = sp ((l.take k).map dutT) ++ 32 :: dutT x) := by
        show _ = _
        obtain ⟨hk', rfl⟩ := List.getElem?_eq_some_iff.1 hx
        rw [List.take_succ_eq_append_getElem hk', List.map_append, sp_app]
        simp [sp_one]
      obtain ⟨y, hy⟩ : ∃ y : ByteArray, y = ⟨(doW x.kind).toArray⟩ := ⟨_, rfl⟩
      have hys : y.size ≤ 6 := by rw [hy]; exact word_size (doW_len _)
      have HD : Hid (dutT x = [111, 110, 32] ++ (effW (decide (x.on = 2)) ++ 32 :: (bl y ++ 32 :: bl x.arg))) := by show _ = _; rw [hy]; rfl
      have HC := Lib.hid (fun (V : World) d os => Calls.regrown_of (w := V) (d := d) (os := os) ((show Calls Tryz.prog 69 #[.int .i64 x.kind] (grow (redrawn V d) os) fun e w' => e = .returned (.string y) ∧ w' = grow (redrawn V d) os by rw [hy]; exact rduty_any x.kind _).mono fun e w' h => ⟨h.1, by rw [h.2]; exact Below.refl _ _⟩))
      have hzs : x.arg.size ≤ 16 := (dutE_all HE).2.2.1.2
      obtain ⟨on, kd, ar⟩ := x
      simp only at x0 x1 x2 HC HD hzs
      have OX := Lib.hid (Ob.made wr 56 #[.int .i64 on, .int .i64 kd, .string ar])
      have BX := Lib.hid (below_step HB.out ((Below.refl wr.heap.size wr).alloc (Nat.le_refl _) (.cells #[.int .i64 on, .int .i64 kd, .string ar] 56)))
      clear hx hok hy HE hdl
      by_cases h2 : on = 2
      · subst h2
        go_upto_region 8 with fail
        generalize hW : wr.alloc (.cells #[.int .i64 2, .int .i64 kd, .string ar] 56) = W1 at *
        generalize hG : wr.heap.size = g5 at *
        clear hW hG x0 x1 x2
        have p0 := fun d os => cell_regrown (OX.out.cell 0) d os
        have p1 := fun d os => cell_regrown (OX.out.cell 1) d os
        have p2 := fun d os => cell_regrown (OX.out.cell 2) d os
        have Q1 := Lib.hid (fun d os => HC.out W1 d os)
        refine wp_region_quiet_below (by kernel_rfl) (by kernel_rfl) ?_
        repeat (go_big_quiet_step ((go_at_call 69; exact Q1.out _ _)))
        refine wpQuiet_nil ?_
        intro _ hw'
        obtain ⟨⟨dq, osq⟩, hw''⟩ := hw'
        subst hw''
        have BQ := Lib.hid (below_step BX.out (below_regrown W1 dq osq))
        clear p0 p1 p2 Q1
        generalize hwZ : grow (redrawn W1 ({ d := dq, os := osq } : Regrown).d) ({ d := dq, os := osq } : Regrown).os = wZ at *
        clear hwZ
        go_wp2_with fail
        go_roundw
        case rel => exact ⟨k + 1, _, by omega, by go_num, rfl, by rw [HST.out, ← HSX.out, HD.out]; simp [bl_app, bl_mka, effW], BQ.out⟩
        case measure => simp [intOf]; omega
      · have h2b : (on == 2) = false := by rw [beq_eq_false_iff_ne]; exact h2
        have h2d : decide (on = 2) = false := decide_eq_false h2
        rw [h2d] at HD
        clear h2 h2d
        go_upto_region 8 with fail
        generalize hW : wr.alloc (.cells #[.int .i64 on, .int .i64 kd, .string ar] 56) = W1 at *
        generalize hG : wr.heap.size = g5 at *
        clear hW hG x0 x1 x2
        have p0 := fun d os => cell_regrown (OX.out.cell 0) d os
        have p1 := fun d os => cell_regrown (OX.out.cell 1) d os
        have p2 := fun d os => cell_regrown (OX.out.cell 2) d os
        have Q1 := Lib.hid (fun d os => HC.out W1 d os)
        refine wp_region_quiet_below (by kernel_rfl) (by kernel_rfl) ?_
        repeat (go_big_quiet_step ((go_at_call 69; exact Q1.out _ _)))
        refine wpQuiet_nil ?_
        intro _ hw'
        obtain ⟨⟨dq, osq⟩, hw''⟩ := hw'
        subst hw''
        have BQ := Lib.hid (below_step BX.out (below_regrown W1 dq osq))
        clear p0 p1 p2 Q1
        generalize hwZ : grow (redrawn W1 ({ d := dq, os := osq } : Regrown).d) ({ d := dq, os := osq } : Regrown).os = wZ at *
        clear hwZ
        go_wp2_with fail
        go_roundw
        case rel => exact ⟨k + 1, _, by omega, by go_num, rfl, by rw [HST.out, ← HSX.out, HD.out]; simp [bl_app, bl_mka, effW], BQ.out⟩
        case measure => simp [intOf]; omega
    · obtain rfl : k = n := by omega
      have HEND : Hid (bl s = sp (l.map dutT)) := by
        have := HSX.out
        rw [List.take_of_length_le (by have := HL.out; omega)] at this
        exact this
      go_wp2
      go_ret
      exact ⟨ret_text HEND.out, HB.out⟩
end Go.Proofs.YtjpkemamfccfdaaGreatDoor
/- XHTail's condition may be made stronger on the way: what has been laid meanwhile may be told, too. -/
namespace Go.Proofs.YtjpkemamfccfdaaGreatDoor
open Go Go.RowKit

section
variable {P : Program} {ops : Array Oper} {md : Region.Mode} {Q : Exit → Act → World → Prop} {S S' : World → Prop} {L : Array Bool → Act → World → Prop} {n : Nat}
theorem HeadS.stronger (h : ∀ w, S' w → S w) : ∀ (f : Nat) (listed : Array Bool) (a : Act) (w : World), HeadS P md ops Q S' n L f listed a w → HeadS P md ops Q S n L f listed a w
  | 0, _, _, _, hh => hh
  | f + 1, _, _, _, hh => ⟨hh.1, fun i hi => ⟨(hh.2 i hi).1, wpOp_mono (fun _ _ h3 => ⟨h _ h3.1, HeadS.stronger h f _ _ _ h3.2⟩) (hh.2 i hi).2⟩⟩
theorem HeadW.stronger (h : ∀ w, S' w → S w) {f : Nat} {listed : Array Bool} {a : Act} {w : World} (hh : HeadW P md ops Q S' n L f listed a w) : HeadW P md ops Q S n L f listed a w := fun inv => HeadS.stronger h f _ _ _ (hh inv)
end
end Go.Proofs.YtjpkemamfccfdaaGreatDoor
/- Texts and names: the project's test. -/
namespace Go.Proofs.YtjpkemamfccfdaaGreatDoor
set_option linter.unusedVariables false
open Go.RowKit

end Go.Proofs.YtjpkemamfccfdaaGreatDoor
/- Names: the project's test and the reference's. -/
/- Which values are right: the project's test and the reference's. -/
/- pack.Num: behind the bytes that are handed in, in new memory, the number's bytes. -/
namespace Go.Proofs.YtjpkemamfccfdaaGreatDoor
open Go.RowKit

/-- What the loop of Num holds: the bytes that are there already, those of the number that were put behind them, what is left of it. -/
def NumRel (w : World) (base : Nat) (l all : List UInt8) (u out : Value) (wr : World) : Prop :=
  ∃ (m n c : Nat) (A : Option Addr) (done : List UInt8), u = .int .u64 (m : Int) ∧ out = .slice A n c ∧ wr.ownsRow base 5 1 (.slice A n c) n (bv (l ++ done)) ∧ done ++ enc m = all ∧ Below base w wr

end Go.Proofs.YtjpkemamfccfdaaGreatDoor
/- pack.Text. -/
namespace Go.Proofs.YtjpkemamfccfdaaGreatDoor
open Go.RowKit

end Go.Proofs.YtjpkemamfccfdaaGreatDoor
/- pack.Read. -/
namespace Go.Proofs.YtjpkemamfccfdaaGreatDoor
open Go.RowKit

/-- A reader: its bytes, its place, what is wrong; it and its bytes lie from block lo on. -/
def Rdr (w : World) (t : TypeId) (lo r : Nat) (l : List UInt8) (p : Nat) (wrong : Int) : Prop :=
  ∃ A n c, Ob w r t #[.slice A n c, .int .i64 (p : Int), .int .i64 wrong] ∧ Sl w r A n c (bv l) ∧ p ≤ n ∧ n ≤ 70368744177664 ∧ lo ≤ r ∧ ∀ ad, A = some ad → lo ≤ ad.block

section
variable {w w' : World} {t : TypeId} {bs r : Nat} {l : List UInt8} {p : Nat} {q : Int}
theorem Rdr.lt (h : Rdr w t bs r l p q) : r < w.heap.size := by
  obtain ⟨A, n, c, h, _⟩ := h
  exact h.lt
theorem Rdr.keep (h : Rdr w t bs r l p q) (hk : ∀ k, bs ≤ k → k ≤ r → w'.heap[k]? = w.heap[k]?) : Rdr w' t bs r l p q := by
  obtain ⟨A, n, c, h, hs, hp, hn, hlo, had⟩ := h
  exact ⟨A, n, c, h.keep (hk r hlo (Nat.le_refl _)), hs.keep_from had (fun k h1 h2 => hk k h1 (by omega)), hp, hn, hlo, had⟩
theorem Rdr.only {s : Nat} (h : Rdr w t bs r l p q) (ho : Only s w w') (hs : r < s ∨ s < bs) : Rdr w' t bs r l p q :=
  h.keep fun k h1 h2 => ho.heap (by have := h.lt; omega) (by omega)
theorem Rdr.below {B : Nat} (h : Rdr w t bs r l p q) (ho : Below B w w') (hs : r < B) : Rdr w' t bs r l p q :=
  h.keep fun k _ hk => ho.block k (by omega)
theorem Rdr.then_ (h : Rdr w t bs r l p q) (ho : Below w.heap.size w w') : Rdr w' t bs r l p q := h.below ho h.lt
end

end Go.Proofs.YtjpkemamfccfdaaGreatDoor
/- pack's pieces: what a row of bytes begins with, as dec tells it. -/
namespace Go.Proofs.YtjpkemamfccfdaaGreatDoor
open Go.RowKit

/-- What pieces answers: nought and nought where dec finds nothing. -/
def pcs (l : List UInt8) : Nat × Nat := (dec 0 0 l).getD (0, 0)

theorem pow7 (k : Nat) : (2 : Nat) ^ (7 * k) = 128 ^ k := by rw [Nat.pow_mul]

theorem or_shift {m bb k : Nat} (hm : m < 128 ^ k) (h : k < 9 ∨ (k = 9 ∧ bb % 128 ≤ 1)) :
    bits .or .u64 (m : Int) (IntKind.u64.wrap ((bb : Int) % 128 * 2 ^ (7 * k))) = ((m + bb % 128 * 128 ^ k : Nat) : Int) := by
  have hlt : bb % 128 * 128 ^ k < 18446744073709551616 ∧ (128 : Nat) ^ k ≤ 9223372036854775808 := by
    rcases h with h | ⟨rfl, h⟩
    · have h2 : (128 : Nat) ^ k ≤ 128 ^ 8 := Nat.pow_le_pow_right (by omega) (by omega)
      have e8 : (128 : Nat) ^ 8 = 72057594037927936 := by decide
      have h1 : bb % 128 * 128 ^ k ≤ 127 * 128 ^ k := Nat.mul_le_mul_right _ (by omega)
      omega
    · have e9 : (128 : Nat) ^ 9 = 9223372036854775808 := by decide
      rw [e9]
      have h1 : bb % 128 * 9223372036854775808 ≤ 1 * 9223372036854775808 := Nat.mul_le_mul_right _ h
      omega
  have e : ((bb : Int) % 128 * 2 ^ (7 * k)) = ((bb % 128 * 128 ^ k : Nat) : Int) := by
    rw [← pow7]; simp
  rw [e, IntKind.wrap_u64, Int.emod_eq_of_lt (by omega) (by omega), u64_or_nat _ _ (by omega) hlt.1]
  congr 1
  rw [Nat.or_comm, Nat.add_comm, ← pow7]
  refine nat_join (7 * k) _ _ (by simp) (by rw [pow7]; exact hm)

def PcRel (l : List UInt8) (u i : Value) : Prop :=
  ∃ (k m : Nat) (x : Int), i = .int .i64 (k : Int) ∧ u = .int .u64 x ∧ k ≤ 10 ∧ k ≤ l.length ∧ (k < 10 → x = (m : Int) ∧ m < 128 ^ k) ∧ dec 0 0 l = dec k m (l.drop k)

theorem pc_step {l : List UInt8} {k m bb : Nat} {y : Int} (hk : k < 10) (hl : k < l.length) (hb : l[k].toNat = bb) (hbig : 128 ≤ bb) (hm : m < 128 ^ k) (hd : dec 0 0 l = dec k m (l.drop k))
    (hy : k < 9 → y = ((m + bb % 128 * 128 ^ k : Nat) : Int)) : PcRel l (.int .u64 y) (.int .i64 ((k : Int) + 1)) := by
  refine ⟨k + 1, m + (bb - 128) * 128 ^ k, y, by go_num, rfl, by omega, by omega, fun h => ?_, ?_⟩
  · have := l[k].toNat_lt
    rw [hy (by omega), show bb % 128 = bb - 128 from by omega]
    refine ⟨rfl, ?_⟩
    have h1 : (bb - 128) * 128 ^ k ≤ 127 * 128 ^ k := Nat.mul_le_mul_right _ (by omega)
    rw [Nat.pow_succ]; omega
  · rw [hd, List.drop_eq_getElem_cons hl]
    simp only [dec, hb]
    rw [if_neg (by omega), if_pos hbig]

theorem pc_good {l : List UInt8} {k m bb : Nat} (hk : k < 10) (hl : k < l.length) (hb : l[k].toNat = bb) (hbig : bb < 128) (hd : dec 0 0 l = dec k m (l.drop k))
    (h1 : ¬((0 < k ∧ bb = 0) ∨ (k = 9 ∧ 1 < bb))) : pcs l = (m + bb % 128 * 128 ^ k, k + 1) := by
  unfold pcs
  rw [hd, List.drop_eq_getElem_cons hl]
  simp only [dec, hb]
  rw [if_neg (by omega), if_neg (by omega), if_neg h1, show bb % 128 = bb from by omega]
  rfl
theorem pc_bad {l : List UInt8} {k m bb : Nat} (hk : k < 10) (hl : k < l.length) (hb : l[k].toNat = bb) (hbig : bb < 128) (hd : dec 0 0 l = dec k m (l.drop k))
    (h1 : (0 < k ∧ bb = 0) ∨ (k = 9 ∧ 1 < bb)) : pcs l = (0, 0) := by
  unfold pcs
  rw [hd, List.drop_eq_getElem_cons hl]
  simp only [dec, hb]
  rw [if_neg (by omega), if_neg (by omega), if_pos h1]
  rfl
theorem ret_pcs {l : List UInt8} {a b : Nat} (h : pcs l = (a, b)) : Ending.returned (.tuple #[.int .u64 (a : Int), .int .i64 (b : Int)]) = .returned (.tuple #[.int .u64 ((pcs l).1 : Int), .int .i64 ((pcs l).2 : Int)]) := by rw [h]

end Go.Proofs.YtjpkemamfccfdaaGreatDoor
/- The reader's methods: At, Wrong, End, Fail. -/
namespace Go.Proofs.YtjpkemamfccfdaaGreatDoor
open Go.RowKit

section
variable {w : World} {bs r p : Nat} {l : List UInt8} {q : Int}

/-- What End answers. -/
def endOf (l : List UInt8) (p : Nat) (q : Int) : Int := if q ≠ 0 then q else if p < l.length then 7 else 0

/-- The place and what is wrong behind Fail. -/
def failTo (p : Nat) (q a : Int) : Nat × Int := if q ≠ 0 ∨ a < 0 ∨ (p : Int) < a then (p, q) else (a.toNat, 7)

theorem Rdr.put {t : TypeId} {w' : World} {p' : Nat} {q' : Int} (h : Rdr w t bs r l p q) (hp : p' ≤ p) (h1 : w' = (w.setCell ⟨r, 2, none⟩ (.int .i64 q')).setCell ⟨r, 1, none⟩ (.int .i64 (p' : Int))) : Rdr w' t bs r l p' q' := by
  obtain ⟨A, n, c, ho, hs, hpn, hn, hlo, had⟩ := h
  subst h1
  refine ⟨A, n, c, ?_, hs.keep (fun k hk => ?_), by omega, hn, hlo, had⟩
  · have := (ho.put 2 (.int .i64 q')).put 1 (.int .i64 (p' : Int))
    simpa using this
  · rw [Below.heap_setCell _ _ _ _ (by simp; omega), Below.heap_setCell _ _ _ _ (by simp; omega)]

end
end Go.Proofs.YtjpkemamfccfdaaGreatDoor
/- What a reader's calls answer, and where they leave it: plain functions on rows of bytes. -/
namespace Go.Proofs.YtjpkemamfccfdaaGreatDoor

/-- Num: the answer, the place, what is wrong. -/
def rNum (l : List UInt8) (p : Nat) (q : Int) : Int × Nat × Int :=
  if q ≠ 0 then (0, p, q) else match dec 0 0 (l.drop p) with
    | none => (0, p, 7)
    | some (v, k) => (zag v, p + k, q)
def rIn (l : List UInt8) (p : Nat) (q lo hi : Int) : Int × Nat × Int :=
  if (rNum l p q).2.2 ≠ 0 then (0, (rNum l p q).2) else if (rNum l p q).1 < lo ∨ hi < (rNum l p q).1 then (0, p, 7) else rNum l p q
def rText (l : List UInt8) (p : Nat) (q most : Int) : List UInt8 × Nat × Int :=
  if (rIn l p q 0 most).2.2 ≠ 0 then ([], (rIn l p q 0 most).2) else if (l.length : Int) - (rIn l p q 0 most).2.1 < (rIn l p q 0 most).1 then ([], p, 7)
  else ((l.drop (rIn l p q 0 most).2.1).take (rIn l p q 0 most).1.toNat, (rIn l p q 0 most).2.1 + (rIn l p q 0 most).1.toNat, (rIn l p q 0 most).2.2)

theorem rNum_bad {l : List UInt8} {p : Nat} {q : Int} (h : q ≠ 0) : rNum l p q = (0, p, q) := by unfold rNum; rw [if_pos h]
theorem rNum_none {l : List UInt8} {p : Nat} (h : dec 0 0 (l.drop p) = none) : rNum l p 0 = (0, p, 7) := by unfold rNum; rw [if_neg (by simp), h]
theorem rNum_some {l : List UInt8} {p v k : Nat} (h : dec 0 0 (l.drop p) = some (v, k)) : rNum l p 0 = (zag v, p + k, 0) := by unfold rNum; rw [if_neg (by simp), h]

/-- The place stays within the bytes; a number within its bounds; behind an error the answer is nought. -/
theorem rNum_facts {l : List UInt8} {p : Nat} {q : Int} (hp : p ≤ l.length) :
    (rNum l p q).2.1 ≤ l.length ∧ p ≤ (rNum l p q).2.1 ∧ -9223372036854775808 ≤ (rNum l p q).1 ∧ (rNum l p q).1 ≤ 9223372036854775807 ∧ ((rNum l p q).2.2 ≠ 0 → (rNum l p q).1 = 0 ∧ (rNum l p q).2.1 = p) ∧ ((rNum l p q).2.2 = 0 → q = 0 ∧ p < (rNum l p q).2.1) := by
  by_cases hq : q = 0
  · subst hq
    cases hd : dec 0 0 (l.drop p) with
    | none => rw [rNum_none hd]; exact ⟨hp, Nat.le_refl _, by simp, by simp, fun _ => ⟨rfl, rfl⟩, fun h => absurd h (by simp)⟩
    | some vk =>
      obtain ⟨v, k⟩ := vk
      rw [rNum_some hd]
      obtain ⟨h1, h2, h3, _⟩ := dec_some hd
      have h4 := zag_in (dec_lt hd (by simp))
      rw [List.length_drop] at h2
      exact ⟨by show p + k ≤ _; omega, by show p ≤ p + k; omega, h4.1, h4.2, fun h => absurd rfl h, fun _ => ⟨rfl, by show p < p + k; omega⟩⟩
  · rw [rNum_bad hq]
    exact ⟨hp, Nat.le_refl _, by simp, by simp, fun _ => ⟨rfl, rfl⟩, fun h => absurd h hq⟩

theorem rIn_facts {l : List UInt8} {p : Nat} {q lo hi : Int} (hp : p ≤ l.length) :
    (rIn l p q lo hi).2.1 ≤ l.length ∧ p ≤ (rIn l p q lo hi).2.1 ∧ -9223372036854775808 ≤ (rIn l p q lo hi).1 ∧ (rIn l p q lo hi).1 ≤ 9223372036854775807 ∧ ((rIn l p q lo hi).2.2 ≠ 0 → (rIn l p q lo hi).1 = 0 ∧ (rIn l p q lo hi).2.1 = p) ∧
      ((rIn l p q lo hi).2.2 = 0 → q = 0 ∧ p < (rIn l p q lo hi).2.1 ∧ lo ≤ (rIn l p q lo hi).1 ∧ (rIn l p q lo hi).1 ≤ hi) := by
  obtain ⟨a, b, c, d, e, f⟩ := rNum_facts (q := q) hp
  unfold rIn
  split
  · rename_i h
    obtain ⟨e1, e2⟩ := e h
    exact ⟨a, b, by simp, by simp, fun _ => ⟨rfl, e2⟩, fun h' => absurd h' h⟩
  · rename_i h
    split
    · exact ⟨hp, Nat.le_refl _, by simp, by simp, fun _ => ⟨rfl, rfl⟩, fun h' => absurd h' (by simp)⟩
    · rename_i h2
      have := f (by omega)
      exact ⟨a, b, c, d, fun h' => absurd h' h, fun _ => ⟨this.1, this.2, by omega, by omega⟩⟩

theorem rText_facts {l : List UInt8} {p : Nat} {q most : Int} (hp : p ≤ l.length) :
    (rText l p q most).2.1 ≤ l.length ∧ p ≤ (rText l p q most).2.1 ∧ ((rText l p q most).2.2 ≠ 0 → (rText l p q most).1 = [] ∧ (rText l p q most).2.1 = p) := by
  obtain ⟨a, b, c, d, e, f⟩ := rIn_facts (q := q) (lo := 0) (hi := most) hp
  unfold rText
  split
  · rename_i h
    exact ⟨a, b, fun _ => ⟨rfl, (e h).2⟩⟩
  · rename_i h
    obtain ⟨f1, f2, f3, f4⟩ := f (by omega)
    split
    · exact ⟨hp, Nat.le_refl _, fun _ => ⟨rfl, rfl⟩⟩
    · rename_i h2
      refine ⟨?_, ?_, fun h' => absurd h' h⟩
      · show (rIn l p q 0 most).2.1 + (rIn l p q 0 most).1.toNat ≤ l.length
        omega
      · show p ≤ (rIn l p q 0 most).2.1 + (rIn l p q 0 most).1.toNat
        omega
end Go.Proofs.YtjpkemamfccfdaaGreatDoor
/- The reader's Num and In. -/
namespace Go.Proofs.YtjpkemamfccfdaaGreatDoor
open Go.RowKit

theorem half_wrap {v : Nat} (h : v < 18446744073709551616) : wrap64 (IntKind.u64.wrap ((v : Int) / 2)) = (v : Int) / 2 := by
  rw [IntKind.wrap_u64]; unfold wrap64; omega

section
variable {w : World} {bs r p : Nat} {l : List UInt8} {q : Int}

theorem Rdr.move {t : TypeId} {w' : World} {p' : Nat} (h : Rdr w t bs r l p q) (hp : p' ≤ l.length) (h1 : w' = w.setCell ⟨r, 1, none⟩ (.int .i64 (p' : Int))) : Rdr w' t bs r l p' q := by
  obtain ⟨A, n, c, ho, hs, hpn, hn, hlo, had⟩ := h
  subst h1
  have hl := hs.len
  rw [bv_len] at hl
  refine ⟨A, n, c, ?_, hs.keep (fun k hk => ?_), by omega, hn, hlo, had⟩
  · have := ho.put 1 (.int .i64 (p' : Int))
    simpa using this
  · rw [Below.heap_setCell _ _ _ _ (by simp; omega)]
theorem Rdr.drewN {t : TypeId} (h : Rdr w t bs r l p q) (k : Nat) : Rdr (w.drewN k) t bs r l p q := h

end
end Go.Proofs.YtjpkemamfccfdaaGreatDoor
/- The reader's In and Text. -/
namespace Go.Proofs.YtjpkemamfccfdaaGreatDoor
open Go.RowKit

theorem Only.of_drewN {r k : Nat} {w w' : World} (h : Only r (w.drewN k) w') : Only r w w' := ⟨h.os, h.tape, h.output, h.size, h.block⟩

section
variable {w : World} {bs r p : Nat} {l : List UInt8} {q : Int}

theorem Rdr.cells {t : TypeId} (h : Rdr w t bs r l p q) : ∃ A n c, w.cell? ⟨r, 0, none⟩ = some (.slice A n c) ∧ w.cell? ⟨r, 1, none⟩ = some (.int .i64 (p : Int)) ∧ w.cell? ⟨r, 2, none⟩ = some (.int .i64 q) ∧
    w.frozen? ⟨r, 0, none⟩ = false ∧ w.frozen? ⟨r, 1, none⟩ = false ∧ w.frozen? ⟨r, 2, none⟩ = false ∧ Sl w r A n c (bv l) ∧ l.length = n ∧ p ≤ n ∧ n ≤ 70368744177664 := by
  obtain ⟨A, n, c, ho, hs, hp, hn, _, _⟩ := h
  have hl := hs.len
  rw [bv_len] at hl
  exact ⟨A, n, c, ho.cell 0, ho.cell 1, ho.cell 2, ho.frozen 0, ho.frozen 1, ho.frozen 2, hs, hl, hp, hn⟩

end
end Go.Proofs.YtjpkemamfccfdaaGreatDoor
/- Quoted texts: the project's, with all that its elder users take. -/
/- Quoted texts: the reference's. -/
namespace Go.Proofs.YtjpkemamfccfdaaGreatDoor
set_option linter.unusedVariables false
open Go.RowKit

theorem hexd_big {x : Nat} (h : 10 ≤ x) (h2 : x < 16) : ((hexd x).toNat : Int) = 97 + x - 10 := by
  unfold hexd
  rw [if_neg (by omega)]
  have := ofNat_toNat (show 87 + x < 256 by omega)
  rw [this]; omega
theorem hexd_small {x : Nat} (h : x < 10) : ((hexd x).toNat : Int) = 48 + x := by
  unfold hexd
  rw [if_pos h]
  have := ofNat_toNat (show 48 + x < 256 by omega)
  rw [this]; omega
theorem hex_any {i : Int} {x : Nat} (hi : i = (x : Int)) (hx : x < 16) (w : World) : Calls Tryz.prog 59 #[.int .u8 i] w fun e w' => e = .returned (.int .u8 ((hexd x).toNat : Int)) ∧ w' = w := by
  subst hi
  by_cases h : x < 10
  · have HH := Lib.hid (hexd_small h)
    go_enter Tryz.func59, Tryz.ntmps59
    go_wp2_with fail
    go_ret
    exact ⟨ret_int (by have := HH.out; omega), rfl⟩
  · have HH := Lib.hid (hexd_big (by omega) hx)
    go_enter Tryz.func59, Tryz.ntmps59
    go_wp2_with fail
    go_ret
    exact ⟨ret_int (by have := HH.out; omega), rfl⟩

theorem byte_ways2 (c : UInt8) : ((c.toNat : Int) < 32) ∨ (32 ≤ (c.toNat : Int) ∧ 126 < (c.toNat : Int)) ∨ ((32 ≤ (c.toNat : Int) ∧ (c.toNat : Int) ≤ 126) ∧ ((c.toNat : Int) == 34) = true) ∨ ((32 ≤ (c.toNat : Int) ∧ (c.toNat : Int) ≤ 126) ∧ ((c.toNat : Int) == 34) = false ∧ ((c.toNat : Int) == 92) = true) ∨
    ((32 ≤ (c.toNat : Int) ∧ (c.toNat : Int) ≤ 126) ∧ ((c.toNat : Int) == 34) = false ∧ ((c.toNat : Int) == 92) = false) := by
  simp only [beq_eq_false_iff_ne, beq_iff_eq]; omega

set_option maxRecDepth 100000 in
set_option maxHeartbeats 1600000 in
theorem refquote_any (s : ByteArray) (hs : s.size ≤ 1000000) (w : World) :
    Calls Tryz.prog 40 #[.string s] w fun e w' => e = .returned (.string ⟨(quoteB s.data.toList).toArray⟩) ∧ Below w.heap.size w w' := by
  have hl := data_len s
  generalize hL : s.data.toList = l at *
  have HD : Hid (∀ k (h : k < s.size), l[k]? = some s[k]) := by
    show ∀ k (h : k < s.size), l[k]? = some s[k]
    subst hL; exact fun k h => data_at h
  have HL := Lib.hid hl
  have hstart : QRel w l (.slice (some ⟨w.heap.size, 0, none⟩) 1 1) (.int .i64 0) (w.alloc (.cells #[.int .u8 34] 5)) :=
    ⟨0, 1, 1, _, by omega, rfl, rfl, by simpa [quoteL] using own_lit w 34, (Below.refl _ _).alloc (Nat.le_refl _) _⟩
  have HS := Lib.hid hstart
  clear hl hL hstart
  go_enter Tryz.func40, Tryz.ntmps40
  go_wp2_with fail
  go_loopw [3, 4] (fun o i wr => QRel w l o i wr) (fun _ i _ => s.size - (intOf i).toNat)
  case atStart => exact HS.out
  case round =>
    obtain ⟨k, n, c, A, hk, rfl, rfl, hown, hbel⟩ := hrel
    have hn : n ≤ 3000001 := by
      have := hown.1
      have h2 := quoteL_len (l.take k)
      have h3 := HL.out
      simp [bv_len] at this h2
      omega
    have hkl : k ≤ s.size := by have := HL.out; omega
    by_cases hlt : k < s.size
    · have hc := HD.out k hlt
      have hi2 : 0 ≤ (k : Int) ∧ (k : Int) < s.size := by omega
      generalize hcc : s[k] = b at *
      have HC := Lib.hid hc
      clear hc
      rcases byte_ways2 b with a | a | a | a | a
      case inr.inr.inr.inr =>
        obtain ⟨A2, c2, w2, hap, hown2, hbel2⟩ := append_bytes hown [b] (m := 1) rfl (by omega) hbel.size
        have HO2 := Lib.hid hown2
        have HB2 := Lib.hid (hbel.trans hbel2)
        have HODD : Hid (odd8 b = false) := odd_not (by obtain ⟨a1, a2, a3⟩ := a; simp only [beq_eq_false_iff_ne] at a2 a3; omega)
        have HAP := Lib.hid hap
        clear hown hbel hown2 hbel2 hk hap
        go_wp2_with (at_builtin; refine wpList_append_run rfl _ _ _ _ rfl rfl rfl HAP.out ?_)
        go_roundw
        case rel =>
          refine ⟨k + 1, n + 1, c2, A2, by have := HL.out; omega, by go_num, rfl, ?_, HB2.out⟩
          have e : quoteL (l.take (k + 1)) = quoteL (l.take k) ++ [b] := by rw [quoteL_step HC.out]; unfold quoteC; rw [HODD.out]; rfl
          rw [e, ← List.append_assoc]
          exact HO2.out
        case measure => simp [intOf]; omega
      all_goals
        have HODD : Hid (odd8 b = true) := odd_of (by first | omega | (simp only [beq_iff_eq] at a; omega))
        have hb8 : b.toNat < 256 := b.toNat_lt
        have hb1 : bits .and .u8 (b.toNat : Int) 15 = (b.toNat : Int) % 16 := u8_and15 (by omega) (by omega)
        have HX := Lib.hid (fun W => hex_any (i := (b.toNat : Int) / 16) (x := b.toNat / 16) (by omega) (by omega) W)
        have HY := Lib.hid (fun W => hex_any (i := (b.toNat : Int) % 16) (x := b.toNat % 16) (by omega) (by omega) W)
        obtain ⟨A2, c2, w2, hap, hown2, hbel2⟩ := append_bytes (w := wr) (base := w.heap.size) (A := A) (n := n) (c := c) (l := [34] ++ quoteL (l.take k)) hown [92, hexd (b.toNat / 16), hexd (b.toNat % 16)] (m := 3) rfl (by omega) hbel.size
        have HO2 := Lib.hid hown2
        have HB2 := Lib.hid (hbel.trans hbel2)
        have HAP := Lib.hid hap
        clear hown hbel hown2 hbel2 hk hap hb8
        go_wp2_with fail
        refine (HX.out _).mono ?_
        rintro e w3 ⟨rfl, rfl⟩
        go_wp2_with fail
        refine (HY.out _).mono ?_
        rintro e w3 ⟨rfl, rfl⟩
        go_wp2_with (at_builtin; refine wpList_append_run rfl _ _ _ _ rfl rfl rfl HAP.out ?_)
        go_roundw
        case rel =>
          refine ⟨k + 1, n + 3, c2, A2, by have := HL.out; omega, by go_num, rfl, ?_, HB2.out⟩
          have e : quoteL (l.take (k + 1)) = quoteL (l.take k) ++ [92, hexd (b.toNat / 16), hexd (b.toNat % 16)] := by rw [quoteL_step HC.out]; unfold quoteC; rw [HODD.out]; rfl
          rw [e, ← List.append_assoc]
          exact HO2.out
        case measure => simp [intOf]; omega
    · obtain rfl : k = s.size := by omega
      obtain ⟨A2, c2, w2, hap, hown2, hbel2⟩ := append_bytes hown [34] (m := 1) rfl (by omega) hbel.size
      have e : [34] ++ quoteL (l.take s.size) ++ [34] = quoteB l := by rw [← HL.out, List.take_length]; rfl
      rw [e] at hown2
      have hcv := conv_text Tryz.underlying86 Tryz.underlying5 Tryz.underlying9 (Sl.of_own hown2)
      have HB2 := Lib.hid (hbel.trans hbel2)
      have HAP := Lib.hid hap
      clear hown hbel hown2 hbel2 hk hap e
      go_wp2_with (at_builtin; refine wpList_append_run rfl _ _ _ _ rfl rfl rfl HAP.out ?_)
      go_ret
      exact ⟨rfl, HB2.out⟩
end Go.Proofs.YtjpkemamfccfdaaGreatDoor
/- The reference's digits: the same as the library's numeral. -/
namespace Go.Proofs.YtjpkemamfccfdaaGreatDoor
set_option linter.unusedVariables false
open Go.RowKit

def DRel (u0 : Nat) (w : World) (u s : Value) (wr : World) : Prop :=
  ∃ (m : Nat) (l : List UInt8), m < 18446744073709551616 ∧ u = .int .u64 (m : Int) ∧ s = .string ⟨l.toArray⟩ ∧ Lib.decDigits m ++ l = Lib.decDigits u0 ∧ Below w.heap.size w wr

set_option maxRecDepth 100000 in
set_option maxHeartbeats 1600000 in
theorem digits_any (n : Int) (h0 : -9223372036854775808 ≤ n) (h1 : n ≤ 9223372036854775807) (w : World) :
    Calls Tryz.prog 39 #[.int .i64 n] w fun e w' => e = .returned (.string ⟨(Lib.itoa n).toArray⟩) ∧ Below w.heap.size w w' := by
  by_cases hneg : n < 0
  · obtain ⟨ku, m0, hw1, hw2, hm0, hm1⟩ : ∃ (ku : Int) (m0 : Nat), IntKind.u64.wrap n = ku ∧ IntKind.u64.wrap (-ku) = (m0 : Int) ∧ m0 = n.natAbs ∧ m0 < 18446744073709551616 := by
      refine ⟨n + 18446744073709551616, n.natAbs, ?_, ?_, rfl, by omega⟩
      · rw [IntKind.wrap_u64]; omega
      · rw [IntKind.wrap_u64]; omega
    have HN : Hid (Lib.itoa n = 45 :: Lib.decDigits m0) := by show _ = _; unfold Lib.itoa; rw [if_pos hneg, hm0]
    have HM := Lib.hid hm1
    have HLEN := Lib.hid (dec_len hm1)
    clear hm0 hm1
    go_enter Tryz.func39, Tryz.ntmps39
    go_wp2_with fail
    go_loopw [3, 4] (fun u s wr => DRel m0 w u s wr) (fun u _ _ => (intOf u).toNat)
    case atStart => exact ⟨m0, [], HM.out, rfl, rfl, by simp, Below.refl _ _⟩
    case round =>
      obtain ⟨m, l, hm, rfl, rfl, hd, hb⟩ := hrel
      have HD := Lib.hid hd
      have HB := Lib.hid hb
      clear hd hb
      have hx : ((UInt8.ofNat (48 + m % 10)).toNat : Int) = 48 + (m : Int) % 10 := by
        have := ofNat_toNat (show 48 + m % 10 < 256 by omega)
        rw [this]; omega
      have hcv : (convert 86 9 (.slice (some ⟨wr.heap.size, 0, none⟩) 1 1)).run Tryz.prog (wr.alloc (.cells #[.int .u8 (48 + (m : Int) % 10)] 5)) = .ok (.string ⟨[UInt8.ofNat (48 + m % 10)].toArray⟩) (wr.alloc (.cells #[.int .u8 (48 + (m : Int) % 10)] 5)) := by
        have := conv_text Tryz.underlying86 Tryz.underlying5 Tryz.underlying9 (Sl.lit wr 5 (bv [UInt8.ofNat (48 + m % 10)]) 1 rfl (by simp [maxLen]))
        simp only [bv, List.map_cons, List.map_nil, hx] at this
        exact this
      have hll : l.length ≤ 21 := by
        have h1 := congrArg List.length HD.out
        have h2 := HLEN.out
        simp at h1
        omega
      have HS := Lib.hid (show Lib.decDigits m = (if m < 10 then [] else Lib.decDigits (m / 10)) ++ [UInt8.ofNat (48 + m % 10)] by
        split
        · rename_i h; rw [dec_small h]; rfl
        · rename_i h; exact dec_big h)
      have HX := Lib.hid hx
      clear hx
      generalize hdd : UInt8.ofNat (48 + m % 10) = dd at *
      clear hdd
      have HB2 := Lib.hid (HB.out.alloc HB.out.size (.cells #[.int .u8 (48 + (m : Int) % 10)] 5))
      by_cases hs : m < 10
      · have hz : (m : Int) / 10 = 0 := by omega
        go_wp2_with fail
        go_ret
        refine ⟨?_, HB2.out⟩
        have e := HS.out
        rw [if_pos hs] at e
        rw [HN.out, ← HD.out, e]
        rw [show (⟨#[dd]⟩ : ByteArray) = ⟨[dd].toArray⟩ from rfl, str_add]
        try rw [show (⟨#[45]⟩ : ByteArray) = ⟨[45].toArray⟩ from rfl, str_add]
        rfl
      · have hz : ((m : Int) / 10 == 0) = false := by rw [beq_eq_false_iff_ne]; omega
        go_wp2_with fail
        go_roundw
        case rel =>
          have e := HS.out
          rw [if_neg hs] at e
          refine ⟨m / 10, dd :: l, by omega, by go_num, ?_, ?_, HB2.out⟩
          · rw [show (⟨#[dd]⟩ : ByteArray) = ⟨[dd].toArray⟩ from rfl, str_add]
            rfl
          · rw [← HD.out, e]; simp
        case measure => simp [intOf]; omega
  · have HN : Hid (Lib.itoa n = Lib.decDigits n.toNat) := by show _ = _; unfold Lib.itoa; rw [if_neg hneg]
    have hm1 : n.toNat < 18446744073709551616 := by omega
    have hnn : (n.toNat : Int) = n := by omega
    generalize n.toNat = m0 at *
    subst hnn
    have HM := Lib.hid hm1
    have HLEN := Lib.hid (dec_len hm1)
    clear hm1
    go_enter Tryz.func39, Tryz.ntmps39
    go_wp2_with fail
    go_loopw [3, 4] (fun u s wr => DRel m0 w u s wr) (fun u _ _ => (intOf u).toNat)
    case atStart => exact ⟨m0, [], HM.out, rfl, rfl, by simp, Below.refl _ _⟩
    case round =>
      obtain ⟨m, l, hm, rfl, rfl, hd, hb⟩ := hrel
      have HD := Lib.hid hd
      have HB := Lib.hid hb
      clear hd hb
      have hx : ((UInt8.ofNat (48 + m % 10)).toNat : Int) = 48 + (m : Int) % 10 := by
        have := ofNat_toNat (show 48 + m % 10 < 256 by omega)
        rw [this]; omega
      have hcv : (convert 86 9 (.slice (some ⟨wr.heap.size, 0, none⟩) 1 1)).run Tryz.prog (wr.alloc (.cells #[.int .u8 (48 + (m : Int) % 10)] 5)) = .ok (.string ⟨[UInt8.ofNat (48 + m % 10)].toArray⟩) (wr.alloc (.cells #[.int .u8 (48 + (m : Int) % 10)] 5)) := by
        have := conv_text Tryz.underlying86 Tryz.underlying5 Tryz.underlying9 (Sl.lit wr 5 (bv [UInt8.ofNat (48 + m % 10)]) 1 rfl (by simp [maxLen]))
        simp only [bv, List.map_cons, List.map_nil, hx] at this
        exact this
      have hll : l.length ≤ 21 := by
        have h1 := congrArg List.length HD.out
        have h2 := HLEN.out
        simp at h1
        omega
      have HS := Lib.hid (show Lib.decDigits m = (if m < 10 then [] else Lib.decDigits (m / 10)) ++ [UInt8.ofNat (48 + m % 10)] by
        split
        · rename_i h; rw [dec_small h]; rfl
        · rename_i h; exact dec_big h)
      have HX := Lib.hid hx
      clear hx
      generalize hdd : UInt8.ofNat (48 + m % 10) = dd at *
      clear hdd
      have HB2 := Lib.hid (HB.out.alloc HB.out.size (.cells #[.int .u8 (48 + (m : Int) % 10)] 5))
      by_cases hs : m < 10
      · have hz : (m : Int) / 10 = 0 := by omega
        go_wp2_with fail
        go_ret
        refine ⟨?_, HB2.out⟩
        have e := HS.out
        rw [if_pos hs] at e
        rw [HN.out, ← HD.out, e]
        rw [show (⟨#[dd]⟩ : ByteArray) = ⟨[dd].toArray⟩ from rfl, str_add]
        try rw [show (⟨#[45]⟩ : ByteArray) = ⟨[45].toArray⟩ from rfl, str_add]
        rfl
      · have hz : ((m : Int) / 10 == 0) = false := by rw [beq_eq_false_iff_ne]; omega
        go_wp2_with fail
        go_roundw
        case rel =>
          have e := HS.out
          rw [if_neg hs] at e
          refine ⟨m / 10, dd :: l, by omega, by go_num, ?_, ?_, HB2.out⟩
          · rw [show (⟨#[dd]⟩ : ByteArray) = ⟨[dd].toArray⟩ from rfl, str_add]
            rfl
          · rw [← HD.out, e]; simp
        case measure => simp [intOf]; omega
end Go.Proofs.YtjpkemamfccfdaaGreatDoor
/- The texts of values: the reference's. -/
namespace Go.Proofs.YtjpkemamfccfdaaGreatDoor
set_option linter.unusedVariables false
open Go.RowKit

set_option maxHeartbeats 3200000 in
theorem vtextof_any (k n : Int) (s : ByteArray) (hn : -9223372036854775808 ≤ n ∧ n ≤ 9223372036854775807) (hs : s.size ≤ 1000000) (w : World) :
    Calls Tryz.prog 18 #[.agg #[.int .i64 k, .int .i64 n, .string s]] w fun e w' => e = .returned (.string ⟨(showB ⟨k, n, s⟩).toArray⟩) ∧ Below w.heap.size w w' := by
  have hr := refright_any k n s (by unfold maxLen; omega)
  have HN := Lib.hid hn
  have hq := refquote_any s hs
  have HQ := Lib.hid hq
  have HS := Lib.hid (data_len s)
  clear hn hq
  by_cases h1 : RightV k n s.data.toList
  · rw [decide_eq_true h1] at hr
    have HR := Lib.hid hr
    have H1 : Hid (Vl.right ⟨k, n, s⟩) := h1
    have hkk : k = 1 ∨ k = 2 ∨ k = 3 ∨ k = 4 ∨ k = 5 := by
      rcases kind_cases k with h | h | h | h | h | h
      · exact .inl h
      · exact .inr (.inl h)
      · exact .inr (.inr (.inl h))
      · exact .inr (.inr (.inr (.inl h)))
      · exact .inr (.inr (.inr (.inr h)))
      · exact absurd h1 (rv_none h)
    clear hr h1
    rcases hkk with rfl | rfl | rfl | rfl | rfl
    all_goals
      go_enter Tryz.func18, Tryz.ntmps18
      go_wp2_with fail
      refine (HR.out _).mono ?_
      rintro e w1 ⟨rfl, hb1⟩
      have b1 := ((Bx.made w _ n s).then_ hb1).c3
      have D1 := Lib.hid (Below.lit hb1)
      clear hb1
    · by_cases hn1 : n = 1
      · subst hn1
        go_wp2_with fail
        go_ret
        exact ⟨ret_str (by rw [show1 H1.out]; rfl), D1.out⟩
      · have hf : (n == 1) = false := by rw [beq_eq_false_iff_ne]; exact hn1
        have HF := Lib.hid hf
        clear hn1
        go_wp2_with fail
        go_ret
        exact ⟨ret_str (by rw [show1 H1.out, HF.out]; rfl), D1.out⟩
    · go_wp2_with fail
      refine (digits_any n HN.out.1 HN.out.2 _).mono ?_
      rintro e w2 ⟨rfl, hb2⟩
      have D2 := Lib.hid (below_step D1.out hb2)
      clear hb2
      go_wp2_with fail
      go_ret
      exact ⟨ret_str (by rw [show2 H1.out]), D2.out⟩
    · go_wp2_with fail
      refine (HQ.out _).mono ?_
      rintro e w2 ⟨rfl, hb2⟩
      have D2 := Lib.hid (below_step D1.out hb2)
      clear hb2
      go_wp2_with fail
      go_ret
      exact ⟨ret_str (by rw [show3 H1.out]), D2.out⟩
    · go_wp2_with fail
      refine (digits_any n HN.out.1 HN.out.2 _).mono ?_
      rintro e w2 ⟨rfl, hb2⟩
      have D2 := Lib.hid (below_step D1.out hb2)
      have hlen := Lib.itoa_length_le n HN.out.1 HN.out.2
      have HI := Lib.hid (show (⟨#[64]⟩ : ByteArray) ++ ⟨(Lib.itoa n).toArray⟩ = ⟨(showB ⟨4, n, s⟩).toArray⟩ by
        rw [show4 H1.out, show (⟨#[64]⟩ : ByteArray) = ⟨[64].toArray⟩ from rfl, str_add]; rfl)
      clear hb2
      generalize Lib.itoa n = li at *
      go_wp2_with fail
      go_ret
      exact ⟨ret_str HI.out, D2.out⟩
    · have HI := Lib.hid (show (⟨#[35]⟩ : ByteArray) ++ s = ⟨(showB ⟨5, n, s⟩).toArray⟩ by
        rw [show5 H1.out, show (⟨#[35]⟩ : ByteArray) = ⟨[35].toArray⟩ from rfl, str_add_s]; rfl)
      have hle : ¬ 9223372036854775807 < 1 + s.size := by omega
      go_wp2_with fail
      go_ret
      exact ⟨ret_str HI.out, D1.out⟩
  · rw [decide_eq_false h1] at hr
    have HR := Lib.hid hr
    have H1 : Hid (¬ Vl.right ⟨k, n, s⟩) := h1
    clear hr h1
    go_enter Tryz.func18, Tryz.ntmps18
    go_wp2_with fail
    refine (HR.out _).mono ?_
    rintro e w1 ⟨rfl, hb1⟩
    have D1 := Lib.hid (Below.lit hb1)
    clear hb1
    go_wp2_with fail
    go_ret
    exact ⟨ret_str (by rw [show_wrong H1.out]), D1.out⟩
end Go.Proofs.YtjpkemamfccfdaaGreatDoor
/- Rows of texts: one more, many more, all of them joined. -/
namespace Go.Proofs.YtjpkemamfccfdaaGreatDoor
set_option linter.unusedVariables false
open Go.RowKit

def tv (xs : List (List UInt8)) : List Value := xs.map fun l => Value.string ⟨l.toArray⟩
theorem tv_len (xs : List (List UInt8)) : (tv xs).length = xs.length := List.length_map ..
theorem tv_app (a b : List (List UInt8)) : tv (a ++ b) = tv a ++ tv b := List.map_append
theorem tv_one (x : List UInt8) : tv [x] = [.string ⟨x.toArray⟩] := rfl
theorem tv_cell (xs : List (List UInt8)) : ∀ v ∈ tv xs, v.oneCell' = true := by
  intro v hv
  obtain ⟨l, _, rfl⟩ := List.mem_map.1 hv
  rfl
theorem strinfo : (Tryz.prog.info? 9).map (fun i => (i.zero, i.size, i.bytes)) = some (some (.string ⟨#[]⟩), 1, 16) := by kernel_rfl
/-- A row of texts of the call's own. -/
def TR (w : World) (base : Nat) (A : Option Addr) (n c : Nat) (xs : List (List UInt8)) : Prop := w.ownsRow base 9 1 (.slice A n c) n (tv xs)
section
variable {w w' : World} {base n c : Nat} {A : Option Addr} {xs : List (List UInt8)}
theorem TR.len (h : TR w base A n c xs) : xs.length = n := by
  have := h.1
  rwa [tv_len, Nat.mul_one] at this
theorem TR.nil (w : World) (base : Nat) : TR w base none 0 0 [] := ⟨rfl, .inl ⟨rfl, rfl⟩⟩
theorem TR.sl (h : TR w base A n c xs) : Sl w w.heap.size A n c (tv xs) := Sl.of_own h
theorem TR.lt (h : TR w base A n c xs) : ∀ b, (Value.slice A n c).ownBlock = some b → base ≤ b ∧ b < w.heap.size := World.ownsRow.lt h
theorem TR.below (h : TR w base A n c xs) (hb : Below w.heap.size w w') : TR w' base A n c xs := by
  have hg : w.grownBy w' none := ⟨hb.os, hb.tape, hb.output, hb.size, fun k hk _ => hb.block k hk⟩
  refine World.ownsRow.kept h hg ?_
  cases hv : (Value.slice A n c).ownBlock with
  | none => exact .inl rfl
  | some b => exact .inr (by simp)
theorem TR.less (h : TR w base A n c xs) {b2 : Nat} (hb : b2 ≤ base) : TR w b2 A n c xs := by
  obtain ⟨h1, h2⟩ := h
  refine ⟨h1, ?_⟩
  rcases h2 with h2 | ⟨g, cap, cur, hv, hg, r⟩
  · exact .inl h2
  · exact .inr ⟨g, cap, cur, hv, Nat.le_trans hb hg, r⟩
/-- Its beginning is one, too. -/
theorem TR.take (h : TR w base A n c xs) {m : Nat} (hm : m ≤ n) : TR w base A m c (xs.take m) := by
  have hl := h.len
  obtain ⟨h1, h2⟩ := h
  refine ⟨by rw [tv_len, List.length_take]; omega, ?_⟩
  rcases h2 with ⟨hv, hn⟩ | ⟨g, cap, cur, hv, hg, hh, hnc, hcm, hs, ht⟩
  · injection hv with e1 e2 e3
    exact .inl ⟨by rw [e1, e3, show m = 0 by omega], by omega⟩
  · injection hv with e1 e2 e3
    refine .inr ⟨g, cap, cur, by rw [e1, e3], hg, hh, by omega, hcm, hs, ?_⟩
    rw [Nat.mul_one] at ht ⊢
    unfold tv at ht ⊢
    rw [List.map_take, ← ht, List.take_take, Nat.min_eq_left hm]
theorem TR.push (h : TR w base A n c xs) (x : ByteArray) (hn : n ≤ 1000000) (hbase : base ≤ w.heap.size) (ty : Nat) :
    ∃ A' c' w', (Builtin.append_ #[59, 59] ty #[.slice A n c, .slice (some ⟨w.heap.size, 0, none⟩) 1 1]).run Tryz.prog (w.alloc (.cells #[.string x] 9)) = .ok (.slice A' (n + 1) c') w' ∧
      TR w' base A' (n + 1) c' (xs ++ [bl x]) ∧ Below base w w' := by
  obtain ⟨i, hi, hz, hs, hb⟩ := info_of strinfo
  obtain ⟨A', c', w', r, o, b⟩ := append_cell (ty := ty) (x := .string x) Tryz.underlying59 hi hz rfl hs hb (by omega) rfl h hn hbase
  refine ⟨A', c', w', r, ?_, b⟩
  unfold TR
  rw [tv_app, tv_one, bl_toArray]
  exact o
theorem TR.app {B m c2 : Nat} {A2 : Option Addr} {ys : List (List UInt8)} (h : TR w base A n c xs) (hy : Sl w B A2 m c2 (tv ys)) (hn : n + m ≤ 1000000) (hbase : base ≤ w.heap.size) (ty : Nat) :
    ∃ A' c' w', (Builtin.append_ #[59, 59] ty #[.slice A n c, .slice A2 m c2]).run Tryz.prog w = .ok (.slice A' (n + m) c') w' ∧
      TR w' base A' (n + m) c' (xs ++ ys) ∧ Below base w w' := by
  obtain ⟨i, hi, hz, hs, hb⟩ := info_of strinfo
  obtain ⟨A', c', w', r, o, b, _, _⟩ := append_cells (ty := ty) Tryz.underlying59 hi hz rfl hs hb (by omega) h hy (tv_cell ys) hn hbase
  refine ⟨A', c', w', r, ?_, b⟩
  unfold TR
  rw [tv_app]
  exact o
/-- A literal of so many texts. -/
theorem TR.lit (w : World) (xs : List ByteArray) {n : Nat} (hn : xs.length = n) (h : n ≤ 1000) : TR (w.alloc (.cells (xs.map Value.string).toArray 9)) w.heap.size (some ⟨w.heap.size, 0, none⟩) n n (xs.map bl) := by
  have e : tv (xs.map bl) = xs.map Value.string := by
    unfold tv
    rw [List.map_map]
    refine List.map_congr_left fun x _ => ?_
    show Value.string ⟨(bl x).toArray⟩ = .string x
    rw [bl_toArray]
  unfold TR
  rw [e]
  refine ⟨by simp; omega, .inr ⟨w.heap.size, n, _, rfl, Nat.le_refl _, heap_alloc_new w _, Nat.le_refl _, by unfold maxLen; omega, by simp; omega, ?_⟩⟩
  rw [Nat.mul_one, ← hn]
  show List.take xs.length (xs.map Value.string) = _
  rw [List.take_of_length_le (by simp)]
end
/-- All of them joined. -/
theorem join_row {w : World} {B n c : Nat} {A : Option Addr} {xs : List (List UInt8)} (h : Sl w B A n c (tv xs)) (hB : B ≤ w.heap.size) (hN : n ≤ 1000000) (sep : ByteArray) (hlen : (Lib.join xs (bl sep)).length ≤ 140737488355328) :
    Calls Tryz.prog 24 #[.slice A n c, .string sep] w fun e w' => e = .returned (.string ⟨(Lib.join xs (bl sep)).toArray⟩) ∧ Below w.heap.size w w' := by
  have hl : xs.length = n := by have := h.len; rwa [tv_len] at this
  have hc := h.cap
  unfold maxLen at hc
  rcases h.2.2.2 with h0 | ⟨b, o, e, hb, hcell⟩
  · subst h0
    obtain rfl : xs = [] := List.eq_nil_of_length_eq_zero hl
    exact (Tryz.strings_Join_none A c sep w).mono fun e w' hh => ⟨by rw [hh.1]; rfl, by rw [hh.2]; exact Below.refl _ _⟩
  · subst e
    have e2 : (xs.map fun l => (⟨l.toArray⟩ : ByteArray)).map (fun s => s.data.toList) = xs := by rw [List.map_map]; exact List.map_id' xs
    have := Tryz.strings_Join b o c (xs.map fun l => (⟨l.toArray⟩ : ByteArray)) sep w (fun j x hx => hcell j _ (by
      rw [List.getElem?_map, Option.map_eq_some_iff] at hx
      obtain ⟨l, h1, rfl⟩ := hx
      unfold tv
      rw [List.getElem?_map, h1]
      rfl)) (by omega) (by rw [List.length_map]; have := h.le; omega) (by rw [List.length_map]; have := h.le; omega) (by rw [e2]; exact hlen)
    rw [e2, List.length_map, hl] at this
    exact this
end Go.Proofs.YtjpkemamfccfdaaGreatDoor
/- The texts of a list's elements: the project's texts, over matches, AllOfs, AnyOfs, duties; a target's words by it. -/
namespace Go.Proofs.YtjpkemamfccfdaaGreatDoor
set_option linter.unusedVariables false
open Go.RowKit Go.Sort

theorem tail_take {α : Type} {f : α → List UInt8} {l : List α} {k : Nat} {x : α} (hx : l[k]? = some x) : (l.take (k + 1)).map f = (l.take k).map f ++ [f x] := by
  rw [take_next hx, List.map_append]
  rfl

set_option maxHeartbeats 1600000 in
theorem texts_match {w : World} {R : Nat → Prop} {A : Option Addr} {n c : Nat} {l : List Mat} (h : Ms w R A n c l) (hn : n ≤ 1000) (hf : ∀ x ∈ l, matE x = 0) (ht : Tbl w) :
    Calls Tryz.prog 95 #[.slice A n c, .func (.func 96) #[] #[]] w fun e w' => ∃ A' c', e = .returned (.slice A' n c') ∧ TR w' w.heap.size A' n c' (l.map matT) ∧ Below w.heap.size w w' := by
  have hle := Rw.le h
  have hcap := Rw.cap h
  have HL := Lib.hid (Rw.len h)
  unfold maxLen at hcap
  have H := Lib.hid h
  have HF := Lib.hid hf
  have HT := Lib.hid ht
  clear h hf ht
  go_enter Tryz.func95, Tryz.ntmps95
  go_wp2
  go_loopw [5, 10] (fun o i wr => ∃ (k : Nat) (B : Option Addr) (d : Nat), k ≤ n ∧ o = .slice B k d ∧ i = .int .i64 k ∧ TR wr w.heap.size B k d ((l.take k).map matT) ∧ Below w.heap.size w wr) (fun _ i _ => n - (intOf i).toNat)
  case atStart => exact ⟨0, none, 0, Nat.zero_le _, rfl, rfl, TR.nil _ _, Below.refl _ _⟩
  case round =>
    obtain ⟨k, B, d, hk, rfl, rfl, hr, hb⟩ := hrel
    have HR := Lib.hid hr
    have HB := Lib.hid hb
    clear hr hb
    by_cases hlt : k < n
    · obtain ⟨b, o, x, rfl, hRb, hbl, hx, hok, c0, c1, c2, c3, c4, c5, c6⟩ := (H.out.keep (Kept.all HB.out R) (fun _ h _ => h)).at_ hlt
      have HX := Lib.hid hx
      have HC := Lib.hid (fun W (hb : Below wr.heap.size wr W) => show_match x hok (HF.out x (List.mem_of_getElem? hx)) W (HT.out.then_ (below_step HB.out hb)))
      clear hx
      go_wp2_with (first
        | (go_at_call 96
           refine (HC.out _ (by first | exact al9' _ _ | exact Below.refl _ _)).mono ?_
           rintro e w1 ⟨rfl, hb1⟩
           have HB1 := Lib.hid (below_step HB.out (by first | exact Below.lit hb1 | exact hb1))
           obtain ⟨B', d', w2, hap, hr2, hb2⟩ := (HR.out.below (show Below wr.heap.size wr w1 by first | exact Below.lit hb1 | exact hb1)).push ⟨(matT x).toArray⟩ (by omega) HB1.out.size 59
           have HAP := Lib.hid hap
           have HR2 := Lib.hid hr2
           have HB2 := Lib.hid (HB1.out.trans hb2)
           clear hap hr2 hb2 hb1)
        | (at_builtin; refine wpList_append_run rfl _ _ _ _ rfl rfl rfl HAP.out ?_))
      go_roundw
      case rel => exact ⟨k + 1, B', d', by omega, rfl, by go_num, by rw [tail_take HX.out]; exact HR2.out, HB2.out⟩
      case measure => simp [intOf]; omega
    · obtain rfl : k = n := by omega
      go_wp2
      go_ret
      exact ⟨B, d, rfl, by have := HR.out; rwa [List.take_of_length_le (by rw [HL.out]; exact Nat.le_refl _)] at this, HB.out⟩

set_option maxHeartbeats 1600000 in
theorem texts_duty {w : World} {R : Nat → Prop} {A : Option Addr} {n c : Nat} {l : List Dut} (h : Dus w R A n c l) (hn : n ≤ 1000) (hf : ∀ x ∈ l, dutE x = 0) (ht : Tbl w) :
    Calls Tryz.prog 47 #[.slice A n c, .func (.func 48) #[] #[]] w fun e w' => ∃ A' c', e = .returned (.slice A' n c') ∧ TR w' w.heap.size A' n c' (l.map dutT) ∧ Below w.heap.size w w' := by
  have hle := Rw.le h
  have hcap := Rw.cap h
  have HL := Lib.hid (Rw.len h)
  unfold maxLen at hcap
  have H := Lib.hid h
  have HF := Lib.hid hf
  have HT := Lib.hid ht
  clear h hf ht
  go_enter Tryz.func47, Tryz.ntmps47
  go_wp2
  go_loopw [5, 10] (fun o i wr => ∃ (k : Nat) (B : Option Addr) (d : Nat), k ≤ n ∧ o = .slice B k d ∧ i = .int .i64 k ∧ TR wr w.heap.size B k d ((l.take k).map dutT) ∧ Below w.heap.size w wr) (fun _ i _ => n - (intOf i).toNat)
  case atStart => exact ⟨0, none, 0, Nat.zero_le _, rfl, rfl, TR.nil _ _, Below.refl _ _⟩
  case round =>
    obtain ⟨k, B, d, hk, rfl, rfl, hr, hb⟩ := hrel
    have HR := Lib.hid hr
    have HB := Lib.hid hb
    clear hr hb
    by_cases hlt : k < n
    · obtain ⟨b, o, x, rfl, hRb, hbl, hx, hok, c0, c1, c2⟩ := (H.out.keep (Kept.all HB.out R) (fun _ h _ => h)).at_ hlt
      have HX := Lib.hid hx
      have HC := Lib.hid (fun W (hb : Below wr.heap.size wr W) => show_duty x hok (HF.out x (List.mem_of_getElem? hx)) W (HT.out.then_ (below_step HB.out hb)))
      clear hx
      go_wp2_with (first
        | (go_at_call 48
           refine (HC.out _ (by first | exact al9' _ _ | exact Below.refl _ _)).mono ?_
           rintro e w1 ⟨rfl, hb1⟩
           have HB1 := Lib.hid (below_step HB.out (by first | exact Below.lit hb1 | exact hb1))
           obtain ⟨B', d', w2, hap, hr2, hb2⟩ := (HR.out.below (show Below wr.heap.size wr w1 by first | exact Below.lit hb1 | exact hb1)).push ⟨(dutT x).toArray⟩ (by omega) HB1.out.size 59
           have HAP := Lib.hid hap
           have HR2 := Lib.hid hr2
           have HB2 := Lib.hid (HB1.out.trans hb2)
           clear hap hr2 hb2 hb1)
        | (at_builtin; refine wpList_append_run rfl _ _ _ _ rfl rfl rfl HAP.out ?_))
      go_roundw
      case rel => exact ⟨k + 1, B', d', by omega, rfl, by go_num, by rw [tail_take HX.out]; exact HR2.out, HB2.out⟩
      case measure => simp [intOf]; omega
    · obtain rfl : k = n := by omega
      go_wp2
      go_ret
      exact ⟨B, d, rfl, by have := HR.out; rwa [List.take_of_length_le (by rw [HL.out]; exact Nat.le_refl _)] at this, HB.out⟩

theorem show_allOf {R : Nat → Prop} {A : Option Addr} {n c : Nat} {l : List Mat} (w : World) (h : Ms w R A n c l) (hf : allE l = 0) (ht : Tbl w) :
    Calls Tryz.prog 87 #[.slice A n c] w fun e w' => e = .returned (.string ⟨(allT l).toArray⟩) ∧ Below w.heap.size w w' := by
  have hn := Rw.len h
  have h8 := (allE_all hf).1.2
  have hl8 := all_len hf (Rw.all h)
  have HC := Lib.hid (texts_match h (by omega) (allE_all hf).2 ht)
  have HN := Lib.hid (show n ≤ 1000 by omega)
  have HL : Hid ((Lib.join (l.map matT) (bl ⟨#[44, 32]⟩)).length ≤ 140737488355328) := Nat.le_trans hl8 (by omega)
  have HE : Hid (allT l = Lib.join (l.map matT) (bl ⟨#[44, 32]⟩)) := rfl
  clear h hn h8 hl8 hf ht
  go_enter Tryz.func87, Tryz.ntmps87
  go_wp2_with (first
    | (go_at_call 95; refine HC.out.mono ?_; rintro e w1 ⟨B, d, rfl, hr, hb1⟩; have B1 := Lib.hid hb1; have HJ := Lib.hid (join_row hr.sl (Nat.le_refl _) (by have := HN.out; omega) ⟨#[44, 32]⟩ HL.out); clear hr hb1)
    | (go_at_call 24; refine HJ.out.mono ?_; rintro e w2 ⟨rfl, hb2⟩; have B2 := Lib.hid hb2))
  go_ret
  exact ⟨rfl, below_step B1.out B2.out⟩

set_option maxHeartbeats 1600000 in
theorem texts_allOf {w : World} {R : Nat → Prop} {A : Option Addr} {n c : Nat} {l : List (List Mat)} (h : Als w R A n c l) (hn : n ≤ 1000) (hf : ∀ x ∈ l, allE x = 0) (ht : Tbl w) :
    Calls Tryz.prog 86 #[.slice A n c, .func (.func 87) #[] #[]] w fun e w' => ∃ A' c', e = .returned (.slice A' n c') ∧ TR w' w.heap.size A' n c' (l.map allT) ∧ Below w.heap.size w w' := by
  have hle := Rw.le h
  have hcap := Rw.cap h
  have HL := Lib.hid (Rw.len h)
  unfold maxLen at hcap
  have H := Lib.hid h
  have HF := Lib.hid hf
  have HT := Lib.hid ht
  clear h hf ht
  go_enter Tryz.func86, Tryz.ntmps86
  go_wp2
  go_loopw [5, 10] (fun o i wr => ∃ (k : Nat) (B : Option Addr) (d : Nat), k ≤ n ∧ o = .slice B k d ∧ i = .int .i64 k ∧ TR wr w.heap.size B k d ((l.take k).map allT) ∧ Below w.heap.size w wr) (fun _ i _ => n - (intOf i).toNat)
  case atStart => exact ⟨0, none, 0, Nat.zero_le _, rfl, rfl, TR.nil _ _, Below.refl _ _⟩
  case round =>
    obtain ⟨k, B, d, hk, rfl, rfl, hr, hb⟩ := hrel
    have HR := Lib.hid hr
    have HB := Lib.hid hb
    clear hr hb
    by_cases hlt : k < n
    · obtain ⟨b, o, x, A1, n1, c1, rfl, hRb, hbl, hx, c0, hin⟩ := (H.out.keep (Kept.all HB.out R) (fun _ h _ => h)).at_ hlt
      have HX := Lib.hid hx
      have hinK := fun W (hb : Below wr.heap.size wr W) => Ms.keep hin (Kept.all hb R) (fun _ h _ => h)
      have HC := Lib.hid (fun W (hb : Below wr.heap.size wr W) => show_allOf W (hinK W hb) (HF.out x (List.mem_of_getElem? hx)) (HT.out.then_ (below_step HB.out hb)))
      clear hx
      go_wp2_with (first
        | (go_at_call 87
           refine (HC.out _ (by first | exact al9' _ _ | exact Below.refl _ _)).mono ?_
           rintro e w1 ⟨rfl, hb1⟩
           have HB1 := Lib.hid (below_step HB.out (by first | exact Below.lit hb1 | exact hb1))
           obtain ⟨B', d', w2, hap, hr2, hb2⟩ := (HR.out.below (show Below wr.heap.size wr w1 by first | exact Below.lit hb1 | exact hb1)).push ⟨(allT x).toArray⟩ (by omega) HB1.out.size 59
           have HAP := Lib.hid hap
           have HR2 := Lib.hid hr2
           have HB2 := Lib.hid (HB1.out.trans hb2)
           clear hap hr2 hb2 hb1)
        | (at_builtin; refine wpList_append_run rfl _ _ _ _ rfl rfl rfl HAP.out ?_))
      go_roundw
      case rel => exact ⟨k + 1, B', d', by omega, rfl, by go_num, by rw [tail_take HX.out]; exact HR2.out, HB2.out⟩
      case measure => simp [intOf]; omega
    · obtain rfl : k = n := by omega
      go_wp2
      go_ret
      exact ⟨B, d, rfl, by have := HR.out; rwa [List.take_of_length_le (by rw [HL.out]; exact Nat.le_refl _)] at this, HB.out⟩

theorem Als.oks {w : World} {R : Nat → Prop} {A : Option Addr} {n c : Nat} {l : List (List Mat)} (h : Als w R A n c l) : ∀ a ∈ l, ∀ m ∈ a, m.ok := by
  intro a ha
  obtain ⟨j, hj, rfl⟩ := List.getElem_of_mem ha
  obtain ⟨b, o, x, A1, n1, c1, _, _, _, hx, _, hin⟩ := h.at_ (j := j) (by have := Rw.len h; omega)
  rw [List.getElem?_eq_getElem hj] at hx
  injection hx with hx
  rw [hx]
  exact Rw.all hin
theorem Tg.oks' {w : World} {R : Nat → Prop} {A : Option Addr} {n c : Nat} {l : Tgt} (h : Tg w R A n c l) : Tgt.oks l := by
  intro a ha
  obtain ⟨j, hj, rfl⟩ := List.getElem_of_mem ha
  obtain ⟨b, o, x, A1, n1, c1, _, _, _, hx, _, hin⟩ := h.at_ (j := j) (by have := Rw.len h; omega)
  rw [List.getElem?_eq_getElem hj] at hx
  injection hx with hx
  rw [hx]
  exact Als.oks hin
theorem show_anyOf {R : Nat → Prop} {A : Option Addr} {n c : Nat} {l : List (List Mat)} (w : World) (h : Als w R A n c l) (hf : anyE l = 0) (ht : Tbl w) :
    Calls Tryz.prog 64 #[.slice A n c] w fun e w' => e = .returned (.string ⟨(anyT l).toArray⟩) ∧ Below w.heap.size w w' := by
  have hn := Rw.len h
  have h8 := (anyE_all hf).1.2
  have hl8 := any_len hf (Als.oks h)
  have HC := Lib.hid (texts_allOf h (by omega) (anyE_all hf).2 ht)
  have HN := Lib.hid (show n ≤ 1000 by omega)
  obtain ⟨x, hx⟩ : ∃ x : ByteArray, x = ⟨(Lib.join (l.map allT) (bl ⟨#[32, 111, 114, 32]⟩)).toArray⟩ := ⟨_, rfl⟩
  have HE : Hid (anyT l = 40 :: (bl x ++ [41])) := by rw [hx]; rfl
  have hsz : x.size ≤ 41000 := by
    rw [HE.out] at hl8
    simp only [List.length_cons, List.length_append, List.length_nil] at hl8
    show (bl x).length ≤ 41000
    omega
  have HJL : Hid ((Lib.join (l.map allT) (bl ⟨#[32, 111, 114, 32]⟩)).length ≤ 140737488355328) := by
    have e : (Lib.join (l.map allT) (bl ⟨#[32, 111, 114, 32]⟩)).length = x.size := by rw [hx]; rfl
    show _ ≤ _
    rw [e]
    exact Nat.le_trans hsz (by omega)
  have HJE := Lib.hid hx
  clear h hn h8 hl8 hf ht hx
  go_enter Tryz.func64, Tryz.ntmps64
  go_wp2_with (first
    | (go_at_call 86; refine HC.out.mono ?_; rintro e w1 ⟨B, d, rfl, hr, hb1⟩; have B1 := Lib.hid hb1; have HJ := Lib.hid (join_row hr.sl (Nat.le_refl _) (by have := HN.out; omega) ⟨#[32, 111, 114, 32]⟩ HJL.out); rw [← HJE.out] at HJ; clear hr hb1)
    | (go_at_call 24; refine HJ.out.mono ?_; rintro e w2 ⟨rfl, hb2⟩; have B2 := Lib.hid hb2))
  go_ret
  refine ⟨ret_text ?_, below_step B1.out B2.out⟩
  rw [HE.out]
  simp [bl_app, bl_mka]

set_option maxHeartbeats 1600000 in
theorem texts_anyOf {w : World} {R : Nat → Prop} {A : Option Addr} {n c : Nat} {l : List (List (List Mat))} (h : Tg w R A n c l) (hn : n ≤ 1000) (hf : ∀ x ∈ l, anyE x = 0) (ht : Tbl w) :
    Calls Tryz.prog 63 #[.slice A n c, .func (.func 64) #[] #[]] w fun e w' => ∃ A' c', e = .returned (.slice A' n c') ∧ TR w' w.heap.size A' n c' (l.map anyT) ∧ Below w.heap.size w w' := by
  have hle := Rw.le h
  have hcap := Rw.cap h
  have HL := Lib.hid (Rw.len h)
  unfold maxLen at hcap
  have H := Lib.hid h
  have HF := Lib.hid hf
  have HT := Lib.hid ht
  clear h hf ht
  go_enter Tryz.func63, Tryz.ntmps63
  go_wp2
  go_loopw [5, 10] (fun o i wr => ∃ (k : Nat) (B : Option Addr) (d : Nat), k ≤ n ∧ o = .slice B k d ∧ i = .int .i64 k ∧ TR wr w.heap.size B k d ((l.take k).map anyT) ∧ Below w.heap.size w wr) (fun _ i _ => n - (intOf i).toNat)
  case atStart => exact ⟨0, none, 0, Nat.zero_le _, rfl, rfl, TR.nil _ _, Below.refl _ _⟩
  case round =>
    obtain ⟨k, B, d, hk, rfl, rfl, hr, hb⟩ := hrel
    have HR := Lib.hid hr
    have HB := Lib.hid hb
    clear hr hb
    by_cases hlt : k < n
    · obtain ⟨b, o, x, A1, n1, c1, rfl, hRb, hbl, hx, c0, hin⟩ := (H.out.keep (Kept.all HB.out R) (fun _ h _ => h)).at_ hlt
      have HX := Lib.hid hx
      have hinK := fun W (hb : Below wr.heap.size wr W) => Als.keep hin (Kept.all hb R) (fun _ h _ => h)
      have HC := Lib.hid (fun W (hb : Below wr.heap.size wr W) => show_anyOf W (hinK W hb) (HF.out x (List.mem_of_getElem? hx)) (HT.out.then_ (below_step HB.out hb)))
      clear hx
      go_wp2_with (first
        | (go_at_call 64
           refine (HC.out _ (by first | exact al9' _ _ | exact Below.refl _ _)).mono ?_
           rintro e w1 ⟨rfl, hb1⟩
           have HB1 := Lib.hid (below_step HB.out (by first | exact Below.lit hb1 | exact hb1))
           obtain ⟨B', d', w2, hap, hr2, hb2⟩ := (HR.out.below (show Below wr.heap.size wr w1 by first | exact Below.lit hb1 | exact hb1)).push ⟨(anyT x).toArray⟩ (by omega) HB1.out.size 59
           have HAP := Lib.hid hap
           have HR2 := Lib.hid hr2
           have HB2 := Lib.hid (HB1.out.trans hb2)
           clear hap hr2 hb2 hb1)
        | (at_builtin; refine wpList_append_run rfl _ _ _ _ rfl rfl rfl HAP.out ?_))
      go_roundw
      case rel => exact ⟨k + 1, B', d', by omega, rfl, by go_num, by rw [tail_take HX.out]; exact HR2.out, HB2.out⟩
      case measure => simp [intOf]; omega
    · obtain rfl : k = n := by omega
      go_wp2
      go_ret
      exact ⟨B, d, rfl, by have := HR.out; rwa [List.take_of_length_le (by rw [HL.out]; exact Nat.le_refl _)] at this, HB.out⟩

end Go.Proofs.YtjpkemamfccfdaaGreatDoor
/- The reference's targets' text: three loops in one another. -/
namespace Go.Proofs.YtjpkemamfccfdaaGreatDoor
set_option linter.unusedVariables false
open Go.RowKit Go.Sort

/-- So many of a row, joined, with what begins them. -/
def beg (b : List UInt8) (xs : List (List UInt8)) (sep : List UInt8) : List UInt8 := if xs = [] then [] else b ++ Lib.join xs sep
theorem beg_nil (b sep : List UInt8) : beg b [] sep = [] := rfl
theorem join_snoc {xs : List (List UInt8)} (x sep : List UInt8) (h : xs ≠ []) : Lib.join (xs ++ [x]) sep = Lib.join xs sep ++ (sep ++ x) := by
  obtain ⟨y, r, rfl⟩ := List.exists_cons_of_ne_nil h
  rw [List.cons_append, Lib.join_cons, Lib.join_cons]
  unfold Lib.joinTail
  simp
theorem beg_first (b x sep : List UInt8) : beg b [x] sep = b ++ x := by unfold beg; rw [if_neg (by simp), Lib.join_one]
theorem beg_snoc {xs : List (List UInt8)} (b x sep : List UInt8) (h : xs ≠ []) : beg b (xs ++ [x]) sep = beg b xs sep ++ (sep ++ x) := by
  unfold beg
  rw [if_neg (by simp), if_neg h, join_snoc x sep h]
  simp
theorem take_map_snoc {α : Type} {f : α → List UInt8} {l : List α} {k : Nat} {x : α} (hx : l[k]? = some x) : (l.take (k + 1)).map f = (l.take k).map f ++ [f x] := by
  obtain ⟨hk, rfl⟩ := List.getElem?_eq_some_iff.1 hx
  rw [List.take_succ_eq_append_getElem hk, List.map_append]
  rfl
theorem take_map_ne {α : Type} {f : α → List UInt8} {l : List α} {k : Nat} (hk : 0 < k) (hl : k ≤ l.length) : (l.take k).map f ≠ [] := by
  intro e
  have := congrArg List.length e
  rw [List.length_map, List.length_take, List.length_nil] at this
  omega
theorem tgW_sp (t : Tgt) : sp (tgW t) = beg [32, 119, 104, 101, 110, 32] (t.map anyT) [32, 97, 110, 100, 32] := by
  unfold tgW beg tgT
  by_cases h : t = []
  · rw [if_pos h, if_pos (by rw [h]; rfl)]; rfl
  · rw [if_neg h, if_neg (by simpa using h), sp_cons, sp_one]
    simp
theorem ob_c7 {w : World} {g : Nat} {t : TypeId} {a b c d e f h : Value} (H : Ob w g t #[a, b, c, d, e, f, h]) :
    w.cell? ⟨g, 0, none⟩ = some a ∧ w.cell? ⟨g, 1, none⟩ = some b ∧ w.cell? ⟨g, 2, none⟩ = some c ∧ w.cell? ⟨g, 3, none⟩ = some d ∧ w.cell? ⟨g, 4, none⟩ = some e ∧ w.cell? ⟨g, 5, none⟩ = some f ∧ w.cell? ⟨g, 6, none⟩ = some h :=
  ⟨H.cell 0, H.cell 1, H.cell 2, H.cell 3, H.cell 4, H.cell 5, H.cell 6⟩
theorem attrS_right {a : Atr} (h : attrB a = true) : attrS a = attrT a := by unfold attrS; rw [if_pos h]
theorem beg_len {B C n : Nat} (b sep : List UInt8) (xs : List (List UInt8)) (h : ∀ x ∈ xs, x.length ≤ B) (hs : sep.length ≤ 10) (hb : b.length ≤ 10) (hn : xs.length ≤ n) : (beg b xs sep).length ≤ 10 + n * (B + 10) := by
  unfold beg
  split
  · simp
  · have := join_le sep xs h
    rw [List.length_append]
    have h2 : xs.length * (B + sep.length) ≤ n * (B + 10) := Nat.mul_le_mul hn (by omega)
    omega

set_option maxRecDepth 100000 in
set_option maxHeartbeats 12800000 in
theorem rshowtgt_any {R : Nat → Prop} {A : Option Addr} {n c : Nat} {t : Tgt} (w : World) (h : Tg w R A n c t) (hf : tgE t = 0) :
    Calls Tryz.prog 51 #[.slice A n c] w fun e w' => e = .returned (.string ⟨(sp (tgW t)).toArray⟩) ∧ Below w.heap.size w w' := by
  have hle := Rw.le h
  have hcap := Rw.cap h
  have HL := Lib.hid (Rw.len h)
  unfold maxLen at hcap
  have hoks := Tg.oks' h
  have HT := Lib.hid (tgE_all hf)
  have HAL : Hid (∀ x ∈ t, (anyT x).length ≤ 41000) := fun x hx => any_len ((HT.out).2 x hx) (hoks x hx)
  have HOKS := Lib.hid hoks
  have HK := Lib.hid (fun W (hW : Below w.heap.size w W) => Tg.keep h (Kept.all hW R) (R' := fun _ => True) (fun _ _ _ => trivial))
  have hn8 : n ≤ 8 := by have := HT.out.1; have := HL.out; omega
  have HE : Hid (sp (tgW t) = beg [32, 119, 104, 101, 110, 32] (t.map anyT) [32, 97, 110, 100, 32]) := tgW_sp t
  generalize sp (tgW t) = res at *
  clear h hf hoks
  go_enter Tryz.func51, Tryz.ntmps51
  go_wp2
  go_loopw [3, 12] (fun o i wr => ∃ (k : Nat) (s : ByteArray), k ≤ n ∧ i = .int .i64 k ∧ o = .string s ∧ bl s = beg [32, 119, 104, 101, 110, 32] ((t.take k).map anyT) [32, 97, 110, 100, 32] ∧ Below w.heap.size w wr) (fun _ i _ => n - (intOf i).toNat)
  case atStart => exact ⟨0, ⟨#[]⟩, Nat.zero_le _, rfl, rfl, rfl, Below.refl _ _⟩
  case round =>
    obtain ⟨k, s, hk, rfl, rfl, hs, hb⟩ := hrel
    have HSX := Lib.hid hs
    have HB := Lib.hid hb
    have hss : s.size ≤ 400000 := by
      rw [← size_bl, hs]
      have := beg_len (B := 41000) (C := 0) (n := 8) [32, 119, 104, 101, 110, 32] [32, 97, 110, 100, 32] ((t.take k).map anyT) (fun x hx => by
        obtain ⟨o, ho, rfl⟩ := List.mem_map.1 hx
        exact HAL.out o (List.mem_of_mem_take ho)) (by decide) (by decide) (by rw [List.length_map, List.length_take]; omega)
      omega
    clear hs hb
    by_cases hlt : k < n
    case neg =>
      obtain rfl : k = n := by omega
      have HEND : Hid (bl s = res) := by
        have := HSX.out
        rw [List.take_of_length_le (by have := HL.out; omega)] at this
        exact this.trans HE.out.symm
      go_wp2
      go_ret
      exact ⟨ret_text HEND.out, HB.out⟩
    obtain ⟨b0, o0, x, A1, n1, c1, rfl, _, _, hx, x0, hA⟩ := (HK.out wr HB.out).at_ hlt
    have HX := Lib.hid hx
    have hxa := anyE_all (HT.out.2 x (List.mem_of_getElem? hx))
    have HXA := Lib.hid hxa
    have HXO := Lib.hid (HOKS.out x (List.mem_of_getElem? hx))
    have HL1 := Lib.hid (Rw.len hA)
    have hle1 := Rw.le hA
    have hcap1 := Rw.cap hA
    unfold maxLen at hcap1
    have hn1 : 1 ≤ n1 ∧ n1 ≤ 8 := by have := hxa.1; have := HL1.out; omega
    have HA := Lib.hid hA
    have HNX : Hid (beg [32, 119, 104, 101, 110, 32] ((t.take (k + 1)).map anyT) [32, 97, 110, 100, 32] = (if k = 0 then [32, 119, 104, 101, 110, 32] else bl s ++ [32, 97, 110, 100, 32]) ++ anyT x) := by
      show _ = _
      rw [take_map_snoc hx, HSX.out]
      by_cases h0 : k = 0
      · subst h0; rw [if_pos rfl]; simp [beg_first]
      · rw [if_neg h0, beg_snoc _ _ _ (take_map_ne (by omega) (by have := HL.out; omega))]; simp
    obtain ⟨w1, hw1⟩ : ∃ w1, w1 = wr := ⟨wr, rfl⟩
    subst hw1
    obtain ⟨s1, hs1⟩ : ∃ s1 : ByteArray, s1 = if k = 0 then ⟨#[32, 119, 104, 101, 110, 32]⟩ else s ++ ⟨#[32, 97, 110, 100, 32]⟩ := ⟨_, rfl⟩
    have hss1 : s1.size ≤ 400010 := by
      rw [hs1]
      split
      · decide
      · rw [ByteArray.size_append]; have e : (⟨#[32, 97, 110, 100, 32]⟩ : ByteArray).size = 5 := rfl; omega
    have HB1 : Hid (beg [32, 119, 104, 101, 110, 32] ((t.take (k + 1)).map anyT) [32, 97, 110, 100, 32] = bl s1 ++ anyT x) := by
      show _ = _
      rw [HNX.out, hs1]
      by_cases h0 : k = 0
      · rw [if_pos h0, if_pos h0]; rfl
      · rw [if_neg h0, if_neg h0, bl_app]; rfl
    go_upto_if 18 with fail
    go_cut [3] from 17 to 20 (fun u wx => u = .string s1 ∧ wx = w1)
    case first =>
      by_cases h0 : k = 0
      · subst h0
        rw [if_pos rfl] at hs1
        subst hs1
        go_wp2_with fail
        go_meet
        case rel => exact ⟨rfl, rfl⟩
      · have h0b : ((k : Int) == 0) = false := by rw [beq_eq_false_iff_ne]; omega
        rw [if_neg h0] at hs1
        subst hs1
        go_wp2_with fail
        go_meet
        case rel => exact ⟨rfl, rfl⟩
    case rest =>
    obtain ⟨rfl, rfl⟩ := hcut
    clear hs1 hss HSX HNX x0
    obtain ⟨w1, hw1⟩ : ∃ w1, w1 = wc := ⟨wc, rfl⟩
    subst hw1
    go_upto_region 9 with fail
    go_loopw [3, 23] (fun o i wq => ∃ (q : Nat) (s2 : ByteArray), q ≤ n1 ∧ i = .int .i64 q ∧ o = .string s2 ∧ bl s2 = bl s1 ++ beg [40] ((x.take q).map allT) [32, 111, 114, 32] ∧ Below w1.heap.size w1 wq) (fun _ i _ => n1 - (intOf i).toNat)
    case atStart => exact ⟨0, s1, Nat.zero_le _, rfl, rfl, by simp [beg], Below.refl _ _⟩
    case round =>
      obtain ⟨q, s2, hq, rfl, rfl, hs2, hbw⟩ := hrel
      have HSX2 := Lib.hid hs2
      have HBQ := Lib.hid hbw
      have HBW := Lib.hid (below_step HB.out hbw)
      have HA1 := Lib.hid (Als.keep HA.out (Kept.all hbw _) (R' := fun _ => True) (fun _ _ _ => trivial))
      have hss2 : s2.size ≤ 441000 := by
        rw [← size_bl, hs2, List.length_append, size_bl]
        have := beg_len (B := 5000) (C := 0) (n := 8) [40] [32, 111, 114, 32] ((x.take q).map allT) (fun z hz => by
          obtain ⟨o, ho, rfl⟩ := List.mem_map.1 hz
          exact all_len (HXA.out.2 o (List.mem_of_mem_take ho)) (HXO.out o (List.mem_of_mem_take ho))) (by decide) (by decide) (by rw [List.length_map, List.length_take]; have := HL1.out; omega)
        omega
      clear hs2 hbw
      by_cases hlt1 : q < n1
      case neg =>
        obtain rfl : q = n1 := by omega
        have HEND : Hid (beg [32, 119, 104, 101, 110, 32] ((t.take (k + 1)).map anyT) [32, 97, 110, 100, 32] = bl (s2 ++ ⟨#[41]⟩)) := by
          show _ = _
          have h1 := HSX2.out
          rw [List.take_of_length_le (by have := HL1.out; omega)] at h1
          rw [HB1.out, bl_app, h1]
          unfold beg anyT
          rw [if_neg (by simp; intro e; have := HL1.out; rw [e] at this; simp at this; omega)]
          simp [bl_mka]
        go_wp2_with fail
        go_roundw
        case rel => exact ⟨k + 1, _, by omega, by go_num, rfl, HEND.out.symm, HBW.out⟩
        case measure => simp [intOf]; omega
      obtain ⟨b1, o1, y, A2, n2, c2, rfl, _, _, hy, y0, hM⟩ := HA1.out.at_ hlt1
      have HY := Lib.hid hy
      have hya := allE_all (HXA.out.2 y (List.mem_of_getElem? hy))
      have HYA := Lib.hid hya
      have HYO := Lib.hid (HXO.out y (List.mem_of_getElem? hy))
      have HL2 := Lib.hid (Rw.len hM)
      have hle2 := Rw.le hM
      have hcap2 := Rw.cap hM
      unfold maxLen at hcap2
      have hn2 : n2 ≤ 8 := by have := hya.1; have := HL2.out; omega
      have HMS := Lib.hid hM
      obtain ⟨s3, hs3⟩ : ∃ s3 : ByteArray, s3 = if q = 0 then s2 ++ ⟨#[40]⟩ else s2 ++ ⟨#[32, 111, 114, 32]⟩ := ⟨_, rfl⟩
      have hss3 : s3.size ≤ 441010 := by
        rw [hs3]
        have e1 : (⟨#[40]⟩ : ByteArray).size = 1 := rfl
        have e2 : (⟨#[32, 111, 114, 32]⟩ : ByteArray).size = 4 := rfl
        split
        · rw [ByteArray.size_append]; omega
        · rw [ByteArray.size_append]; omega
      have HB2 : Hid (bl s1 ++ beg [40] ((x.take (q + 1)).map allT) [32, 111, 114, 32] = bl s3 ++ allT y) := by
        show _ = _
        rw [take_map_snoc hy, hs3]
        have h1 := HSX2.out
        by_cases h0 : q = 0
        · subst h0
          rw [if_pos rfl, bl_app, h1]
          simp [beg, bl_mka, Lib.join_one]
        · rw [if_neg h0, beg_snoc _ _ _ (take_map_ne (by omega) (by have := HL1.out; omega)), bl_app, h1]
          simp [bl_mka]
      clear hy hM hya
      go_upto_if 29 with fail
      go_cut [3] from 28 to 33 (fun u wx => u = .string s3 ∧ wx = wr)
      case first =>
        by_cases h0 : q = 0
        · subst h0
          rw [if_pos rfl] at hs3
          subst hs3
          go_wp2_with fail
          go_meet
          case rel => exact ⟨rfl, rfl⟩
        · have h0b : ((q : Int) == 0) = false := by rw [beq_eq_false_iff_ne]; omega
          rw [if_neg h0] at hs3
          subst hs3
          go_wp2_with fail
          go_meet
          case rel => exact ⟨rfl, rfl⟩
      case rest =>
      obtain ⟨rfl, rfl⟩ := hcut
      clear hs3 hss2 HSX2 y0
      obtain ⟨w2, hw2⟩ : ∃ w2, w2 = wc := ⟨wc, rfl⟩
      subst hw2
      go_upto_region 15 with fail
      go_loopw [3, 36] (fun o i wq => ∃ (p : Nat) (s4 : ByteArray), p ≤ n2 ∧ i = .int .i64 p ∧ o = .string s4 ∧ bl s4 = bl s3 ++ Lib.join ((y.take p).map matT) [44, 32] ∧ Below w2.heap.size w2 wq) (fun _ i _ => n2 - (intOf i).toNat)
      case atStart => exact ⟨0, s3, Nat.zero_le _, rfl, rfl, by simp [Lib.join_nil], Below.refl _ _⟩
      case round =>
        obtain ⟨p, s4, hp, rfl, rfl, hs4, hbw⟩ := hrel
        have HSX4 := Lib.hid hs4
        have HBP := Lib.hid hbw
        have HBP0 := Lib.hid (below_step HBW.out hbw)
        have HBQ2 := Lib.hid (below_step HBQ.out hbw)
        have HM1 := Lib.hid (Ms.keep HMS.out (Kept.all hbw _) (R' := fun _ => True) (fun _ _ _ => trivial))
        have hss4 : s4.size ≤ 446000 := by
          rw [← size_bl, hs4, List.length_append, size_bl]
          have := join_map (T := matT) (B := 500) (n := 8) [44, 32] (y.take p) (fun m hm => mat_len (HYA.out.2 m (List.mem_of_mem_take hm)) (HYO.out m (List.mem_of_mem_take hm))) (by rw [List.length_take]; have := HL2.out; omega)
          have e : ([44, 32] : List UInt8).length = 2 := rfl
          rw [e] at this
          omega
        clear hs4 hbw
        by_cases hlt2 : p < n2
        case neg =>
          obtain rfl : p = n2 := by omega
          have HEND : Hid (bl s4 = bl s1 ++ beg [40] ((x.take (q + 1)).map allT) [32, 111, 114, 32]) := by
            show _ = _
            have h1 := HSX4.out
            rw [List.take_of_length_le (by have := HL2.out; omega)] at h1
            rw [HB2.out, h1]
            rfl
          go_wp2_with fail
          go_roundw
          case rel => exact ⟨q + 1, _, by omega, by go_num, rfl, HEND.out, HBQ2.out⟩
          case measure => simp [intOf]; omega
        obtain ⟨b2, o2, m, rfl, _, _, hm, hmok, m0, m1, m2, m3, m4, m5, m6⟩ := HM1.out.at_ hlt2
        have hmE := HYA.out.2 m (List.mem_of_getElem? hm)
        obtain ⟨ham, hom, hvm⟩ := matE_all hmE
        obtain ⟨s, hs⟩ : ∃ s : ByteArray, s = if p = 0 then s4 else s4 ++ ⟨#[44, 32]⟩ := ⟨_, rfl⟩
        have hss : s.size ≤ 446010 := by
          rw [hs]
          have e1 : (⟨#[44, 32]⟩ : ByteArray).size = 2 := rfl
          split
          · omega
          · rw [ByteArray.size_append]; omega
        have HST : Hid (bl s3 ++ Lib.join ((y.take (p + 1)).map matT) [44, 32] = bl s ++ matT m) := by
          show _ = _
          rw [take_map_snoc hm, hs]
          have h1 := HSX4.out
          by_cases h0 : p = 0
          · subst h0
            rw [if_pos rfl, h1]
            simp [Lib.join_one, Lib.join_nil]
          · rw [if_neg h0, join_snoc _ _ (take_map_ne (by omega) (by have := HL2.out; omega)), bl_app, h1]
            simp [bl_mka]
        obtain ⟨xa, hxa'⟩ : ∃ z : ByteArray, z = ⟨(attrT m.a).toArray⟩ := ⟨_, rfl⟩
        obtain ⟨xv, hxv⟩ : ∃ z : ByteArray, z = ⟨(showB m.v).toArray⟩ := ⟨_, rfl⟩
        have hxas : xa.size ≤ 25 := by rw [hxa']; exact word_size (by have := attr_len ham; rw [attrS_right ham] at this; exact this)
        have hxvs : xv.size ≤ 400 := by rw [hxv]; exact word_size (val_len hvm hmok.2.2.2.1)
        obtain ⟨cb, hcb⟩ : ∃ cb : UInt8, cmpW m.op = [cb] := by rcases hom with h | h | h <;> rw [h] <;> exact ⟨_, rfl⟩
        have HD : Hid (matT m = bl xa ++ 32 :: (cb :: 32 :: bl xv)) := by show _ = _; unfold matT; rw [attrS_right ham, hcb, hxa', hxv]; rfl
        have hvs6 : m.v.s.size ≤ 1000000 := right_small hvm
        have hans : m.a.name.size ≤ 1000000 := by
          have h1 : attrB m.a = true := ham
          unfold attrB at h1
          simp only [Bool.and_eq_true, decide_eq_true_eq] at h1
          have h2 : (bl m.a.name).length ≤ 16 := h1.2.1.2
          rw [size_bl] at h2
          omega
        have QA0 := Lib.hid (fun (V : World) => show Calls Tryz.prog 9 #[.agg #[.int .i64 m.a.cat, .string m.a.name, .bool m.a.must]] V (fun e w' => e = .returned (.string xa) ∧ Below V.heap.size V w') by rw [hxa']; exact rattrT_any m.a hans V)
        have QT0 := Lib.hid (fun (V : World) => show Calls Tryz.prog 18 #[.agg #[.int .i64 m.v.k, .int .i64 m.v.n, .string m.v.s]] V (fun e w' => e = .returned (.string xv) ∧ Below V.heap.size V w') by rw [hxv]; exact vtextof_any m.v.k m.v.n m.v.s hmok.2.2.2.1 hvs6 V)
        have HOP : Hid ((m.op = 1 ∧ cb = 61) ∨ (m.op = 2 ∧ cb = 60) ∨ (m.op = 3 ∧ cb = 62)) := by
          show _ ∨ _
          rcases hom with h | h | h <;> rw [h] at hcb ⊢ <;> injection hcb with hcb <;> subst hcb
          · exact .inl ⟨rfl, rfl⟩
          · exact .inr (.inl ⟨rfl, rfl⟩)
          · exact .inr (.inr ⟨rfl, rfl⟩)
        obtain ⟨⟨ac, an, au⟩, op, ⟨vk, vn, vs⟩⟩ := m
        simp only at m0 m1 m2 m3 m4 m5 m6 QA0 QT0 HOP
        have OM := Lib.hid (Ob.made wr 48 #[.int .i64 ac, .string an, .bool au, .int .i64 op, .int .i64 vk, .int .i64 vn, .string vs])
        have BM := Lib.hid (below_step HBP.out ((Below.refl wr.heap.size wr).alloc (Nat.le_refl _) (.cells #[.int .i64 ac, .string an, .bool au, .int .i64 op, .int .i64 vk, .int .i64 vn, .string vs] 48)))
        clear hm hmok hmE ham hom hvm hxa' hxv hcb hvs6 hans
        go_upto_if 42 with fail
        go_cut [3] from 41 to 44 (fun u wx => u = .string s ∧ wx = wr.alloc (.cells #[.int .i64 ac, .string an, .bool au, .int .i64 op, .int .i64 vk, .int .i64 vn, .string vs] 48))
        case first =>
          by_cases h0 : p = 0
          · subst h0
            rw [if_pos rfl] at hs
            subst hs
            go_wp2_with fail
            go_meet
            case rel => exact ⟨rfl, rfl⟩
          · have h0b : (0 : Int) < (p : Int) := by omega
            rw [if_neg h0] at hs
            subst hs
            go_wp2_with fail
            go_meet
            case rel => exact ⟨rfl, rfl⟩
        case rest =>
        obtain ⟨rfl, rfl⟩ := hcut
        clear hs hss4 HSX4 m0 m1 m2 m3 m4 m5 m6
        go_upto_region 19 with fail
        generalize hW1 : wr.alloc (.cells #[.int .i64 ac, .string an, .bool au, .int .i64 op, .int .i64 vk, .int .i64 vn, .string vs] 48) = W1 at *
        generalize hg9 : wr.heap.size = g9 at *
        clear hW1 hg9
        have KM := Lib.hid (fun V (hV : Below W1.heap.size W1 V) => ob_c7 (OM.out.below hV OM.out.lt))
        have QA := Lib.hid (fun V (_ : Below W1.heap.size W1 V) => QA0.out V)
        have QT := Lib.hid (fun V (_ : Below W1.heap.size W1 V) => QT0.out V)
        refine wp_region_held_tail (fun w' => Below W1.heap.size W1 w') 18 (by kernel_rfl) (by kernel_rfl) ?_
        intro G
        change HeadW _ _ _ _ _ _ _ _ _ _ (W1.drewN 1)
        have S : Hid (Below W1.heap.size W1 (W1.drewN 1)) := below_drewN (Below.refl _ _) 1
        generalize W1.drewN 1 = y0 at *
        refine HeadW_take (i := 0) (v := ?_) G rfl (by kernel_rfl) (by kernel_rfl) (by kernel_rfl) (fun _ _ _ h => h) (Or.inl ⟨by rfl, ?_⟩) S.out ?_
        rotate_left
        · intro wz hS
          go_simp
          try with_reducible rfl
        refine HeadW_take (i := 1) (v := ?_) G rfl (by kernel_rfl) (by kernel_rfl) (by kernel_rfl) (fun _ _ _ h => h) (Or.inl ⟨by rfl, ?_⟩) S.out ?_
        rotate_left
        · intro wz hS
          go_simp
          try with_reducible rfl
        refine HeadW_take (i := 2) (v := ?_) G rfl (by kernel_rfl) (by kernel_rfl) (by kernel_rfl) (fun _ _ _ h => h) (Or.inl ⟨by rfl, ?_⟩) S.out ?_
        rotate_left
        · intro wz hS
          obtain ⟨k0, k1, k2, k3, k4, k5, k6⟩ := KM.out _ hS
          go_simp
          try with_reducible rfl
        refine HeadW_take (i := 6) (v := ?_) G rfl (by kernel_rfl) (by kernel_rfl) (by kernel_rfl) (fun _ _ _ h => h) (Or.inl ⟨by rfl, ?_⟩) S.out ?_
        rotate_left
        · intro wz hS
          go_simp
          try with_reducible rfl
        refine HeadW_take (i := 7) (v := ?_) G rfl (by kernel_rfl) (by kernel_rfl) (by kernel_rfl) (fun _ _ _ h => h) (Or.inl ⟨by rfl, ?_⟩) S.out ?_
        rotate_left
        · intro wz hS
          obtain ⟨k0, k1, k2, k3, k4, k5, k6⟩ := KM.out _ hS
          go_simp
          try with_reducible rfl
        refine HeadW_take (i := 8) (v := ?_) G rfl (by kernel_rfl) (by kernel_rfl) (by kernel_rfl) (fun _ _ _ h => h) (Or.inl ⟨by rfl, ?_⟩) S.out ?_
        rotate_left
        · intro wz hS
          go_simp
          try with_reducible rfl
        refine HeadW_take (i := 9) (v := .int .u8 (cb.toNat : Int)) G rfl (by kernel_rfl) (by kernel_rfl) (by kernel_rfl) (fun _ _ _ h => h) (Or.inl ⟨by rfl, ?_⟩) S.out ?_
        · intro wz hS
          rcases HOP.out with ⟨h1, h2⟩ | ⟨h1, h2⟩ | ⟨h1, h2⟩
          all_goals
            subst h1 h2
            go_simp
            first | rfl | kernel_rfl
        refine HeadW_take (i := 14) (v := ?_) G rfl (by kernel_rfl) (by kernel_rfl) (by kernel_rfl) (fun _ _ _ h => h) (Or.inl ⟨by rfl, ?_⟩) S.out ?_
        rotate_left
        · intro wz hS
          go_simp
          try with_reducible rfl
        refine HeadW_take (i := 15) (v := ?_) G rfl (by kernel_rfl) (by kernel_rfl) (by kernel_rfl) (fun _ _ _ h => h) (Or.inl ⟨by rfl, ?_⟩) S.out ?_
        rotate_left
        · intro wz hS
          obtain ⟨k0, k1, k2, k3, k4, k5, k6⟩ := KM.out _ hS
          go_simp
          try with_reducible rfl
        refine HeadW_ready (rs := [3, 10]) (by kernel_rfl) rfl rfl ?_
        refine AllW.cons rfl (fun K hK => ?_) (AllW.cons rfl (fun K hK => ?_) AllW.nil)
        · try go_simp
          refine (QA.out _ S.out).mono ?_
          rintro e y1 ⟨rfl, hb⟩
          have S := Lib.hid (S.out.trans (hb.mono S.out.size))
          refine hK _ _ S.out ?_
          clear hK K hb
          refine HeadW_take (i := 4) (v := .string (s ++ xa)) G rfl (by kernel_rfl) (by kernel_rfl) (by kernel_rfl) (fun _ _ _ h => h) (Or.inl ⟨by rfl, ?_⟩) S.out ?_
          · intro wz hS
            go_simp
            try omega
          refine HeadW_take (i := 5) (v := .string (s ++ xa ++ ⟨#[32]⟩)) G rfl (by kernel_rfl) (by kernel_rfl) (by kernel_rfl) (fun _ _ _ h => h) (Or.inl ⟨by rfl, ?_⟩) S.out ?_
          · intro wz hS
            go_simp
            try omega
          refine HeadW_ready (rs := [10, 16]) (by kernel_rfl) rfl rfl ?_
          refine AllW.cons rfl (fun K hK => ?_) (AllW.cons rfl (fun K hK => ?_) AllW.nil)
          · go_simp
            have hb : Below y1.heap.size y1 (y1.alloc (.cells #[.int .u8 (cb.toNat : Int)] 5)) := (Below.refl _ _).alloc (Nat.le_refl _) _
            have SL : Hid (Sl (y1.alloc (.cells #[.int .u8 (cb.toNat : Int)] 5)) (y1.heap.size + 1) (some ⟨y1.heap.size, 0, none⟩) 1 1 (bv [cb])) := Sl.lit y1 5 (bv [cb]) 1 rfl (by simp [maxLen])
            have S := Lib.hid (S.out.trans (hb.mono S.out.size))
            refine hK _ _ S.out ?_
            clear hK K hb
            have hz : (y1.alloc (.cells #[.int .u8 (cb.toNat : Int)] 5)).heap.size = y1.heap.size + 1 := size_al _ _
            rw [← hz] at SL
            generalize hg : y1.alloc (.cells #[.int .u8 (cb.toNat : Int)] 5) = y2 at *
            clear hg hz
            skip
            have KC := Lib.hid (fun V (hV : Below y2.heap.size y2 V) => conv_text (src := 86) (dst := 9) Tryz.underlying86 Tryz.underlying5 Tryz.underlying9 (SL.out.keep (w' := V) hV.block))
            refine HeadW.stronger (S' := fun w' => Below W1.heap.size W1 w' ∧ Below y2.heap.size y2 w') (fun _ h => h.1) ?_
            have S := Lib.hid (⟨S.out, Below.refl _ _⟩ : Below W1.heap.size W1 y2 ∧ Below y2.heap.size y2 y2)
            refine HeadW_take (i := 11) (v := ?_) G rfl (by kernel_rfl) (by kernel_rfl) (by kernel_rfl) (fun _ _ _ h => h) (Or.inl ⟨by rfl, ?_⟩) S.out ?_
            rotate_left
            · intro wz hS
              have kc := KC.out _ hS.2
              go_simp
              try with_reducible rfl
            refine HeadW_take (i := 12) (v := .string (s ++ xa ++ ⟨#[32]⟩ ++ ⟨#[cb]⟩)) G rfl (by kernel_rfl) (by kernel_rfl) (by kernel_rfl) (fun _ _ _ h => h) (Or.inl ⟨by rfl, ?_⟩) S.out ?_
            · intro wz hS
              go_simp
              try omega
            refine HeadW_take (i := 13) (v := .string (s ++ xa ++ ⟨#[32]⟩ ++ ⟨#[cb]⟩ ++ ⟨#[32]⟩)) G rfl (by kernel_rfl) (by kernel_rfl) (by kernel_rfl) (fun _ _ _ h => h) (Or.inl ⟨by rfl, ?_⟩) S.out ?_
            · intro wz hS
              go_simp
              try omega
            refine HeadW_ready (rs := [16]) (by kernel_rfl) rfl rfl ?_
            refine AllW.cons rfl (fun K hK => ?_) AllW.nil
            try go_simp
            refine (QT.out _ S.out.1).mono ?_
            rintro e y3 ⟨rfl, hb⟩
            have S := Lib.hid (⟨S.out.1.trans (hb.mono S.out.1.size), S.out.2.trans (hb.mono S.out.2.size)⟩ : _ ∧ _)
            refine hK _ _ S.out ?_
            clear hK K hb
            refine HeadW_take (i := 17) (v := .string (s ++ xa ++ ⟨#[32]⟩ ++ ⟨#[cb]⟩ ++ ⟨#[32]⟩ ++ xv)) G rfl (by kernel_rfl) (by kernel_rfl) (by kernel_rfl) (fun _ _ _ h => h) (Or.inl ⟨by rfl, ?_⟩) S.out ?_
            · intro wz hS
              go_simp
              try omega
            intro _
            refine ⟨by kernel_rfl, ?_⟩
            simp only [List.drop_succ_cons, List.drop_zero]
            go_wp2_with fail
            go_roundw
            case rel => exact ⟨p + 1, _, by omega, by go_num, rfl, by rw [HST.out, HD.out]; simp [bl_app, bl_mka], below_step BM.out S.out.1⟩
            case measure => simp [intOf]; omega
          · try go_simp
            refine (QT.out _ S.out).mono ?_
            rintro e y2 ⟨rfl, hb⟩
            have S := Lib.hid (S.out.trans (hb.mono S.out.size))
            refine hK _ _ S.out ?_
            clear hK K hb
            refine HeadW_ready (rs := [10]) (by kernel_rfl) rfl rfl ?_
            refine AllW.cons rfl (fun K hK => ?_) AllW.nil
            go_simp
            have hb : Below y2.heap.size y2 (y2.alloc (.cells #[.int .u8 (cb.toNat : Int)] 5)) := (Below.refl _ _).alloc (Nat.le_refl _) _
            have SL : Hid (Sl (y2.alloc (.cells #[.int .u8 (cb.toNat : Int)] 5)) (y2.heap.size + 1) (some ⟨y2.heap.size, 0, none⟩) 1 1 (bv [cb])) := Sl.lit y2 5 (bv [cb]) 1 rfl (by simp [maxLen])
            have S := Lib.hid (S.out.trans (hb.mono S.out.size))
            refine hK _ _ S.out ?_
            clear hK K hb
            have hz : (y2.alloc (.cells #[.int .u8 (cb.toNat : Int)] 5)).heap.size = y2.heap.size + 1 := size_al _ _
            rw [← hz] at SL
            generalize hg : y2.alloc (.cells #[.int .u8 (cb.toNat : Int)] 5) = y3 at *
            clear hg hz
            skip
            have KC := Lib.hid (fun V (hV : Below y3.heap.size y3 V) => conv_text (src := 86) (dst := 9) Tryz.underlying86 Tryz.underlying5 Tryz.underlying9 (SL.out.keep (w' := V) hV.block))
            refine HeadW.stronger (S' := fun w' => Below W1.heap.size W1 w' ∧ Below y3.heap.size y3 w') (fun _ h => h.1) ?_
            have S := Lib.hid (⟨S.out, Below.refl _ _⟩ : Below W1.heap.size W1 y3 ∧ Below y3.heap.size y3 y3)
            refine HeadW_take (i := 11) (v := ?_) G rfl (by kernel_rfl) (by kernel_rfl) (by kernel_rfl) (fun _ _ _ h => h) (Or.inl ⟨by rfl, ?_⟩) S.out ?_
            rotate_left
            · intro wz hS
              have kc := KC.out _ hS.2
              go_simp
              try with_reducible rfl
            refine HeadW_take (i := 12) (v := .string (s ++ xa ++ ⟨#[32]⟩ ++ ⟨#[cb]⟩)) G rfl (by kernel_rfl) (by kernel_rfl) (by kernel_rfl) (fun _ _ _ h => h) (Or.inl ⟨by rfl, ?_⟩) S.out ?_
            · intro wz hS
              go_simp
              try omega
            refine HeadW_take (i := 13) (v := .string (s ++ xa ++ ⟨#[32]⟩ ++ ⟨#[cb]⟩ ++ ⟨#[32]⟩)) G rfl (by kernel_rfl) (by kernel_rfl) (by kernel_rfl) (fun _ _ _ h => h) (Or.inl ⟨by rfl, ?_⟩) S.out ?_
            · intro wz hS
              go_simp
              try omega
            refine HeadW_take (i := 17) (v := .string (s ++ xa ++ ⟨#[32]⟩ ++ ⟨#[cb]⟩ ++ ⟨#[32]⟩ ++ xv)) G rfl (by kernel_rfl) (by kernel_rfl) (by kernel_rfl) (fun _ _ _ h => h) (Or.inl ⟨by rfl, ?_⟩) S.out ?_
            · intro wz hS
              go_simp
              try omega
            intro _
            refine ⟨by kernel_rfl, ?_⟩
            simp only [List.drop_succ_cons, List.drop_zero]
            go_wp2_with fail
            go_roundw
            case rel => exact ⟨p + 1, _, by omega, by go_num, rfl, by rw [HST.out, HD.out]; simp [bl_app, bl_mka], below_step BM.out S.out.1⟩
            case measure => simp [intOf]; omega
        · go_simp
          have hb : Below y0.heap.size y0 (y0.alloc (.cells #[.int .u8 (cb.toNat : Int)] 5)) := (Below.refl _ _).alloc (Nat.le_refl _) _
          have SL : Hid (Sl (y0.alloc (.cells #[.int .u8 (cb.toNat : Int)] 5)) (y0.heap.size + 1) (some ⟨y0.heap.size, 0, none⟩) 1 1 (bv [cb])) := Sl.lit y0 5 (bv [cb]) 1 rfl (by simp [maxLen])
          have S := Lib.hid (S.out.trans (hb.mono S.out.size))
          refine hK _ _ S.out ?_
          clear hK K hb
          have hz : (y0.alloc (.cells #[.int .u8 (cb.toNat : Int)] 5)).heap.size = y0.heap.size + 1 := size_al _ _
          rw [← hz] at SL
          generalize hg : y0.alloc (.cells #[.int .u8 (cb.toNat : Int)] 5) = y1 at *
          clear hg hz
          skip
          have KC := Lib.hid (fun V (hV : Below y1.heap.size y1 V) => conv_text (src := 86) (dst := 9) Tryz.underlying86 Tryz.underlying5 Tryz.underlying9 (SL.out.keep (w' := V) hV.block))
          refine HeadW.stronger (S' := fun w' => Below W1.heap.size W1 w' ∧ Below y1.heap.size y1 w') (fun _ h => h.1) ?_
          have S := Lib.hid (⟨S.out, Below.refl _ _⟩ : Below W1.heap.size W1 y1 ∧ Below y1.heap.size y1 y1)
          refine HeadW_take (i := 11) (v := ?_) G rfl (by kernel_rfl) (by kernel_rfl) (by kernel_rfl) (fun _ _ _ h => h) (Or.inl ⟨by rfl, ?_⟩) S.out ?_
          rotate_left
          · intro wz hS
            have kc := KC.out _ hS.2
            go_simp
            try with_reducible rfl
          refine HeadW_ready (rs := [3]) (by kernel_rfl) rfl rfl ?_
          refine AllW.cons rfl (fun K hK => ?_) AllW.nil
          try go_simp
          refine (QA.out _ S.out.1).mono ?_
          rintro e y2 ⟨rfl, hb⟩
          have S := Lib.hid (⟨S.out.1.trans (hb.mono S.out.1.size), S.out.2.trans (hb.mono S.out.2.size)⟩ : _ ∧ _)
          refine hK _ _ S.out ?_
          clear hK K hb
          refine HeadW_take (i := 4) (v := .string (s ++ xa)) G rfl (by kernel_rfl) (by kernel_rfl) (by kernel_rfl) (fun _ _ _ h => h) (Or.inl ⟨by rfl, ?_⟩) S.out ?_
          · intro wz hS
            go_simp
            try omega
          refine HeadW_take (i := 5) (v := .string (s ++ xa ++ ⟨#[32]⟩)) G rfl (by kernel_rfl) (by kernel_rfl) (by kernel_rfl) (fun _ _ _ h => h) (Or.inl ⟨by rfl, ?_⟩) S.out ?_
          · intro wz hS
            go_simp
            try omega
          refine HeadW_take (i := 12) (v := .string (s ++ xa ++ ⟨#[32]⟩ ++ ⟨#[cb]⟩)) G rfl (by kernel_rfl) (by kernel_rfl) (by kernel_rfl) (fun _ _ _ h => h) (Or.inl ⟨by rfl, ?_⟩) S.out ?_
          · intro wz hS
            go_simp
            try omega
          refine HeadW_take (i := 13) (v := .string (s ++ xa ++ ⟨#[32]⟩ ++ ⟨#[cb]⟩ ++ ⟨#[32]⟩)) G rfl (by kernel_rfl) (by kernel_rfl) (by kernel_rfl) (fun _ _ _ h => h) (Or.inl ⟨by rfl, ?_⟩) S.out ?_
          · intro wz hS
            go_simp
            try omega
          refine HeadW_ready (rs := [16]) (by kernel_rfl) rfl rfl ?_
          refine AllW.cons rfl (fun K hK => ?_) AllW.nil
          try go_simp
          refine (QT.out _ S.out.1).mono ?_
          rintro e y3 ⟨rfl, hb⟩
          have S := Lib.hid (⟨S.out.1.trans (hb.mono S.out.1.size), S.out.2.trans (hb.mono S.out.2.size)⟩ : _ ∧ _)
          refine hK _ _ S.out ?_
          clear hK K hb
          refine HeadW_take (i := 17) (v := .string (s ++ xa ++ ⟨#[32]⟩ ++ ⟨#[cb]⟩ ++ ⟨#[32]⟩ ++ xv)) G rfl (by kernel_rfl) (by kernel_rfl) (by kernel_rfl) (fun _ _ _ h => h) (Or.inl ⟨by rfl, ?_⟩) S.out ?_
          · intro wz hS
            go_simp
            try omega
          intro _
          refine ⟨by kernel_rfl, ?_⟩
          simp only [List.drop_succ_cons, List.drop_zero]
          go_wp2_with fail
          go_roundw
          case rel => exact ⟨p + 1, _, by omega, by go_num, rfl, by rw [HST.out, HD.out]; simp [bl_app, bl_mka], below_step BM.out S.out.1⟩
          case measure => simp [intOf]; omega
end Go.Proofs.YtjpkemamfccfdaaGreatDoor
/- Expressions as text, plainly: the stack at each node. -/
namespace Go.Proofs.YtjpkemamfccfdaaGreatDoor
set_option linter.unusedVariables false

theorem stackT_next {l : List Nod} {k : Nat} {x : Nod} (hx : l[k]? = some x) : stackT (l.take (k + 1)) = stepT (stackT (l.take k)) x := by
  unfold stackT
  rw [take_next hx, List.foldl_append]
  rfl
theorem run_some {l : List Nod} (h : exprE l = 0) (k : Nat) : ∃ st, runX (l.take k) [] = some st ∧ ∀ x, l[k]? = some x → ∃ st', stepX x st = some st' := by
  by_cases hn : l = []
  · subst hn
    exact ⟨[], by simp [runX], fun x hx => by simp at hx⟩
  · have h2 : runX l [] = some [false] := by
      unfold exprE at h
      split at h
      · cases h
      · cases hr : runX l [] with
        | none => rw [hr] at h; cases h
        | some st =>
          rw [hr] at h
          simp only at h
          split at h
          · rename_i hh
            rcases hh with hh | hh
            · exact absurd hh hn
            · rw [hh]
          · cases h
    have h3 := h2
    rw [← List.take_append_drop k l, runX_app] at h3
    cases hr : runX (l.take k) [] with
    | none => rw [hr] at h3; cases h3
    | some st =>
      refine ⟨st, rfl, fun x hx => ?_⟩
      rw [hr] at h3
      simp only at h3
      have hd : l.drop k = x :: l.drop (k + 1) := by
        have hlt : k < l.length := by
          rcases Nat.lt_or_ge k l.length with h | h
          · exact h
          · rw [List.getElem?_eq_none h] at hx; cases hx
        rw [List.drop_eq_getElem_cons hlt]
        rw [List.getElem?_eq_getElem hlt] at hx
        injection hx with hx
        rw [hx]
      rw [hd] at h3
      simp only [runX] at h3
      cases hs : stepX x st with
      | none => rw [hs] at h3; cases h3
      | some st' => exact ⟨st', rfl⟩
theorem flat_pos : ∀ t : Xt, 1 ≤ t.flat.length
  | .leaf n => by simp [Xt.flat]
  | .one n x => by simp [Xt.flat]
  | .two n x y => by simp [Xt.flat]; omega
theorem flats_len : ∀ ts : List Xt, ts.length ≤ (flats ts).length
  | [] => Nat.zero_le _
  | t :: ts => by
    have := flats_len ts
    have := flat_pos t
    rw [flats_cons, List.length_append, List.length_cons]
    omega
theorem flats_mem : ∀ {ts : List Xt} {t : Xt}, t ∈ ts → ∀ n ∈ t.flat, n ∈ flats ts
  | x :: ts, t, ht, n, hn => by
    rw [flats_cons, List.mem_append]
    rcases List.mem_cons.1 ht with rfl | ht
    · exact .inr hn
    · exact .inl (flats_mem ht n hn)
theorem flat_le : ∀ {ts : List Xt} {t : Xt}, t ∈ ts → t.flat.length ≤ (flats ts).length
  | x :: ts, t, ht => by
    rw [flats_cons, List.length_append]
    rcases List.mem_cons.1 ht with rfl | ht
    · omega
    · have := flat_le ht; omega
/-- What stands on the stack behind so many nodes. -/
theorem stack_at {l : List Nod} (h : exprE l = 0) (hok : ∀ n ∈ l, n.ok) (k : Nat) : (stackT (l.take k)).length ≤ 32 ∧ (∀ x ∈ stackT (l.take k), x.length ≤ 14000) ∧
    ∀ x, l[k]? = some x → holdsB x = true ∧ (1 ≤ x.op ∧ x.op ≤ 13) ∧ takesN x.op ≤ (stackT (l.take k)).length := by
  have h32 : l.length ≤ 32 := by
    unfold exprE at h
    split at h
    · cases h
    · omega
  obtain ⟨st, hr, hs⟩ := run_some h k
  obtain ⟨ts, hf, hb, hl, ht⟩ := run_trees (l.take k) [] st (fun x hx => by cases hx) hr
  have hl' : l.take k = flats ts := hl
  have ht' : stackT (l.take k) = txts ts := ht
  have hlen : (flats ts).length ≤ 32 := by rw [← hl', List.length_take]; omega
  have hx : (txts ts).length = ts.length := by simp [txts]
  have := flats_len ts
  refine ⟨by rw [ht', hx]; omega, fun x hx => ?_, fun x hx' => ?_⟩
  · rw [ht'] at hx
    unfold txts at hx
    obtain ⟨t, ht, rfl⟩ := List.mem_map.1 hx
    have ht : t ∈ ts := by simpa using ht
    have a := tree_len (hf t ht) (fun n hn => hok n (List.mem_of_mem_take (by rw [hl']; exact flats_mem ht n hn)))
    have b := flat_le ht
    omega
  · obtain ⟨st', hs'⟩ := hs x hx'
    unfold stepX at hs'
    split at hs'
    · rename_i hh
      rw [ht', hx]
      have hbl : st.length = ts.length := by rw [← hb, List.length_map]
      rcases popX_cases hs' with ⟨ho, he⟩ | ⟨r, ho, he⟩ | ⟨r, ho, he⟩
      · refine ⟨hh, by omega, ?_⟩
        unfold takesN
        rw [if_pos ho]
        exact Nat.zero_le _
      · refine ⟨hh, by omega, ?_⟩
        have : 1 ≤ st.length := by rcases ho with ⟨_, h⟩ | ⟨_, h⟩ <;> rw [h] <;> simp
        unfold takesN
        rw [if_neg (by omega), if_pos (by omega)]
        omega
      · unfold twoOp at ho
        refine ⟨hh, by omega, ?_⟩
        have : 2 ≤ st.length := by rcases ho with ⟨_, h⟩ | ⟨_, h⟩ <;> rw [h] <;> simp
        unfold takesN
        rw [if_neg (by omega), if_neg (by omega)]
        omega
    · cases hs'
theorem stack_end {l : List Nod} (h : exprE l = 0) (hn : l ≠ []) : stackT l = [exprT l] := by
  obtain ⟨st, hr, _⟩ := run_some h l.length
  rw [List.take_length] at hr
  obtain ⟨ts, hf, hb, hl, ht⟩ := run_trees l [] st (fun x hx => by cases hx) hr
  have h1 : st = [false] := by
    unfold exprE at h
    split at h
    · cases h
    · rw [hr] at h
      simp only at h
      split at h
      · rename_i hh
        exact hh.resolve_left hn
      · cases h
  subst h1
  rcases ts with _ | ⟨t, _ | ⟨u, ts⟩⟩
  · cases hb
  · have : stackT l = txts [t] := ht
    unfold exprT
    rw [this]
    rfl
  · simp at hb
/-- A node's text isn't too long. -/
theorem node_len {l : List Nod} (h : exprE l = 0) (hok : ∀ n ∈ l, n.ok) {k : Nat} {x : Nod} (hx : l[k]? = some x) : (nodeT x ((stackT (l.take k)).drop ((stackT (l.take k)).length - takesN x.op))).length ≤ 14000 := by
  have h1 := (stack_at h hok (k + 1)).2.1
  rw [stackT_next hx] at h1
  exact h1 _ (by unfold stepT; simp)
end Go.Proofs.YtjpkemamfccfdaaGreatDoor
/- A node's text; a target's words. -/
namespace Go.Proofs.YtjpkemamfccfdaaGreatDoor
set_option linter.unusedVariables false
open Go.RowKit Go.Sort

set_option maxHeartbeats 1600000 in
theorem show_node (n : Nod) (hok : n.ok) (hh : holdsB n = true) (h13 : 1 ≤ n.op ∧ n.op ≤ 13) {B m c : Nat} {A : Option Addr} {ps : List (List UInt8)} (w : World) (hp : Sl w B A m c (tv ps)) (hB : B ≤ w.heap.size) (hm : m ≤ 1000) (hl : (nodeT n ps).length ≤ 14000) (ht : Tbl w) :
    Calls Tryz.prog 30 #[.agg #[.int .i64 n.op, .int .i64 n.v.k, .int .i64 n.v.n, .string n.v.s, .int .i64 n.a.cat, .string n.a.name, .bool n.a.must], .slice A m c] w fun e w' => e = .returned (.string ⟨(nodeT n ps).toArray⟩) ∧ Below w.heap.size w w' := by
  have HT : Hid (∀ W, Below w.heap.size w W → Tbl W) := fun W hb => ht.then_ hb
  by_cases h1 : n.op = 1
  · obtain ⟨hr, he⟩ := holds_lit hh h1
    have hs := right_small hr
    have HC : Hid (∀ W, Below w.heap.size w W → Calls Tryz.prog 56 #[.agg #[.int .i64 n.v.k, .int .i64 n.v.n, .string n.v.s]] W fun e w' => e = .returned (.string ⟨(nodeT n ps).toArray⟩) ∧ Below W.heap.size W w') := fun W hb => by
      have e : nodeT n ps = showB n.v := by unfold nodeT; rw [if_pos h1]
      rw [e]
      exact vtext_any n.v.k n.v.n n.v.s hok.2.1.2.1 hs W (HT.out _ hb).tab
    generalize nodeT n ps = r at *
    obtain ⟨op, ⟨k, nn, s⟩, ⟨ca, nm, mu⟩⟩ := n
    simp only at h1 HC ⊢
    subst h1
    clear hok hh h13 hp hB hm hl ht hr he hs
    go_enter Tryz.func30, Tryz.ntmps30
    have C1 := Lib.hid (Ob.made w 52 #[.int .i64 1, .int .i64 k, .int .i64 nn, .string s, .int .i64 ca, .string nm, .bool mu])
    have B0 := Lib.hid (al9' w (.cells #[.int .i64 1, .int .i64 k, .int .i64 nn, .string s, .int .i64 ca, .string nm, .bool mu] 52))
    go_wp2_with (go_at_call 56; refine (HC.out _ B0.out).mono ?_; rintro e w1 ⟨rfl, hb1⟩; have B1 := Lib.hid (B0.out.trans (hb1.mono B0.out.size)))
    go_ret
    exact ⟨rfl, B1.out⟩
  · by_cases h2 : n.op = 2
    · obtain ⟨hr, he⟩ := holds_att hh h2
      have HC : Hid (∀ W, Below w.heap.size w W → Calls Tryz.prog 14 #[.agg #[.int .i64 n.a.cat, .string n.a.name, .bool n.a.must]] W fun e w' => e = .returned (.string ⟨(nodeT n ps).toArray⟩) ∧ Below W.heap.size W w') := fun W hb => by
        have e : nodeT n ps = attrS n.a := by unfold nodeT; rw [if_neg h1, if_pos h2]
        rw [e]
        exact show_attr n.a hok.2.2 W (HT.out _ hb)
      generalize nodeT n ps = r at *
      obtain ⟨op, ⟨k, nn, s⟩, ⟨ca, nm, mu⟩⟩ := n
      simp only at h2 HC ⊢
      subst h2
      clear hok hh h13 hp hB hm hl ht hr he h1
      go_enter Tryz.func30, Tryz.ntmps30
      have C1 := Lib.hid (Ob.made w 52 #[.int .i64 2, .int .i64 k, .int .i64 nn, .string s, .int .i64 ca, .string nm, .bool mu])
      have B0 := Lib.hid (al9' w (.cells #[.int .i64 2, .int .i64 k, .int .i64 nn, .string s, .int .i64 ca, .string nm, .bool mu] 52))
      go_wp2_with (go_at_call 14; refine (HC.out _ B0.out).mono ?_; rintro e w1 ⟨rfl, hb1⟩; have B1 := Lib.hid (B0.out.trans (hb1.mono B0.out.size)))
      go_ret
      exact ⟨rfl, B1.out⟩
    · have hE : nodeT n ps = 40 :: (fnW n.op ++ 32 :: (Lib.join ps (bl ⟨#[32]⟩) ++ [41])) := nodeT_fun h1 h2 ps
      obtain ⟨x, hx⟩ : ∃ x : ByteArray, x = ⟨(fnW n.op).toArray⟩ := ⟨_, rfl⟩
      obtain ⟨y, hy⟩ : ∃ x : ByteArray, x = ⟨(Lib.join ps (bl ⟨#[32]⟩)).toArray⟩ := ⟨_, rfl⟩
      have hxs : x.size ≤ 4 := by rw [hx]; exact word_size (fnW_len _)
      have hys : y.size ≤ 14000 := by
        rw [hE] at hl
        simp only [List.length_cons, List.length_append, List.length_nil] at hl
        rw [hy]
        exact word_size (by omega)
      have HE : Hid (nodeT n ps = 40 :: (bl x ++ 32 :: (bl y ++ [41]))) := by
        show nodeT n ps = _
        rw [hE, hx, hy]; rfl
      have QJ : ∀ W, Below w.heap.size w W → ∀ d os, Calls Tryz.prog 24 #[.slice A m c, .string ⟨#[32]⟩] (grow (redrawn W d) os) fun e w'' => e = .returned (.string y) ∧ ∃ p : Regrown, w'' = grow (redrawn W p.d) p.os := fun W hb d os => by
        have hb2 := hb.trans ((below_regrown W d os).mono hb.size)
        rw [hy]
        exact Calls.regrown_of (join_row (hp.below (hb2.mono hB)) (Nat.le_trans hB hb2.size) (by omega) ⟨#[32]⟩ (by
          have e : (Lib.join ps (bl ⟨#[32]⟩)).length = y.size := by rw [hy]; rfl
          rw [e]; exact Nat.le_trans hys (by omega)))
      have hG : ∀ W, Below w.heap.size w W → ∀ d os, (grow (redrawn W d) os).cell? ⟨2, n.op.toNat, none⟩ = some (.string x) := fun W hb d os => by
        rw [hx]; exact (HT.out _ (hb.trans ((below_regrown W d os).mono hb.size))).fn (by omega) (by omega)
      have HQJ := Lib.hid QJ
      have HG := Lib.hid hG
      generalize nodeT n ps = r at *
      obtain ⟨op, ⟨k, nn, s⟩, ⟨ca, nm, mu⟩⟩ := n
      simp only at h1 h2 h13 HG ⊢
      have hi : 0 ≤ op ∧ op < 14 := by omega
      have e1 : (op == 1) = false := by rw [beq_eq_false_iff_ne]; exact h1
      have e2 : (op == 2) = false := by rw [beq_eq_false_iff_ne]; exact h2
      clear hok hh hp hB hm hl ht hE hx hy QJ hG h13
      go_enter Tryz.func30, Tryz.ntmps30
      go_wp2_with fail
      have C1 := Lib.hid (Ob.made w 52 #[.int .i64 op, .int .i64 k, .int .i64 nn, .string s, .int .i64 ca, .string nm, .bool mu])
      have B0 := Lib.hid (al9' w (.cells #[.int .i64 op, .int .i64 k, .int .i64 nn, .string s, .int .i64 ca, .string nm, .bool mu] 52))
      have Q1 := Lib.hid (HQJ.out _ B0.out)
      have g1 := HG.out _ B0.out
      have x0 := fun d os => cell_regrown (C1.out.cell 0) d os
      refine wp_region_quiet_below (by kernel_rfl) (by kernel_rfl) ?_
      repeat (go_big_quiet_step ((go_at_call 24; exact Q1.out _ _)))
      refine wpQuiet_nil ?_
      intro _ hw'
      obtain ⟨⟨dq, osq⟩, hw''⟩ := hw'
      subst hw''
      have BQ := Lib.hid (below_regrown (w.alloc (.cells #[.int .i64 op, .int .i64 k, .int .i64 nn, .string s, .int .i64 ca, .string nm, .bool mu] 52)) dq osq)
      generalize grow (redrawn _ dq) osq = w2 at *
      go_wp2_with fail
      go_ret
      refine ⟨ret_text ?_, B0.out.trans (BQ.out.mono B0.out.size)⟩
      rw [HE.out]
      simp [bl_app, bl_mka]

theorem tg_ne {t : Tgt} (h : t ≠ []) : tgW t = [[119, 104, 101, 110], tgT t] := by unfold tgW; rw [if_neg h]
theorem show_target {R : Nat → Prop} {A : Option Addr} {n c : Nat} {t : Tgt} (w : World) (h : Tg w R A n c t) (hf : tgE t = 0) (ht : Tbl w) :
    Calls Tryz.prog 45 #[.slice A n c] w fun e w' => ∃ A' m c', e = .returned (.slice A' m c') ∧ m ≤ 2 ∧ TR w' w.heap.size A' m c' (tgW t) ∧ Below w.heap.size w w' := by
  have hn := Rw.len h
  have h8 := (tgE_all hf).1
  by_cases h0 : n = 0
  · subst h0
    obtain rfl : t = [] := List.eq_nil_of_length_eq_zero hn
    clear hn h8 h ht hf
    go_enter Tryz.func45, Tryz.ntmps45
    go_wp2_with fail
    go_ret
    exact ⟨none, 0, 0, rfl, by omega, TR.nil _ _, Below.refl _ _⟩
  · have hne : t ≠ [] := by rintro rfl; simp at hn; omega
    have hl8 := tg_len hf (Tg.oks' h)
    have HC := Lib.hid (texts_anyOf h (by omega) (tgE_all hf).2 ht)
    have HN := Lib.hid (show n ≤ 1000 by omega)
    have hz : ((n : Int) == 0) = false := by rw [beq_eq_false_iff_ne]; omega
    obtain ⟨x, hx⟩ : ∃ x : ByteArray, x = ⟨(Lib.join (t.map anyT) (bl ⟨#[32, 97, 110, 100, 32]⟩)).toArray⟩ := ⟨_, rfl⟩
    have HE : Hid (tgW t = [⟨#[119, 104, 101, 110]⟩, x].map bl) := by
      show tgW t = _
      rw [tg_ne hne, hx]; rfl
    have HJL : Hid ((Lib.join (t.map anyT) (bl ⟨#[32, 97, 110, 100, 32]⟩)).length ≤ 140737488355328) := Nat.le_trans hl8 (by omega)
    have HJE := Lib.hid hx
    clear h hn h8 hl8 hf ht hx h0 hne
    go_enter Tryz.func45, Tryz.ntmps45
    go_wp2_with (first
      | (go_at_call 63; refine HC.out.mono ?_; rintro e w1 ⟨B, d, rfl, hr, hb1⟩; have B1 := Lib.hid hb1; have HJ := Lib.hid (join_row hr.sl (Nat.le_refl _) (by have := HN.out; omega) ⟨#[32, 97, 110, 100, 32]⟩ HJL.out); rw [← HJE.out] at HJ; clear hr hb1)
      | (go_at_call 24; refine HJ.out.mono ?_; rintro e w2 ⟨rfl, hb2⟩; have B2 := Lib.hid (below_step B1.out hb2); clear hb2))
    go_ret
    refine ⟨_, 2, 2, rfl, by omega, ?_, B2.out.alloc B2.out.size _⟩
    rw [HE.out]
    exact (TR.lit w2 [⟨#[119, 104, 101, 110]⟩, x] (n := 2) rfl (by omega)).less B2.out.size
end Go.Proofs.YtjpkemamfccfdaaGreatDoor
/- The reference's text of an expression. -/
namespace Go.Proofs.YtjpkemamfccfdaaGreatDoor
set_option linter.unusedVariables false
open Go.RowKit Go.Sort

theorem TR.form {w : World} {base n c : Nat} {A : Option Addr} {xs : List (List UInt8)} (h : TR w base A n c xs) (hn : 0 < n) : ∃ g, A = some ⟨g, 0, none⟩ ∧ base ≤ g ∧ g < w.heap.size := by
  rcases h.2 with ⟨_, h0⟩ | ⟨g, cap, cur, e, _⟩
  · omega
  · injection e with e1 e2 e3
    have := h.lt g (by rw [e1]; rfl)
    exact ⟨g, e1, this.1, this.2⟩
theorem TR.cellAt {w : World} {base n c g : Nat} {xs : List (List UInt8)} (h : TR w base (some ⟨g, 0, none⟩) n c xs) {j : Nat} {x : List UInt8} (hx : xs[j]? = some x) : w.cell? ⟨g, j, none⟩ = some (.string ⟨x.toArray⟩) := by
  have hl := h.len
  obtain ⟨hj, _⟩ := List.getElem?_eq_some_iff.1 hx
  rw [World.ownsRow.cellAt h j (by omega)]
  unfold tv
  rw [List.getElem?_map, hx]
  rfl
theorem TR.frozen {w : World} {base n c g : Nat} {xs : List (List UInt8)} (h : TR w base (some ⟨g, 0, none⟩) n c xs) (j : Nat) : w.frozen? ⟨g, j, none⟩ = false := World.ownsRow.frozenAt h j
theorem TR.put {w : World} {base n c g : Nat} {xs : List (List UInt8)} (h : TR w base (some ⟨g, 0, none⟩) n c xs) (j : Nat) (x : ByteArray) : TR (w.setCell ⟨g, j, none⟩ (.string x)) base (some ⟨g, 0, none⟩) n c (xs.set j (bl x)) := by
  have := (World.ownsRow.stored h j (.string x)).1
  unfold TR tv
  rw [List.map_set, bl_toArray]
  exact this
theorem rs_setlast {α : Type} {l : List α} {q : Nat} (h : l.length = q + 1) (y : α) : l.set q y = l.take q ++ [y] := by
  apply List.ext_getElem
  · rw [List.length_set, List.length_append, List.length_take]; simp; omega
  · intro i h1 h2
    rw [List.length_set] at h1
    by_cases hi : i = q
    · subst hi; rw [List.getElem_set_self, List.getElem_append_right (by rw [List.length_take]; omega)]; simp
    · rw [List.getElem_set_ne (by omega), List.getElem_append_left (by rw [List.length_take]; omega), List.getElem_take]
theorem rs_droplast {α : Type} {l : List α} {q : Nat} (h : l.length = q + 1) : ∃ u, l.drop q = [u] ∧ l[q]? = some u := by
  refine ⟨l[q], ?_, List.getElem?_eq_getElem (by omega)⟩
  rw [List.drop_eq_getElem_cons (by omega), List.drop_eq_nil_of_le (by omega)]
theorem rs_droptwo {α : Type} {l : List α} {q : Nat} (h : l.length = q + 2) : ∃ u v, l.drop q = [u, v] ∧ l[q]? = some u ∧ l[q + 1]? = some v := by
  refine ⟨l[q], l[q + 1], ?_, List.getElem?_eq_getElem (by omega), List.getElem?_eq_getElem (by omega)⟩
  rw [List.drop_eq_getElem_cons (by omega), List.drop_eq_getElem_cons (by omega), List.drop_eq_nil_of_le (by omega)]

set_option maxRecDepth 100000 in
set_option maxHeartbeats 12800000 in
theorem rshowexpr_any {R : Nat → Prop} {A : Option Addr} {n c : Nat} {l : List Nod} (w : World) (h : Nds w R A n c l) (hf : exprE l = 0) (hne : l ≠ []) :
    Calls Tryz.prog 7 #[.slice A n c] w fun e w' => e = .returned (.string ⟨(exprT l).toArray⟩) ∧ Below w.heap.size w w' := by
  have hle := Rw.le h
  have hcap := Rw.cap h
  have hbig := Rw.big h
  have HL := Lib.hid (Rw.len h)
  unfold maxLen at hcap
  have hok := Rw.all h
  have HS := Lib.hid (stack_at hf hok)
  have HNL := Lib.hid (fun k x (hx : l[k]? = some x) => node_len hf hok hx)
  have HEND : Hid (stackT l = [exprT l]) := stack_end hf hne
  have H := Lib.hid h
  clear h hf hne hok
  go_enter Tryz.func7, Tryz.ntmps7
  go_wp2
  go_loopw [3, 9] (fun s i wr => ∃ (k m : Nat) (B : Option Addr) (d : Nat), k ≤ n ∧ s = .slice B m d ∧ i = .int .i64 k ∧ TR wr w.heap.size B m d (stackT (l.take k)) ∧ Below w.heap.size w wr) (fun _ i _ => n - (intOf i).toNat)
  case atStart => exact ⟨0, 0, none, 0, Nat.zero_le _, rfl, rfl, TR.nil _ _, Below.refl _ _⟩
  case round =>
    obtain ⟨k, m, B, d, hk, rfl, rfl, hr, hb⟩ := hrel
    have HR := Lib.hid hr
    have HB := Lib.hid hb
    clear hr hb
    by_cases hlt : k < n
    case neg =>
      obtain rfl : k = n := by omega
      have hrr := HR.out
      rw [List.take_of_length_le (by rw [HL.out]; exact Nat.le_refl _), HEND.out] at hrr
      have hm1 := hrr.len
      obtain rfl : m = 1 := by simpa using hm1.symm
      obtain ⟨g, rfl, _, _⟩ := hrr.form (by omega)
      have hc := hrr.cellAt (j := 0) rfl
      clear hrr hm1
      go_wp2_with fail
      go_ret
      exact ⟨rfl, HB.out⟩
    obtain ⟨b, o, x, rfl, hRb, hbl, hx, hok, c0, c1, c2, c3, c4, c5, c6⟩ := (H.out.keep (Kept.all HB.out R) (fun _ h _ => h)).at_ hlt
    obtain ⟨s1, s2, s3⟩ := HS.out k
    obtain ⟨hh, h13, htk⟩ := s3 x hx
    have hml := HR.out.len
    have hmd := (HR.out.sl).le
    have hdm := (HR.out.sl).cap
    unfold maxLen at hdm
    have hm32 : m ≤ 32 := by omega
    have HX : Hid (stackT (l.take (k + 1)) = (stackT (l.take k)).take (m - takesN x.op) ++ [nodeT x ((stackT (l.take k)).drop (m - takesN x.op))]) := by
      show stackT (l.take (k + 1)) = _
      rw [stackT_next hx]
      unfold stepT
      rw [hml]
    have hnl : (nodeT x ((stackT (l.take k)).drop (m - takesN x.op))).length ≤ 14000 := by
      have := HNL.out k x hx
      rwa [hml] at this
    have HSB : Hid (∀ u ∈ stackT (l.take k), u.length ≤ 14000) := s2
    have htk' : takesN x.op ≤ m := by rw [← hml]; exact htk
    have HXK := Lib.hid hx
    clear hx s1 s2 s3 htk
    generalize stackT (l.take k) = xs at *
    generalize hys : stackT (l.take (k + 1)) = ys at *
    have HYS := Lib.hid hys
    clear hys
    by_cases h1 : x.op = 1
    · obtain ⟨hrt, -⟩ := holds_lit hh h1
      have hvs := right_small hrt
      obtain ⟨xv, hxv⟩ : ∃ z : ByteArray, z = ⟨(showB x.v).toArray⟩ := ⟨_, rfl⟩
      have QT := Lib.hid (fun (V : World) => show Calls Tryz.prog 18 #[.agg #[.int .i64 x.v.k, .int .i64 x.v.n, .string x.v.s]] V (fun e w' => e = .returned (.string xv) ∧ Below V.heap.size V w') by rw [hxv]; exact vtextof_any x.v.k x.v.n x.v.s hok.2.1.2.1 hvs V)
      have HY : Hid (ys = xs ++ [bl xv]) := by
        show ys = _
        rw [HX.out, h1, show takesN 1 = 0 from rfl, Nat.sub_zero, List.take_of_length_le (by omega), hxv]
        unfold nodeT
        rw [if_pos h1]; rfl
      clear HX hnl HSB htk' HXK hxv hrt hvs hok hh h13
      obtain ⟨op, ⟨vk, vn, vs⟩, ⟨ac, an, au⟩⟩ := x
      simp only at h1 QT c0 c1 c2 c3 c4 c5 c6
      subst h1
      have B0 := Lib.hid (al9' wr (.cells #[.int .i64 1, .int .i64 vk, .int .i64 vn, .string vs, .int .i64 ac, .string an, .bool au] 52))
      go_wp2_with (first | (go_at_call 18; refine (QT.out _).mono ?_; rintro e w2 ⟨rfl, hb2⟩; have HBV := Lib.hid (B0.out.trans (hb2.mono B0.out.size)); clear hb2; obtain ⟨B', d', w9, hap, hr9, hb9⟩ := (HR.out.below HBV.out).push xv (by omega) (Nat.le_trans HB.out.size HBV.out.size) 59; have HAP := Lib.hid hap; have HR9 := Lib.hid hr9; have HB9 := Lib.hid ((below_step HB.out HBV.out).trans hb9); clear hap hr9 hb9) | (at_builtin; refine wpList_append_run rfl _ _ _ _ rfl rfl rfl HAP.out ?_))
      go_roundw
      case rel => exact ⟨k + 1, m + 1, B', d', by omega, rfl, by go_num, by rw [HYS.out, HY.out]; exact HR9.out, HB9.out⟩
      case measure => simp [intOf]; omega
    by_cases h2 : x.op = 2
    · obtain ⟨hrt, -⟩ := holds_att hh h2
      have hvs : x.a.name.size ≤ 1000000 := by
        have h1 : attrB x.a = true := hrt
        unfold attrB at h1
        simp only [Bool.and_eq_true, decide_eq_true_eq] at h1
        have h2 : (bl x.a.name).length ≤ 16 := h1.2.1.2
        rw [size_bl] at h2
        omega
      obtain ⟨xv, hxv⟩ : ∃ z : ByteArray, z = ⟨(attrT x.a).toArray⟩ := ⟨_, rfl⟩
      have QT := Lib.hid (fun (V : World) => show Calls Tryz.prog 9 #[.agg #[.int .i64 x.a.cat, .string x.a.name, .bool x.a.must]] V (fun e w' => e = .returned (.string xv) ∧ Below V.heap.size V w') by rw [hxv]; exact rattrT_any x.a hvs V)
      have HY : Hid (ys = xs ++ [bl xv]) := by
        show ys = _
        rw [HX.out, h2, show takesN 2 = 0 from rfl, Nat.sub_zero, List.take_of_length_le (by omega), hxv]
        unfold nodeT
        rw [if_neg (by omega), if_pos h2]
        unfold attrS
        rw [if_pos hrt]; rfl
      clear HX hnl HSB htk' HXK hxv hrt hvs hok hh h13
      obtain ⟨op, ⟨vk, vn, vs⟩, ⟨ac, an, au⟩⟩ := x
      simp only at h2 QT c0 c1 c2 c3 c4 c5 c6
      subst h2
      have B0 := Lib.hid (al9' wr (.cells #[.int .i64 2, .int .i64 vk, .int .i64 vn, .string vs, .int .i64 ac, .string an, .bool au] 52))
      go_wp2_with (first | (go_at_call 9; refine (QT.out _).mono ?_; rintro e w2 ⟨rfl, hb2⟩; have HBV := Lib.hid (B0.out.trans (hb2.mono B0.out.size)); clear hb2; obtain ⟨B', d', w9, hap, hr9, hb9⟩ := (HR.out.below HBV.out).push xv (by omega) (Nat.le_trans HB.out.size HBV.out.size) 59; have HAP := Lib.hid hap; have HR9 := Lib.hid hr9; have HB9 := Lib.hid ((below_step HB.out HBV.out).trans hb9); clear hap hr9 hb9) | (at_builtin; refine wpList_append_run rfl _ _ _ _ rfl rfl rfl HAP.out ?_))
      go_roundw
      case rel => exact ⟨k + 1, m + 1, B', d', by omega, rfl, by go_num, by rw [HYS.out, HY.out]; exact HR9.out, HB9.out⟩
      case measure => simp [intOf]; omega
    have HE := Lib.hid (nodeT_fun h1 h2)
    obtain ⟨xo, hxo⟩ : ∃ z : ByteArray, z = ⟨(fnW x.op).toArray⟩ := ⟨_, rfl⟩
    have hxos : xo.size ≤ 4 := by rw [hxo]; exact word_size (fnW_len _)
    have QO := Lib.hid (fun (V : World) => show Calls Tryz.prog 19 #[.int .i64 x.op] V (fun e w' => e = .returned (.string xo) ∧ w' = V) by rw [hxo]; exact rop_any x.op V)
    by_cases ho : x.op = 3
    case pos =>
      have htq : takesN x.op = 1 := by rw [ho]; rfl
      rw [htq] at HX htk'
      obtain ⟨q, hq⟩ : ∃ q, m = q + 1 := ⟨m - 1, by omega⟩
      have hqm : q < m := by omega
      have e1 : (m : Int) - (1 : Int) = (q : Int) := by omega
      obtain ⟨ut, hdr, hut⟩ := rs_droplast (l := xs) (q := q) (by omega)
      obtain ⟨u, hu⟩ : ∃ z : ByteArray, z = ⟨ut.toArray⟩ := ⟨_, rfl⟩
      have hus : u.size ≤ 14000 := by rw [hu]; exact word_size (HSB.out ut (List.mem_of_getElem? hut))
      have HY : Hid (ys = xs.set q (bl (⟨#[40]⟩ ++ xo ++ ⟨#[32]⟩ ++ u ++ ⟨#[41]⟩))) := by
        show ys = _
        rw [rs_setlast (by omega), HX.out, show m - 1 = q by omega, hdr, HE.out, hxo, hu]
        simp [bl_app, bl_mka, Lib.join_one]
      obtain ⟨g, rfl, hg1, hg2⟩ := HR.out.form (by omega)
      have HG := Lib.hid hg1
      have HUC := Lib.hid (fun V (hr : TR V w.heap.size (some ⟨g, 0, none⟩) m d xs) => show V.cell? ⟨g, q, none⟩ = some (.string u) by rw [hu]; exact hr.cellAt hut)
      obtain ⟨op, ⟨vk, vn, vs⟩, ⟨ac, an, au⟩⟩ := x
      simp only at ho QO c0 c1 c2 c3 c4 c5 c6
      have OB := Lib.hid (Ob.made wr 52 #[.int .i64 op, .int .i64 vk, .int .i64 vn, .string vs, .int .i64 ac, .string an, .bool au])
      have B0 := Lib.hid (al9' wr (.cells #[.int .i64 op, .int .i64 vk, .int .i64 vn, .string vs, .int .i64 ac, .string an, .bool au] 52))
      have ew : IntKind.i64.wrap (q : Int) = (q : Int) := by rw [IntKind.wrap_i64]; omega
      clear hq HX htk' hdr hut hu HSB HXK HE hxo hh h13 hok hnl htq h1 h2
      subst ho
      go_upto_region 12 with fail
      generalize hW1 : wr.alloc (.cells #[.int .i64 3, .int .i64 vk, .int .i64 vn, .string vs, .int .i64 ac, .string an, .bool au] 52) = W1 at *
      have hsz : W1.heap.size = wr.heap.size + 1 := by rw [← hW1]; exact size_al _ _
      have HSZ := Lib.hid hsz
      clear hW1 hsz
      have KM := Lib.hid (fun V (hV : Below W1.heap.size W1 V) => (OB.out.below hV OB.out.lt).cell 0)
      have HR1 := Lib.hid (HR.out.below B0.out)
      have HG1 := Lib.hid (show g < W1.heap.size by rw [HSZ.out]; omega)
      have HRV := Lib.hid (fun V (hV : Below W1.heap.size W1 V) => HR1.out.below hV)
      have KC := Lib.hid (fun V (hV : Below W1.heap.size W1 V) => HUC.out V (HRV.out V hV))
      clear c0 c1 c2 c3 c4 c5 c6
      refine wp_region_held_tail (fun w' => Below W1.heap.size W1 w') 16 (by kernel_rfl) (by kernel_rfl) ?_
      intro G
      change HeadW _ _ _ _ _ _ _ _ _ _ (W1.drewN 1)
      have S := Lib.hid (below_drewN (Below.refl W1.heap.size W1) 1)
      generalize W1.drewN 1 = y0 at *
      refine HeadW_take (i := 0) (v := ?_) G rfl (by kernel_rfl) (by kernel_rfl) (by kernel_rfl) (fun _ _ _ h => h) (Or.inl ⟨by rfl, ?_⟩) S.out ?_
      rotate_left
      · intro wz hS
        go_simp
        try with_reducible rfl
      refine HeadW_take (i := 1) (v := ?_) G rfl (by kernel_rfl) (by kernel_rfl) (by kernel_rfl) (fun _ _ _ h => h) (Or.inl ⟨by rfl, ?_⟩) S.out ?_
      rotate_left
      · intro wz hS
        go_simp
        try with_reducible rfl
      refine HeadW_take (i := 2) (v := ?_) G rfl (by kernel_rfl) (by kernel_rfl) (by kernel_rfl) (fun _ _ _ h => h) (Or.inl ⟨by rfl, ?_⟩) S.out ?_
      rotate_left
      · intro wz hS
        go_simp
        try with_reducible rfl
      refine HeadW_take (i := 3) (v := ?_) G rfl (by kernel_rfl) (by kernel_rfl) (by kernel_rfl) (fun _ _ _ h => h) (Or.inl ⟨by rfl, ?_⟩) S.out ?_
      rotate_left
      · intro wz hS
        go_simp
        try with_reducible rfl
      refine HeadW_take (i := 4) (v := ?_) G rfl (by kernel_rfl) (by kernel_rfl) (by kernel_rfl) (fun _ _ _ h => h) (Or.inl ⟨by rfl, ?_⟩) S.out ?_
      rotate_left
      · intro wz hS
        have k0 := KM.out _ hS
        go_simp
        try with_reducible rfl
      refine HeadW_take (i := 8) (v := ?_) G rfl (by kernel_rfl) (by kernel_rfl) (by kernel_rfl) (fun _ _ _ h => h) (Or.inl ⟨by rfl, ?_⟩) S.out ?_
      rotate_left
      · intro wz hS
        go_simp
        try with_reducible rfl
      refine HeadW_take (i := 9) (v := ?_) G rfl (by kernel_rfl) (by kernel_rfl) (by kernel_rfl) (fun _ _ _ h => h) (Or.inl ⟨by rfl, ?_⟩) S.out ?_
      rotate_left
      · intro wz hS
        go_simp
        try with_reducible rfl
      refine HeadW_take (i := 10) (v := ?_) G rfl (by kernel_rfl) (by kernel_rfl) (by kernel_rfl) (fun _ _ _ h => h) (Or.inl ⟨by rfl, ?_⟩) S.out ?_
      rotate_left
      · intro wz hS
        go_simp
        try with_reducible rfl
      refine HeadW_take (i := 11) (v := ?_) G rfl (by kernel_rfl) (by kernel_rfl) (by kernel_rfl) (fun _ _ _ h => h) (Or.inl ⟨by rfl, ?_⟩) S.out ?_
      rotate_left
      · intro wz hS
        have kc := KC.out _ hS
        go_simp
        try with_reducible rfl
      refine HeadW_take (i := 12) (v := ?_) G rfl (by kernel_rfl) (by kernel_rfl) (by kernel_rfl) (fun _ _ _ h => h) (Or.inl ⟨by rfl, ?_⟩) S.out ?_
      rotate_left
      · intro wz hS
        have kc := KC.out _ hS
        go_simp
        try with_reducible rfl
      refine HeadW_ready (rs := [5]) (by kernel_rfl) rfl rfl ?_
      refine AllW.cons rfl (fun K hK => ?_) AllW.nil
      try go_simp
      refine (QO.out _).mono ?_
      rintro e yy ⟨rfl, rfl⟩
      refine hK _ _ S.out ?_
      clear hK K
      refine HeadW_take (i := 6) (v := .string (⟨#[40]⟩ ++ xo)) G rfl (by kernel_rfl) (by kernel_rfl) (by kernel_rfl) (fun _ _ _ h => h) (Or.inl ⟨by rfl, ?_⟩) S.out ?_
      · intro wz hS
        go_simp
        try omega
      refine HeadW_take (i := 7) (v := .string (⟨#[40]⟩ ++ xo ++ ⟨#[32]⟩)) G rfl (by kernel_rfl) (by kernel_rfl) (by kernel_rfl) (fun _ _ _ h => h) (Or.inl ⟨by rfl, ?_⟩) S.out ?_
      · intro wz hS
        go_simp
        try omega
      refine HeadW_take (i := 13) (v := .string (⟨#[40]⟩ ++ xo ++ ⟨#[32]⟩ ++ u)) G rfl (by kernel_rfl) (by kernel_rfl) (by kernel_rfl) (fun _ _ _ h => h) (Or.inl ⟨by rfl, ?_⟩) S.out ?_
      · intro wz hS
        go_simp
        try omega
      refine HeadW_take (i := 14) (v := .string (⟨#[40]⟩ ++ xo ++ ⟨#[32]⟩ ++ u ++ ⟨#[41]⟩)) G rfl (by kernel_rfl) (by kernel_rfl) (by kernel_rfl) (fun _ _ _ h => h) (Or.inl ⟨by rfl, ?_⟩) S.out ?_
      · intro wz hS
        go_simp
        try omega
      refine HeadW_take (i := 15) (v := ?_) G rfl (by kernel_rfl) (by kernel_rfl) (by kernel_rfl) (fun _ _ _ h => h) (Or.inl ⟨by rfl, ?_⟩) S.out ?_
      rotate_left
      · intro wz hS
        have kc := KC.out _ hS
        go_simp
        try with_reducible rfl
      intro _
      refine ⟨by kernel_rfl, ?_⟩
      simp only [List.drop_succ_cons, List.drop_zero]
      have kc := KC.out _ S.out
      have kf := (HRV.out _ S.out).frozen q
      have HR9 := Lib.hid ((HRV.out _ S.out).put q (⟨#[40]⟩ ++ xo ++ ⟨#[32]⟩ ++ u ++ ⟨#[41]⟩))
      have HB9 := Lib.hid ((below_step HB.out (below_step B0.out S.out)).setCell (p := ⟨g, q, none⟩) HG.out (.string (⟨#[40]⟩ ++ xo ++ ⟨#[32]⟩ ++ u ++ ⟨#[41]⟩)))
      go_wp2_with fail
      go_roundw
      case rel => exact ⟨k + 1, m, _, d, by omega, rfl, by go_num, by rw [HYS.out, HY.out]; exact HR9.out, HB9.out⟩
      case measure => simp [intOf]; omega
    have h3 : x.op ≠ 3 := ho
    clear ho
    by_cases ho : x.op = 4
    case pos =>
      have htq : takesN x.op = 1 := by rw [ho]; rfl
      rw [htq] at HX htk'
      obtain ⟨q, hq⟩ : ∃ q, m = q + 1 := ⟨m - 1, by omega⟩
      have hqm : q < m := by omega
      have e1 : (m : Int) - (1 : Int) = (q : Int) := by omega
      obtain ⟨ut, hdr, hut⟩ := rs_droplast (l := xs) (q := q) (by omega)
      obtain ⟨u, hu⟩ : ∃ z : ByteArray, z = ⟨ut.toArray⟩ := ⟨_, rfl⟩
      have hus : u.size ≤ 14000 := by rw [hu]; exact word_size (HSB.out ut (List.mem_of_getElem? hut))
      have HY : Hid (ys = xs.set q (bl (⟨#[40]⟩ ++ xo ++ ⟨#[32]⟩ ++ u ++ ⟨#[41]⟩))) := by
        show ys = _
        rw [rs_setlast (by omega), HX.out, show m - 1 = q by omega, hdr, HE.out, hxo, hu]
        simp [bl_app, bl_mka, Lib.join_one]
      obtain ⟨g, rfl, hg1, hg2⟩ := HR.out.form (by omega)
      have HG := Lib.hid hg1
      have HUC := Lib.hid (fun V (hr : TR V w.heap.size (some ⟨g, 0, none⟩) m d xs) => show V.cell? ⟨g, q, none⟩ = some (.string u) by rw [hu]; exact hr.cellAt hut)
      obtain ⟨op, ⟨vk, vn, vs⟩, ⟨ac, an, au⟩⟩ := x
      simp only at ho QO c0 c1 c2 c3 c4 c5 c6
      have OB := Lib.hid (Ob.made wr 52 #[.int .i64 op, .int .i64 vk, .int .i64 vn, .string vs, .int .i64 ac, .string an, .bool au])
      have B0 := Lib.hid (al9' wr (.cells #[.int .i64 op, .int .i64 vk, .int .i64 vn, .string vs, .int .i64 ac, .string an, .bool au] 52))
      have ew : IntKind.i64.wrap (q : Int) = (q : Int) := by rw [IntKind.wrap_i64]; omega
      clear hq HX htk' hdr hut hu HSB HXK HE hxo hh h13 hok hnl htq h1 h2
      subst ho
      go_upto_region 12 with fail
      generalize hW1 : wr.alloc (.cells #[.int .i64 4, .int .i64 vk, .int .i64 vn, .string vs, .int .i64 ac, .string an, .bool au] 52) = W1 at *
      have hsz : W1.heap.size = wr.heap.size + 1 := by rw [← hW1]; exact size_al _ _
      have HSZ := Lib.hid hsz
      clear hW1 hsz
      have KM := Lib.hid (fun V (hV : Below W1.heap.size W1 V) => (OB.out.below hV OB.out.lt).cell 0)
      have HR1 := Lib.hid (HR.out.below B0.out)
      have HG1 := Lib.hid (show g < W1.heap.size by rw [HSZ.out]; omega)
      have HRV := Lib.hid (fun V (hV : Below W1.heap.size W1 V) => HR1.out.below hV)
      have KC := Lib.hid (fun V (hV : Below W1.heap.size W1 V) => HUC.out V (HRV.out V hV))
      clear c0 c1 c2 c3 c4 c5 c6
      refine wp_region_held_tail (fun w' => Below W1.heap.size W1 w') 16 (by kernel_rfl) (by kernel_rfl) ?_
      intro G
      change HeadW _ _ _ _ _ _ _ _ _ _ (W1.drewN 1)
      have S := Lib.hid (below_drewN (Below.refl W1.heap.size W1) 1)
      generalize W1.drewN 1 = y0 at *
      refine HeadW_take (i := 0) (v := ?_) G rfl (by kernel_rfl) (by kernel_rfl) (by kernel_rfl) (fun _ _ _ h => h) (Or.inl ⟨by rfl, ?_⟩) S.out ?_
      rotate_left
      · intro wz hS
        go_simp
        try with_reducible rfl
      refine HeadW_take (i := 1) (v := ?_) G rfl (by kernel_rfl) (by kernel_rfl) (by kernel_rfl) (fun _ _ _ h => h) (Or.inl ⟨by rfl, ?_⟩) S.out ?_
      rotate_left
      · intro wz hS
        go_simp
        try with_reducible rfl
      refine HeadW_take (i := 2) (v := ?_) G rfl (by kernel_rfl) (by kernel_rfl) (by kernel_rfl) (fun _ _ _ h => h) (Or.inl ⟨by rfl, ?_⟩) S.out ?_
      rotate_left
      · intro wz hS
        go_simp
        try with_reducible rfl
      refine HeadW_take (i := 3) (v := ?_) G rfl (by kernel_rfl) (by kernel_rfl) (by kernel_rfl) (fun _ _ _ h => h) (Or.inl ⟨by rfl, ?_⟩) S.out ?_
      rotate_left
      · intro wz hS
        go_simp
        try with_reducible rfl
      refine HeadW_take (i := 4) (v := ?_) G rfl (by kernel_rfl) (by kernel_rfl) (by kernel_rfl) (fun _ _ _ h => h) (Or.inl ⟨by rfl, ?_⟩) S.out ?_
      rotate_left
      · intro wz hS
        have k0 := KM.out _ hS
        go_simp
        try with_reducible rfl
      refine HeadW_take (i := 8) (v := ?_) G rfl (by kernel_rfl) (by kernel_rfl) (by kernel_rfl) (fun _ _ _ h => h) (Or.inl ⟨by rfl, ?_⟩) S.out ?_
      rotate_left
      · intro wz hS
        go_simp
        try with_reducible rfl
      refine HeadW_take (i := 9) (v := ?_) G rfl (by kernel_rfl) (by kernel_rfl) (by kernel_rfl) (fun _ _ _ h => h) (Or.inl ⟨by rfl, ?_⟩) S.out ?_
      rotate_left
      · intro wz hS
        go_simp
        try with_reducible rfl
      refine HeadW_take (i := 10) (v := ?_) G rfl (by kernel_rfl) (by kernel_rfl) (by kernel_rfl) (fun _ _ _ h => h) (Or.inl ⟨by rfl, ?_⟩) S.out ?_
      rotate_left
      · intro wz hS
        go_simp
        try with_reducible rfl
      refine HeadW_take (i := 11) (v := ?_) G rfl (by kernel_rfl) (by kernel_rfl) (by kernel_rfl) (fun _ _ _ h => h) (Or.inl ⟨by rfl, ?_⟩) S.out ?_
      rotate_left
      · intro wz hS
        have kc := KC.out _ hS
        go_simp
        try with_reducible rfl
      refine HeadW_take (i := 12) (v := ?_) G rfl (by kernel_rfl) (by kernel_rfl) (by kernel_rfl) (fun _ _ _ h => h) (Or.inl ⟨by rfl, ?_⟩) S.out ?_
      rotate_left
      · intro wz hS
        have kc := KC.out _ hS
        go_simp
        try with_reducible rfl
      refine HeadW_ready (rs := [5]) (by kernel_rfl) rfl rfl ?_
      refine AllW.cons rfl (fun K hK => ?_) AllW.nil
      try go_simp
      refine (QO.out _).mono ?_
      rintro e yy ⟨rfl, rfl⟩
      refine hK _ _ S.out ?_
      clear hK K
      refine HeadW_take (i := 6) (v := .string (⟨#[40]⟩ ++ xo)) G rfl (by kernel_rfl) (by kernel_rfl) (by kernel_rfl) (fun _ _ _ h => h) (Or.inl ⟨by rfl, ?_⟩) S.out ?_
      · intro wz hS
        go_simp
        try omega
      refine HeadW_take (i := 7) (v := .string (⟨#[40]⟩ ++ xo ++ ⟨#[32]⟩)) G rfl (by kernel_rfl) (by kernel_rfl) (by kernel_rfl) (fun _ _ _ h => h) (Or.inl ⟨by rfl, ?_⟩) S.out ?_
      · intro wz hS
        go_simp
        try omega
      refine HeadW_take (i := 13) (v := .string (⟨#[40]⟩ ++ xo ++ ⟨#[32]⟩ ++ u)) G rfl (by kernel_rfl) (by kernel_rfl) (by kernel_rfl) (fun _ _ _ h => h) (Or.inl ⟨by rfl, ?_⟩) S.out ?_
      · intro wz hS
        go_simp
        try omega
      refine HeadW_take (i := 14) (v := .string (⟨#[40]⟩ ++ xo ++ ⟨#[32]⟩ ++ u ++ ⟨#[41]⟩)) G rfl (by kernel_rfl) (by kernel_rfl) (by kernel_rfl) (fun _ _ _ h => h) (Or.inl ⟨by rfl, ?_⟩) S.out ?_
      · intro wz hS
        go_simp
        try omega
      refine HeadW_take (i := 15) (v := ?_) G rfl (by kernel_rfl) (by kernel_rfl) (by kernel_rfl) (fun _ _ _ h => h) (Or.inl ⟨by rfl, ?_⟩) S.out ?_
      rotate_left
      · intro wz hS
        have kc := KC.out _ hS
        go_simp
        try with_reducible rfl
      intro _
      refine ⟨by kernel_rfl, ?_⟩
      simp only [List.drop_succ_cons, List.drop_zero]
      have kc := KC.out _ S.out
      have kf := (HRV.out _ S.out).frozen q
      have HR9 := Lib.hid ((HRV.out _ S.out).put q (⟨#[40]⟩ ++ xo ++ ⟨#[32]⟩ ++ u ++ ⟨#[41]⟩))
      have HB9 := Lib.hid ((below_step HB.out (below_step B0.out S.out)).setCell (p := ⟨g, q, none⟩) HG.out (.string (⟨#[40]⟩ ++ xo ++ ⟨#[32]⟩ ++ u ++ ⟨#[41]⟩)))
      go_wp2_with fail
      go_roundw
      case rel => exact ⟨k + 1, m, _, d, by omega, rfl, by go_num, by rw [HYS.out, HY.out]; exact HR9.out, HB9.out⟩
      case measure => simp [intOf]; omega
    have h4 : x.op ≠ 4 := ho
    clear ho
    by_cases ho : x.op = 11
    case pos =>
      have htq : takesN x.op = 1 := by rw [ho]; rfl
      rw [htq] at HX htk'
      obtain ⟨q, hq⟩ : ∃ q, m = q + 1 := ⟨m - 1, by omega⟩
      have hqm : q < m := by omega
      have e1 : (m : Int) - (1 : Int) = (q : Int) := by omega
      obtain ⟨ut, hdr, hut⟩ := rs_droplast (l := xs) (q := q) (by omega)
      obtain ⟨u, hu⟩ : ∃ z : ByteArray, z = ⟨ut.toArray⟩ := ⟨_, rfl⟩
      have hus : u.size ≤ 14000 := by rw [hu]; exact word_size (HSB.out ut (List.mem_of_getElem? hut))
      have HY : Hid (ys = xs.set q (bl (⟨#[40]⟩ ++ xo ++ ⟨#[32]⟩ ++ u ++ ⟨#[41]⟩))) := by
        show ys = _
        rw [rs_setlast (by omega), HX.out, show m - 1 = q by omega, hdr, HE.out, hxo, hu]
        simp [bl_app, bl_mka, Lib.join_one]
      obtain ⟨g, rfl, hg1, hg2⟩ := HR.out.form (by omega)
      have HG := Lib.hid hg1
      have HUC := Lib.hid (fun V (hr : TR V w.heap.size (some ⟨g, 0, none⟩) m d xs) => show V.cell? ⟨g, q, none⟩ = some (.string u) by rw [hu]; exact hr.cellAt hut)
      obtain ⟨op, ⟨vk, vn, vs⟩, ⟨ac, an, au⟩⟩ := x
      simp only at ho QO c0 c1 c2 c3 c4 c5 c6
      have OB := Lib.hid (Ob.made wr 52 #[.int .i64 op, .int .i64 vk, .int .i64 vn, .string vs, .int .i64 ac, .string an, .bool au])
      have B0 := Lib.hid (al9' wr (.cells #[.int .i64 op, .int .i64 vk, .int .i64 vn, .string vs, .int .i64 ac, .string an, .bool au] 52))
      have ew : IntKind.i64.wrap (q : Int) = (q : Int) := by rw [IntKind.wrap_i64]; omega
      clear hq HX htk' hdr hut hu HSB HXK HE hxo hh h13 hok hnl htq h1 h2
      subst ho
      go_upto_region 12 with fail
      generalize hW1 : wr.alloc (.cells #[.int .i64 11, .int .i64 vk, .int .i64 vn, .string vs, .int .i64 ac, .string an, .bool au] 52) = W1 at *
      have hsz : W1.heap.size = wr.heap.size + 1 := by rw [← hW1]; exact size_al _ _
      have HSZ := Lib.hid hsz
      clear hW1 hsz
      have KM := Lib.hid (fun V (hV : Below W1.heap.size W1 V) => (OB.out.below hV OB.out.lt).cell 0)
      have HR1 := Lib.hid (HR.out.below B0.out)
      have HG1 := Lib.hid (show g < W1.heap.size by rw [HSZ.out]; omega)
      have HRV := Lib.hid (fun V (hV : Below W1.heap.size W1 V) => HR1.out.below hV)
      have KC := Lib.hid (fun V (hV : Below W1.heap.size W1 V) => HUC.out V (HRV.out V hV))
      clear c0 c1 c2 c3 c4 c5 c6
      refine wp_region_held_tail (fun w' => Below W1.heap.size W1 w') 16 (by kernel_rfl) (by kernel_rfl) ?_
      intro G
      change HeadW _ _ _ _ _ _ _ _ _ _ (W1.drewN 1)
      have S := Lib.hid (below_drewN (Below.refl W1.heap.size W1) 1)
      generalize W1.drewN 1 = y0 at *
      refine HeadW_take (i := 0) (v := ?_) G rfl (by kernel_rfl) (by kernel_rfl) (by kernel_rfl) (fun _ _ _ h => h) (Or.inl ⟨by rfl, ?_⟩) S.out ?_
      rotate_left
      · intro wz hS
        go_simp
        try with_reducible rfl
      refine HeadW_take (i := 1) (v := ?_) G rfl (by kernel_rfl) (by kernel_rfl) (by kernel_rfl) (fun _ _ _ h => h) (Or.inl ⟨by rfl, ?_⟩) S.out ?_
      rotate_left
      · intro wz hS
        go_simp
        try with_reducible rfl
      refine HeadW_take (i := 2) (v := ?_) G rfl (by kernel_rfl) (by kernel_rfl) (by kernel_rfl) (fun _ _ _ h => h) (Or.inl ⟨by rfl, ?_⟩) S.out ?_
      rotate_left
      · intro wz hS
        go_simp
        try with_reducible rfl
      refine HeadW_take (i := 3) (v := ?_) G rfl (by kernel_rfl) (by kernel_rfl) (by kernel_rfl) (fun _ _ _ h => h) (Or.inl ⟨by rfl, ?_⟩) S.out ?_
      rotate_left
      · intro wz hS
        go_simp
        try with_reducible rfl
      refine HeadW_take (i := 4) (v := ?_) G rfl (by kernel_rfl) (by kernel_rfl) (by kernel_rfl) (fun _ _ _ h => h) (Or.inl ⟨by rfl, ?_⟩) S.out ?_
      rotate_left
      · intro wz hS
        have k0 := KM.out _ hS
        go_simp
        try with_reducible rfl
      refine HeadW_take (i := 8) (v := ?_) G rfl (by kernel_rfl) (by kernel_rfl) (by kernel_rfl) (fun _ _ _ h => h) (Or.inl ⟨by rfl, ?_⟩) S.out ?_
      rotate_left
      · intro wz hS
        go_simp
        try with_reducible rfl
      refine HeadW_take (i := 9) (v := ?_) G rfl (by kernel_rfl) (by kernel_rfl) (by kernel_rfl) (fun _ _ _ h => h) (Or.inl ⟨by rfl, ?_⟩) S.out ?_
      rotate_left
      · intro wz hS
        go_simp
        try with_reducible rfl
      refine HeadW_take (i := 10) (v := ?_) G rfl (by kernel_rfl) (by kernel_rfl) (by kernel_rfl) (fun _ _ _ h => h) (Or.inl ⟨by rfl, ?_⟩) S.out ?_
      rotate_left
      · intro wz hS
        go_simp
        try with_reducible rfl
      refine HeadW_take (i := 11) (v := ?_) G rfl (by kernel_rfl) (by kernel_rfl) (by kernel_rfl) (fun _ _ _ h => h) (Or.inl ⟨by rfl, ?_⟩) S.out ?_
      rotate_left
      · intro wz hS
        have kc := KC.out _ hS
        go_simp
        try with_reducible rfl
      refine HeadW_take (i := 12) (v := ?_) G rfl (by kernel_rfl) (by kernel_rfl) (by kernel_rfl) (fun _ _ _ h => h) (Or.inl ⟨by rfl, ?_⟩) S.out ?_
      rotate_left
      · intro wz hS
        have kc := KC.out _ hS
        go_simp
        try with_reducible rfl
      refine HeadW_ready (rs := [5]) (by kernel_rfl) rfl rfl ?_
      refine AllW.cons rfl (fun K hK => ?_) AllW.nil
      try go_simp
      refine (QO.out _).mono ?_
      rintro e yy ⟨rfl, rfl⟩
      refine hK _ _ S.out ?_
      clear hK K
      refine HeadW_take (i := 6) (v := .string (⟨#[40]⟩ ++ xo)) G rfl (by kernel_rfl) (by kernel_rfl) (by kernel_rfl) (fun _ _ _ h => h) (Or.inl ⟨by rfl, ?_⟩) S.out ?_
      · intro wz hS
        go_simp
        try omega
      refine HeadW_take (i := 7) (v := .string (⟨#[40]⟩ ++ xo ++ ⟨#[32]⟩)) G rfl (by kernel_rfl) (by kernel_rfl) (by kernel_rfl) (fun _ _ _ h => h) (Or.inl ⟨by rfl, ?_⟩) S.out ?_
      · intro wz hS
        go_simp
        try omega
      refine HeadW_take (i := 13) (v := .string (⟨#[40]⟩ ++ xo ++ ⟨#[32]⟩ ++ u)) G rfl (by kernel_rfl) (by kernel_rfl) (by kernel_rfl) (fun _ _ _ h => h) (Or.inl ⟨by rfl, ?_⟩) S.out ?_
      · intro wz hS
        go_simp
        try omega
      refine HeadW_take (i := 14) (v := .string (⟨#[40]⟩ ++ xo ++ ⟨#[32]⟩ ++ u ++ ⟨#[41]⟩)) G rfl (by kernel_rfl) (by kernel_rfl) (by kernel_rfl) (fun _ _ _ h => h) (Or.inl ⟨by rfl, ?_⟩) S.out ?_
      · intro wz hS
        go_simp
        try omega
      refine HeadW_take (i := 15) (v := ?_) G rfl (by kernel_rfl) (by kernel_rfl) (by kernel_rfl) (fun _ _ _ h => h) (Or.inl ⟨by rfl, ?_⟩) S.out ?_
      rotate_left
      · intro wz hS
        have kc := KC.out _ hS
        go_simp
        try with_reducible rfl
      intro _
      refine ⟨by kernel_rfl, ?_⟩
      simp only [List.drop_succ_cons, List.drop_zero]
      have kc := KC.out _ S.out
      have kf := (HRV.out _ S.out).frozen q
      have HR9 := Lib.hid ((HRV.out _ S.out).put q (⟨#[40]⟩ ++ xo ++ ⟨#[32]⟩ ++ u ++ ⟨#[41]⟩))
      have HB9 := Lib.hid ((below_step HB.out (below_step B0.out S.out)).setCell (p := ⟨g, q, none⟩) HG.out (.string (⟨#[40]⟩ ++ xo ++ ⟨#[32]⟩ ++ u ++ ⟨#[41]⟩)))
      go_wp2_with fail
      go_roundw
      case rel => exact ⟨k + 1, m, _, d, by omega, rfl, by go_num, by rw [HYS.out, HY.out]; exact HR9.out, HB9.out⟩
      case measure => simp [intOf]; omega
    have h11 : x.op ≠ 11 := ho
    clear ho
    have htq : takesN x.op = 2 := by unfold takesN; rw [if_neg (by omega), if_neg (by omega)]
    rw [htq] at HX htk'
    obtain ⟨q, hq⟩ : ∃ q, m = q + 2 := ⟨m - 2, by omega⟩
    have hqm : q < m := by omega
    obtain ⟨r, hr1⟩ : ∃ r, r = q + 1 := ⟨_, rfl⟩
    have hrm : r < m := by omega
    have hq1m : q ≤ m := by omega
    have hq1d : q ≤ 1000000 := by omega
    have hqd : q ≤ d := by omega
    have e2 : (m : Int) - (2 : Int) = (q : Int) := by omega
    have e1 : (m : Int) - (1 : Int) = (r : Int) := by omega
    obtain ⟨ut, vt, hdr, hut, hvt⟩ := rs_droptwo (l := xs) (q := q) (by omega)
    rw [← hr1] at hvt
    obtain ⟨u, hu⟩ : ∃ z : ByteArray, z = ⟨ut.toArray⟩ := ⟨_, rfl⟩
    obtain ⟨v, hv⟩ : ∃ z : ByteArray, z = ⟨vt.toArray⟩ := ⟨_, rfl⟩
    have hus : u.size ≤ 14000 := by rw [hu]; exact word_size (HSB.out ut (List.mem_of_getElem? hut))
    have hvs2 : v.size ≤ 14000 := by rw [hv]; exact word_size (HSB.out vt (List.mem_of_getElem? hvt))
    have HY : Hid (ys = xs.take q ++ [bl (⟨#[40]⟩ ++ xo ++ ⟨#[32]⟩ ++ u ++ ⟨#[32]⟩ ++ v ++ ⟨#[41]⟩)]) := by
      show ys = _
      rw [HX.out, show m - 2 = q by omega, hdr, HE.out, hxo, hu, hv]
      simp [bl_app, bl_mka, Lib.join_cons, Lib.joinTail]
    obtain ⟨g, rfl, hg1, hg2⟩ := HR.out.form (by omega)
    have HG := Lib.hid hg1
    have HUC := Lib.hid (fun V (hr : TR V w.heap.size (some ⟨g, 0, none⟩) m d xs) => show V.cell? ⟨g, q, none⟩ = some (.string u) ∧ V.cell? ⟨g, r, none⟩ = some (.string v) by rw [hu, hv]; exact ⟨hr.cellAt hut, hr.cellAt hvt⟩)
    have OB := Lib.hid (Ob.made wr 52 #[.int .i64 x.op, .int .i64 x.v.k, .int .i64 x.v.n, .string x.v.s, .int .i64 x.a.cat, .string x.a.name, .bool x.a.must])
    have B0 := Lib.hid (al9' wr (.cells #[.int .i64 x.op, .int .i64 x.v.k, .int .i64 x.v.n, .string x.v.s, .int .i64 x.a.cat, .string x.a.name, .bool x.a.must] 52))
    have f1 : (x.op == (1 : Int)) = false := by rw [beq_eq_false_iff_ne]; exact h1
    have f2 : (x.op == (2 : Int)) = false := by rw [beq_eq_false_iff_ne]; exact h2
    have f3 : (x.op == (3 : Int)) = false := by rw [beq_eq_false_iff_ne]; exact h3
    have f4 : (x.op == (4 : Int)) = false := by rw [beq_eq_false_iff_ne]; exact h4
    have f11 : (x.op == (11 : Int)) = false := by rw [beq_eq_false_iff_ne]; exact h11
    have ew : IntKind.i64.wrap (q : Int) = (q : Int) := by rw [IntKind.wrap_i64]; omega
    have ewr : IntKind.i64.wrap (r : Int) = (r : Int) := by rw [IntKind.wrap_i64]; omega
    clear hr1 hq HX htk' hdr hut hvt hu hv HSB HXK HE hxo hh h13 hok hnl htq h1 h2 h3 h4 h11
    obtain ⟨op, ⟨vk, vn, vs⟩, ⟨ac, an, au⟩⟩ := x
    simp only at QO OB B0 f1 f2 f3 f4 f11 c0 c1 c2 c3 c4 c5 c6
    go_upto_region 6 with fail
    generalize hW1 : wr.alloc (.cells #[.int .i64 op, .int .i64 vk, .int .i64 vn, .string vs, .int .i64 ac, .string an, .bool au] 52) = W1 at *
    have hsz : W1.heap.size = wr.heap.size + 1 := by rw [← hW1]; exact size_al _ _
    have HSZ := Lib.hid hsz
    clear hW1 hsz
    have KM := Lib.hid (fun V (hV : Below W1.heap.size W1 V) => (OB.out.below hV OB.out.lt).cell 0)
    have HR1 := Lib.hid (HR.out.below B0.out)
    have HG1 := Lib.hid (show g < W1.heap.size by rw [HSZ.out]; omega)
    have HRV := Lib.hid (fun V (hV : Below W1.heap.size W1 V) => HR1.out.below hV)
    have KC := Lib.hid (fun V (hV : Below W1.heap.size W1 V) => HUC.out V (HRV.out V hV))
    clear c0 c1 c2 c3 c4 c5 c6 f1 f2 f3 f4 f11
    refine wp_region_held_tail (fun w' => Below W1.heap.size W1 w') 24 (by kernel_rfl) (by kernel_rfl) ?_
    intro G
    change HeadW _ _ _ _ _ _ _ _ _ _ (W1.drewN 1)
    have S := Lib.hid (below_drewN (Below.refl W1.heap.size W1) 1)
    generalize W1.drewN 1 = y0 at *
    refine HeadW_take (i := 0) (v := ?_) G rfl (by kernel_rfl) (by kernel_rfl) (by kernel_rfl) (fun _ _ _ h => h) (Or.inl ⟨by rfl, ?_⟩) S.out ?_
    rotate_left
    · intro wz hS
      go_simp
      try with_reducible rfl
    refine HeadW_take (i := 1) (v := ?_) G rfl (by kernel_rfl) (by kernel_rfl) (by kernel_rfl) (fun _ _ _ h => h) (Or.inl ⟨by rfl, ?_⟩) S.out ?_
    rotate_left
    · intro wz hS
      go_simp
      try with_reducible rfl
    refine HeadW_take (i := 2) (v := ?_) G rfl (by kernel_rfl) (by kernel_rfl) (by kernel_rfl) (fun _ _ _ h => h) (Or.inl ⟨by rfl, ?_⟩) S.out ?_
    rotate_left
    · intro wz hS
      go_simp
      try with_reducible rfl
    refine HeadW_take (i := 3) (v := ?_) G rfl (by kernel_rfl) (by kernel_rfl) (by kernel_rfl) (fun _ _ _ h => h) (Or.inl ⟨by rfl, ?_⟩) S.out ?_
    rotate_left
    · intro wz hS
      go_simp
      try with_reducible rfl
    refine HeadW_take (i := 4) (v := ?_) G rfl (by kernel_rfl) (by kernel_rfl) (by kernel_rfl) (fun _ _ _ h => h) (Or.inl ⟨by rfl, ?_⟩) S.out ?_
    rotate_left
    · intro wz hS
      go_simp
      try with_reducible rfl
    refine HeadW_take (i := 5) (v := ?_) G rfl (by kernel_rfl) (by kernel_rfl) (by kernel_rfl) (fun _ _ _ h => h) (Or.inl ⟨by rfl, ?_⟩) S.out ?_
    rotate_left
    · intro wz hS
      have k0 := KM.out _ hS
      go_simp
      try with_reducible rfl
    refine HeadW_take (i := 9) (v := ?_) G rfl (by kernel_rfl) (by kernel_rfl) (by kernel_rfl) (fun _ _ _ h => h) (Or.inl ⟨by rfl, ?_⟩) S.out ?_
    rotate_left
    · intro wz hS
      go_simp
      try with_reducible rfl
    refine HeadW_take (i := 10) (v := ?_) G rfl (by kernel_rfl) (by kernel_rfl) (by kernel_rfl) (fun _ _ _ h => h) (Or.inl ⟨by rfl, ?_⟩) S.out ?_
    rotate_left
    · intro wz hS
      go_simp
      try with_reducible rfl
    refine HeadW_take (i := 11) (v := ?_) G rfl (by kernel_rfl) (by kernel_rfl) (by kernel_rfl) (fun _ _ _ h => h) (Or.inl ⟨by rfl, ?_⟩) S.out ?_
    rotate_left
    · intro wz hS
      go_simp
      try with_reducible rfl
    refine HeadW_take (i := 12) (v := ?_) G rfl (by kernel_rfl) (by kernel_rfl) (by kernel_rfl) (fun _ _ _ h => h) (Or.inl ⟨by rfl, ?_⟩) S.out ?_
    rotate_left
    · intro wz hS
      obtain ⟨kc, kd⟩ := KC.out _ hS
      go_simp
      try with_reducible rfl
    refine HeadW_take (i := 13) (v := ?_) G rfl (by kernel_rfl) (by kernel_rfl) (by kernel_rfl) (fun _ _ _ h => h) (Or.inl ⟨by rfl, ?_⟩) S.out ?_
    rotate_left
    · intro wz hS
      obtain ⟨kc, kd⟩ := KC.out _ hS
      go_simp
      try with_reducible rfl
    refine HeadW_take (i := 16) (v := ?_) G rfl (by kernel_rfl) (by kernel_rfl) (by kernel_rfl) (fun _ _ _ h => h) (Or.inl ⟨by rfl, ?_⟩) S.out ?_
    rotate_left
    · intro wz hS
      go_simp
      try with_reducible rfl
    refine HeadW_take (i := 17) (v := ?_) G rfl (by kernel_rfl) (by kernel_rfl) (by kernel_rfl) (fun _ _ _ h => h) (Or.inl ⟨by rfl, ?_⟩) S.out ?_
    rotate_left
    · intro wz hS
      go_simp
      try with_reducible rfl
    refine HeadW_take (i := 18) (v := ?_) G rfl (by kernel_rfl) (by kernel_rfl) (by kernel_rfl) (fun _ _ _ h => h) (Or.inl ⟨by rfl, ?_⟩) S.out ?_
    rotate_left
    · intro wz hS
      go_simp
      try with_reducible rfl
    refine HeadW_take (i := 19) (v := ?_) G rfl (by kernel_rfl) (by kernel_rfl) (by kernel_rfl) (fun _ _ _ h => h) (Or.inl ⟨by rfl, ?_⟩) S.out ?_
    rotate_left
    · intro wz hS
      obtain ⟨kc, kd⟩ := KC.out _ hS
      go_simp
      try with_reducible rfl
    refine HeadW_take (i := 20) (v := ?_) G rfl (by kernel_rfl) (by kernel_rfl) (by kernel_rfl) (fun _ _ _ h => h) (Or.inl ⟨by rfl, ?_⟩) S.out ?_
    rotate_left
    · intro wz hS
      obtain ⟨kc, kd⟩ := KC.out _ hS
      go_simp
      try with_reducible rfl
    refine HeadW_ready (rs := [6]) (by kernel_rfl) rfl rfl ?_
    refine AllW.cons rfl (fun K hK => ?_) AllW.nil
    try go_simp
    refine (QO.out _).mono ?_
    rintro e yy ⟨rfl, rfl⟩
    refine hK _ _ S.out ?_
    clear hK K
    refine HeadW_take (i := 7) (v := .string (⟨#[40]⟩ ++ xo)) G rfl (by kernel_rfl) (by kernel_rfl) (by kernel_rfl) (fun _ _ _ h => h) (Or.inl ⟨by rfl, ?_⟩) S.out ?_
    · intro wz hS
      go_simp
      try omega
    refine HeadW_take (i := 8) (v := .string (⟨#[40]⟩ ++ xo ++ ⟨#[32]⟩)) G rfl (by kernel_rfl) (by kernel_rfl) (by kernel_rfl) (fun _ _ _ h => h) (Or.inl ⟨by rfl, ?_⟩) S.out ?_
    · intro wz hS
      go_simp
      try omega
    refine HeadW_take (i := 14) (v := .string (⟨#[40]⟩ ++ xo ++ ⟨#[32]⟩ ++ u)) G rfl (by kernel_rfl) (by kernel_rfl) (by kernel_rfl) (fun _ _ _ h => h) (Or.inl ⟨by rfl, ?_⟩) S.out ?_
    · intro wz hS
      go_simp
      try omega
    refine HeadW_take (i := 15) (v := .string (⟨#[40]⟩ ++ xo ++ ⟨#[32]⟩ ++ u ++ ⟨#[32]⟩)) G rfl (by kernel_rfl) (by kernel_rfl) (by kernel_rfl) (fun _ _ _ h => h) (Or.inl ⟨by rfl, ?_⟩) S.out ?_
    · intro wz hS
      go_simp
      try omega
    refine HeadW_take (i := 21) (v := .string (⟨#[40]⟩ ++ xo ++ ⟨#[32]⟩ ++ u ++ ⟨#[32]⟩ ++ v)) G rfl (by kernel_rfl) (by kernel_rfl) (by kernel_rfl) (fun _ _ _ h => h) (Or.inl ⟨by rfl, ?_⟩) S.out ?_
    · intro wz hS
      go_simp
      try omega
    refine HeadW_take (i := 22) (v := .string (⟨#[40]⟩ ++ xo ++ ⟨#[32]⟩ ++ u ++ ⟨#[32]⟩ ++ v ++ ⟨#[41]⟩)) G rfl (by kernel_rfl) (by kernel_rfl) (by kernel_rfl) (fun _ _ _ h => h) (Or.inl ⟨by rfl, ?_⟩) S.out ?_
    · intro wz hS
      go_simp
      try omega
    refine HeadW_ready (rs := [23]) (by kernel_rfl) rfl rfl ?_
    refine AllW.cons rfl (fun K hK => ?_) AllW.nil
    try go_simp
    refine hK _ _ (S.out.alloc S.out.size _) ?_
    clear hK K
    intro _
    refine ⟨by kernel_rfl, ?_⟩
    simp only [List.drop_succ_cons, List.drop_zero]
    have HBV := Lib.hid (below_step B0.out S.out)
    obtain ⟨B', d', w9, hap, hr9, hb9⟩ := ((HRV.out _ S.out).take (m := q) hq1m).push (⟨#[40]⟩ ++ xo ++ ⟨#[32]⟩ ++ u ++ ⟨#[32]⟩ ++ v ++ ⟨#[41]⟩) hq1d (Nat.le_trans HB.out.size HBV.out.size) 59
    have HAP := Lib.hid hap
    have HR9 := Lib.hid hr9
    have HB9 := Lib.hid ((below_step HB.out HBV.out).trans hb9)
    clear hap hr9 hb9
    go_wp2_with (at_builtin; refine wpList_append_run rfl _ _ _ _ rfl rfl rfl HAP.out ?_)
    go_roundw
    case rel => exact ⟨k + 1, q + 1, B', d', by omega, rfl, by go_num, by rw [HYS.out, HY.out]; exact HR9.out, HB9.out⟩
    case measure => simp [intOf]; omega
end Go.Proofs.YtjpkemamfccfdaaGreatDoor
