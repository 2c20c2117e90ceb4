/- Several texts in one: ShowRow, ShowTexts, ShowStack, ShowNode, ShowExprW, ShowRul, ShowWords, ShowAll, ShowRunsW, KeepTgt. -/
import Derived.Test.YtdbnaaddocahpaaDoorTenD
import Derived.Test.YtdbnaaddocahpaaDoorShelf
import Derived.Test.YtdbnaaddocahpaaDoorTenC
import Derived.Deep.Cut
/- Rows of texts: one more, many more, all of them joined. -/
namespace Go.Proofs.YtdbnaaddocahpaaDoor
set_option linter.unusedVariables false
open Go.RowKit

def tv (xs : List (List UInt8)) : List Value := xs.map fun l => Value.string ⟨l.toArray⟩
theorem tv_len (xs : List (List UInt8)) : (tv xs).length = xs.length := List.length_map ..
theorem tv_app (a b : List (List UInt8)) : tv (a ++ b) = tv a ++ tv b := List.map_append
theorem tv_one (x : List UInt8) : tv [x] = [.string ⟨x.toArray⟩] := rfl
theorem tv_cell (xs : List (List UInt8)) : ∀ v ∈ tv xs, v.oneCell' = true := by
  intro v hv
  obtain ⟨l, _, rfl⟩ := List.mem_map.1 hv
  rfl
theorem strinfo : (Tryd.prog.info? 9).map (fun i => (i.zero, i.size, i.bytes)) = some (some (.string ⟨#[]⟩), 1, 16) := by kernel_rfl
/-- A row of texts of the call's own. -/
def TR (w : World) (base : Nat) (A : Option Addr) (n c : Nat) (xs : List (List UInt8)) : Prop := w.ownsRow base 9 1 (.slice A n c) n (tv xs)
section
variable {w w' : World} {base n c : Nat} {A : Option Addr} {xs : List (List UInt8)}
theorem TR.len (h : TR w base A n c xs) : xs.length = n := by
  have := h.1
  rwa [tv_len, Nat.mul_one] at this
theorem TR.nil (w : World) (base : Nat) : TR w base none 0 0 [] := ⟨rfl, .inl ⟨rfl, rfl⟩⟩
theorem TR.sl (h : TR w base A n c xs) : Sl w w.heap.size A n c (tv xs) := Sl.of_own h
theorem TR.lt (h : TR w base A n c xs) : ∀ b, (Value.slice A n c).ownBlock = some b → base ≤ b ∧ b < w.heap.size := World.ownsRow.lt h
theorem TR.below (h : TR w base A n c xs) (hb : Below w.heap.size w w') : TR w' base A n c xs := by
  have hg : w.grownBy w' none := ⟨hb.os, hb.tape, hb.output, hb.size, fun k hk _ => hb.block k hk⟩
  refine World.ownsRow.kept h hg ?_
  cases hv : (Value.slice A n c).ownBlock with
  | none => exact .inl rfl
  | some b => exact .inr (by simp)
theorem TR.less (h : TR w base A n c xs) {b2 : Nat} (hb : b2 ≤ base) : TR w b2 A n c xs := by
  obtain ⟨h1, h2⟩ := h
  refine ⟨h1, ?_⟩
  rcases h2 with h2 | ⟨g, cap, cur, hv, hg, r⟩
  · exact .inl h2
  · exact .inr ⟨g, cap, cur, hv, Nat.le_trans hb hg, r⟩
/-- Its beginning is one, too. -/
theorem TR.take (h : TR w base A n c xs) {m : Nat} (hm : m ≤ n) : TR w base A m c (xs.take m) := by
  have hl := h.len
  obtain ⟨h1, h2⟩ := h
  refine ⟨by rw [tv_len, List.length_take]; omega, ?_⟩
  rcases h2 with ⟨hv, hn⟩ | ⟨g, cap, cur, hv, hg, hh, hnc, hcm, hs, ht⟩
  · injection hv with e1 e2 e3
    exact .inl ⟨by rw [e1, e3, show m = 0 by omega], by omega⟩
  · injection hv with e1 e2 e3
    refine .inr ⟨g, cap, cur, by rw [e1, e3], hg, hh, by omega, hcm, hs, ?_⟩
    rw [Nat.mul_one] at ht ⊢
    unfold tv at ht ⊢
    rw [List.map_take, ← ht, List.take_take, Nat.min_eq_left hm]
theorem TR.push (h : TR w base A n c xs) (x : ByteArray) (hn : n ≤ 1000000) (hbase : base ≤ w.heap.size) (ty : Nat) :
    ∃ A' c' w', (Builtin.append_ #[54, 54] ty #[.slice A n c, .slice (some ⟨w.heap.size, 0, none⟩) 1 1]).run Tryd.prog (w.alloc (.cells #[.string x] 9)) = .ok (.slice A' (n + 1) c') w' ∧
      TR w' base A' (n + 1) c' (xs ++ [bl x]) ∧ Below base w w' := by
  obtain ⟨i, hi, hz, hs, hb⟩ := info_of strinfo
  obtain ⟨A', c', w', r, o, b⟩ := append_cell (ty := ty) (x := .string x) Tryd.underlying54 hi hz rfl hs hb (by omega) rfl h hn hbase
  refine ⟨A', c', w', r, ?_, b⟩
  unfold TR
  rw [tv_app, tv_one, bl_toArray]
  exact o
theorem TR.app {B m c2 : Nat} {A2 : Option Addr} {ys : List (List UInt8)} (h : TR w base A n c xs) (hy : Sl w B A2 m c2 (tv ys)) (hn : n + m ≤ 1000000) (hbase : base ≤ w.heap.size) (ty : Nat) :
    ∃ A' c' w', (Builtin.append_ #[54, 54] ty #[.slice A n c, .slice A2 m c2]).run Tryd.prog w = .ok (.slice A' (n + m) c') w' ∧
      TR w' base A' (n + m) c' (xs ++ ys) ∧ Below base w w' := by
  obtain ⟨i, hi, hz, hs, hb⟩ := info_of strinfo
  obtain ⟨A', c', w', r, o, b, _, _⟩ := append_cells (ty := ty) Tryd.underlying54 hi hz rfl hs hb (by omega) h hy (tv_cell ys) hn hbase
  refine ⟨A', c', w', r, ?_, b⟩
  unfold TR
  rw [tv_app]
  exact o
/-- A literal of so many texts. -/
theorem TR.lit (w : World) (xs : List ByteArray) {n : Nat} (hn : xs.length = n) (h : n ≤ 1000) : TR (w.alloc (.cells (xs.map Value.string).toArray 9)) w.heap.size (some ⟨w.heap.size, 0, none⟩) n n (xs.map bl) := by
  have e : tv (xs.map bl) = xs.map Value.string := by
    unfold tv
    rw [List.map_map]
    refine List.map_congr_left fun x _ => ?_
    show Value.string ⟨(bl x).toArray⟩ = .string x
    rw [bl_toArray]
  unfold TR
  rw [e]
  refine ⟨by simp; omega, .inr ⟨w.heap.size, n, _, rfl, Nat.le_refl _, heap_alloc_new w _, Nat.le_refl _, by unfold maxLen; omega, by simp; omega, ?_⟩⟩
  rw [Nat.mul_one, ← hn]
  show List.take xs.length (xs.map Value.string) = _
  rw [List.take_of_length_le (by simp)]
end
/-- All of them joined. -/
theorem join_row {w : World} {B n c : Nat} {A : Option Addr} {xs : List (List UInt8)} (h : Sl w B A n c (tv xs)) (hB : B ≤ w.heap.size) (hN : n ≤ 1000000) (sep : ByteArray) (hlen : (Lib.join xs (bl sep)).length ≤ 140737488355328) :
    Calls Tryd.prog 11 #[.slice A n c, .string sep] w fun e w' => e = .returned (.string ⟨(Lib.join xs (bl sep)).toArray⟩) ∧ Below w.heap.size w w' := by
  have hl : xs.length = n := by have := h.len; rwa [tv_len] at this
  have hc := h.cap
  unfold maxLen at hc
  rcases h.2.2.2 with h0 | ⟨b, o, e, hb, hcell⟩
  · subst h0
    obtain rfl : xs = [] := List.eq_nil_of_length_eq_zero hl
    exact (Tryd.strings_Join_none A c sep w).mono fun e w' hh => ⟨by rw [hh.1]; rfl, by rw [hh.2]; exact Below.refl _ _⟩
  · subst e
    have e2 : (xs.map fun l => (⟨l.toArray⟩ : ByteArray)).map (fun s => s.data.toList) = xs := by rw [List.map_map]; exact List.map_id' xs
    have := Tryd.strings_Join b o c (xs.map fun l => (⟨l.toArray⟩ : ByteArray)) sep w (fun j x hx => hcell j _ (by
      rw [List.getElem?_map, Option.map_eq_some_iff] at hx
      obtain ⟨l, h1, rfl⟩ := hx
      unfold tv
      rw [List.getElem?_map, h1]
      rfl)) (by omega) (by rw [List.length_map]; have := h.le; omega) (by rw [List.length_map]; have := h.le; omega) (by rw [e2]; exact hlen)
    rw [e2, List.length_map, hl] at this
    exact this
end Go.Proofs.YtdbnaaddocahpaaDoor
/- The texts of a list's elements: the project's texts, over matches, AllOfs, AnyOfs, duties; a target's words by it. -/
namespace Go.Proofs.YtdbnaaddocahpaaDoor
set_option linter.unusedVariables false
open Go.RowKit Go.Sort

theorem tail_take {α : Type} {f : α → List UInt8} {l : List α} {k : Nat} {x : α} (hx : l[k]? = some x) : (l.take (k + 1)).map f = (l.take k).map f ++ [f x] := by
  rw [take_next hx, List.map_append]
  rfl

set_option maxHeartbeats 1600000 in
theorem texts_match {w : World} {R : Nat → Prop} {A : Option Addr} {n c : Nat} {l : List Mat} (h : Ms w R A n c l) (hn : n ≤ 1000) (hf : ∀ x ∈ l, matE x = 0) (ht : Tbl w) :
    Calls Tryd.prog 59 #[.slice A n c, .func (.func 60) #[] #[]] w fun e w' => ∃ A' c', e = .returned (.slice A' n c') ∧ TR w' w.heap.size A' n c' (l.map matT) ∧ Below w.heap.size w w' := by
  have hle := Rw.le h
  have hcap := Rw.cap h
  have HL := Lib.hid (Rw.len h)
  unfold maxLen at hcap
  have H := Lib.hid h
  have HF := Lib.hid hf
  have HT := Lib.hid ht
  clear h hf ht
  go_enter Tryd.func59, Tryd.ntmps59
  go_wp2
  go_loopw [5, 10] (fun o i wr => ∃ (k : Nat) (B : Option Addr) (d : Nat), k ≤ n ∧ o = .slice B k d ∧ i = .int .i64 k ∧ TR wr w.heap.size B k d ((l.take k).map matT) ∧ Below w.heap.size w wr) (fun _ i _ => n - (intOf i).toNat)
  case atStart => exact ⟨0, none, 0, Nat.zero_le _, rfl, rfl, TR.nil _ _, Below.refl _ _⟩
  case round =>
    obtain ⟨k, B, d, hk, rfl, rfl, hr, hb⟩ := hrel
    have HR := Lib.hid hr
    have HB := Lib.hid hb
    clear hr hb
    by_cases hlt : k < n
    · obtain ⟨b, o, x, rfl, hRb, hbl, hx, hok, c0, c1, c2, c3, c4, c5, c6⟩ := (H.out.keep (Kept.all HB.out R) (fun _ h _ => h)).at_ hlt
      have HX := Lib.hid hx
      have HC := Lib.hid (fun W (hb : Below wr.heap.size wr W) => show_match x hok (HF.out x (List.mem_of_getElem? hx)) W (HT.out.then_ (below_step HB.out hb)))
      clear hx
      go_wp2_with (first
        | (go_at_call 60
           refine (HC.out _ (by first | exact al9' _ _ | exact Below.refl _ _)).mono ?_
           rintro e w1 ⟨rfl, hb1⟩
           have HB1 := Lib.hid (below_step HB.out (by first | exact Below.lit hb1 | exact hb1))
           obtain ⟨B', d', w2, hap, hr2, hb2⟩ := (HR.out.below (show Below wr.heap.size wr w1 by first | exact Below.lit hb1 | exact hb1)).push ⟨(matT x).toArray⟩ (by omega) HB1.out.size 54
           have HAP := Lib.hid hap
           have HR2 := Lib.hid hr2
           have HB2 := Lib.hid (HB1.out.trans hb2)
           clear hap hr2 hb2 hb1)
        | (at_builtin; refine wpList_append_run rfl _ _ _ _ rfl rfl rfl HAP.out ?_))
      go_roundw
      case rel => exact ⟨k + 1, B', d', by omega, rfl, by go_num, by rw [tail_take HX.out]; exact HR2.out, HB2.out⟩
      case measure => simp [intOf]; omega
    · obtain rfl : k = n := by omega
      go_wp2
      go_ret
      exact ⟨B, d, rfl, by have := HR.out; rwa [List.take_of_length_le (by rw [HL.out]; exact Nat.le_refl _)] at this, HB.out⟩

set_option maxHeartbeats 1600000 in
theorem texts_duty {w : World} {R : Nat → Prop} {A : Option Addr} {n c : Nat} {l : List Dut} (h : Dus w R A n c l) (hn : n ≤ 1000) (hf : ∀ x ∈ l, dutE x = 0) (ht : Tbl w) :
    Calls Tryd.prog 24 #[.slice A n c, .func (.func 25) #[] #[]] w fun e w' => ∃ A' c', e = .returned (.slice A' n c') ∧ TR w' w.heap.size A' n c' (l.map dutT) ∧ Below w.heap.size w w' := by
  have hle := Rw.le h
  have hcap := Rw.cap h
  have HL := Lib.hid (Rw.len h)
  unfold maxLen at hcap
  have H := Lib.hid h
  have HF := Lib.hid hf
  have HT := Lib.hid ht
  clear h hf ht
  go_enter Tryd.func24, Tryd.ntmps24
  go_wp2
  go_loopw [5, 10] (fun o i wr => ∃ (k : Nat) (B : Option Addr) (d : Nat), k ≤ n ∧ o = .slice B k d ∧ i = .int .i64 k ∧ TR wr w.heap.size B k d ((l.take k).map dutT) ∧ Below w.heap.size w wr) (fun _ i _ => n - (intOf i).toNat)
  case atStart => exact ⟨0, none, 0, Nat.zero_le _, rfl, rfl, TR.nil _ _, Below.refl _ _⟩
  case round =>
    obtain ⟨k, B, d, hk, rfl, rfl, hr, hb⟩ := hrel
    have HR := Lib.hid hr
    have HB := Lib.hid hb
    clear hr hb
    by_cases hlt : k < n
    · obtain ⟨b, o, x, rfl, hRb, hbl, hx, hok, c0, c1, c2⟩ := (H.out.keep (Kept.all HB.out R) (fun _ h _ => h)).at_ hlt
      have HX := Lib.hid hx
      have HC := Lib.hid (fun W (hb : Below wr.heap.size wr W) => show_duty x hok (HF.out x (List.mem_of_getElem? hx)) W (HT.out.then_ (below_step HB.out hb)))
      clear hx
      go_wp2_with (first
        | (go_at_call 25
           refine (HC.out _ (by first | exact al9' _ _ | exact Below.refl _ _)).mono ?_
           rintro e w1 ⟨rfl, hb1⟩
           have HB1 := Lib.hid (below_step HB.out (by first | exact Below.lit hb1 | exact hb1))
           obtain ⟨B', d', w2, hap, hr2, hb2⟩ := (HR.out.below (show Below wr.heap.size wr w1 by first | exact Below.lit hb1 | exact hb1)).push ⟨(dutT x).toArray⟩ (by omega) HB1.out.size 54
           have HAP := Lib.hid hap
           have HR2 := Lib.hid hr2
           have HB2 := Lib.hid (HB1.out.trans hb2)
           clear hap hr2 hb2 hb1)
        | (at_builtin; refine wpList_append_run rfl _ _ _ _ rfl rfl rfl HAP.out ?_))
      go_roundw
      case rel => exact ⟨k + 1, B', d', by omega, rfl, by go_num, by rw [tail_take HX.out]; exact HR2.out, HB2.out⟩
      case measure => simp [intOf]; omega
    · obtain rfl : k = n := by omega
      go_wp2
      go_ret
      exact ⟨B, d, rfl, by have := HR.out; rwa [List.take_of_length_le (by rw [HL.out]; exact Nat.le_refl _)] at this, HB.out⟩

theorem show_allOf {R : Nat → Prop} {A : Option Addr} {n c : Nat} {l : List Mat} (w : World) (h : Ms w R A n c l) (hf : allE l = 0) (ht : Tbl w) :
    Calls Tryd.prog 50 #[.slice A n c] w fun e w' => e = .returned (.string ⟨(allT l).toArray⟩) ∧ Below w.heap.size w w' := by
  have hn := Rw.len h
  have h8 := (allE_all hf).1.2
  have hl8 := all_len hf (Rw.all h)
  have HC := Lib.hid (texts_match h (by omega) (allE_all hf).2 ht)
  have HN := Lib.hid (show n ≤ 1000 by omega)
  have HL : Hid ((Lib.join (l.map matT) (bl ⟨#[44, 32]⟩)).length ≤ 140737488355328) := Nat.le_trans hl8 (by omega)
  have HE : Hid (allT l = Lib.join (l.map matT) (bl ⟨#[44, 32]⟩)) := rfl
  clear h hn h8 hl8 hf ht
  go_enter Tryd.func50, Tryd.ntmps50
  go_wp2_with (first
    | (go_at_call 59; refine HC.out.mono ?_; rintro e w1 ⟨B, d, rfl, hr, hb1⟩; have B1 := Lib.hid hb1; have HJ := Lib.hid (join_row hr.sl (Nat.le_refl _) (by have := HN.out; omega) ⟨#[44, 32]⟩ HL.out); clear hr hb1)
    | (go_at_call 11; refine HJ.out.mono ?_; rintro e w2 ⟨rfl, hb2⟩; have B2 := Lib.hid hb2))
  go_ret
  exact ⟨rfl, below_step B1.out B2.out⟩

set_option maxHeartbeats 1600000 in
theorem texts_allOf {w : World} {R : Nat → Prop} {A : Option Addr} {n c : Nat} {l : List (List Mat)} (h : Als w R A n c l) (hn : n ≤ 1000) (hf : ∀ x ∈ l, allE x = 0) (ht : Tbl w) :
    Calls Tryd.prog 49 #[.slice A n c, .func (.func 50) #[] #[]] w fun e w' => ∃ A' c', e = .returned (.slice A' n c') ∧ TR w' w.heap.size A' n c' (l.map allT) ∧ Below w.heap.size w w' := by
  have hle := Rw.le h
  have hcap := Rw.cap h
  have HL := Lib.hid (Rw.len h)
  unfold maxLen at hcap
  have H := Lib.hid h
  have HF := Lib.hid hf
  have HT := Lib.hid ht
  clear h hf ht
  go_enter Tryd.func49, Tryd.ntmps49
  go_wp2
  go_loopw [5, 10] (fun o i wr => ∃ (k : Nat) (B : Option Addr) (d : Nat), k ≤ n ∧ o = .slice B k d ∧ i = .int .i64 k ∧ TR wr w.heap.size B k d ((l.take k).map allT) ∧ Below w.heap.size w wr) (fun _ i _ => n - (intOf i).toNat)
  case atStart => exact ⟨0, none, 0, Nat.zero_le _, rfl, rfl, TR.nil _ _, Below.refl _ _⟩
  case round =>
    obtain ⟨k, B, d, hk, rfl, rfl, hr, hb⟩ := hrel
    have HR := Lib.hid hr
    have HB := Lib.hid hb
    clear hr hb
    by_cases hlt : k < n
    · obtain ⟨b, o, x, A1, n1, c1, rfl, hRb, hbl, hx, c0, hin⟩ := (H.out.keep (Kept.all HB.out R) (fun _ h _ => h)).at_ hlt
      have HX := Lib.hid hx
      have hinK := fun W (hb : Below wr.heap.size wr W) => Ms.keep hin (Kept.all hb R) (fun _ h _ => h)
      have HC := Lib.hid (fun W (hb : Below wr.heap.size wr W) => show_allOf W (hinK W hb) (HF.out x (List.mem_of_getElem? hx)) (HT.out.then_ (below_step HB.out hb)))
      clear hx
      go_wp2_with (first
        | (go_at_call 50
           refine (HC.out _ (by first | exact al9' _ _ | exact Below.refl _ _)).mono ?_
           rintro e w1 ⟨rfl, hb1⟩
           have HB1 := Lib.hid (below_step HB.out (by first | exact Below.lit hb1 | exact hb1))
           obtain ⟨B', d', w2, hap, hr2, hb2⟩ := (HR.out.below (show Below wr.heap.size wr w1 by first | exact Below.lit hb1 | exact hb1)).push ⟨(allT x).toArray⟩ (by omega) HB1.out.size 54
           have HAP := Lib.hid hap
           have HR2 := Lib.hid hr2
           have HB2 := Lib.hid (HB1.out.trans hb2)
           clear hap hr2 hb2 hb1)
        | (at_builtin; refine wpList_append_run rfl _ _ _ _ rfl rfl rfl HAP.out ?_))
      go_roundw
      case rel => exact ⟨k + 1, B', d', by omega, rfl, by go_num, by rw [tail_take HX.out]; exact HR2.out, HB2.out⟩
      case measure => simp [intOf]; omega
    · obtain rfl : k = n := by omega
      go_wp2
      go_ret
      exact ⟨B, d, rfl, by have := HR.out; rwa [List.take_of_length_le (by rw [HL.out]; exact Nat.le_refl _)] at this, HB.out⟩

theorem Als.oks {w : World} {R : Nat → Prop} {A : Option Addr} {n c : Nat} {l : List (List Mat)} (h : Als w R A n c l) : ∀ a ∈ l, ∀ m ∈ a, m.ok := by
  intro a ha
  obtain ⟨j, hj, rfl⟩ := List.getElem_of_mem ha
  obtain ⟨b, o, x, A1, n1, c1, _, _, _, hx, _, hin⟩ := h.at_ (j := j) (by have := Rw.len h; omega)
  rw [List.getElem?_eq_getElem hj] at hx
  injection hx with hx
  rw [hx]
  exact Rw.all hin
theorem Tg.oks' {w : World} {R : Nat → Prop} {A : Option Addr} {n c : Nat} {l : Tgt} (h : Tg w R A n c l) : Tgt.oks l := by
  intro a ha
  obtain ⟨j, hj, rfl⟩ := List.getElem_of_mem ha
  obtain ⟨b, o, x, A1, n1, c1, _, _, _, hx, _, hin⟩ := h.at_ (j := j) (by have := Rw.len h; omega)
  rw [List.getElem?_eq_getElem hj] at hx
  injection hx with hx
  rw [hx]
  exact Als.oks hin
theorem show_anyOf {R : Nat → Prop} {A : Option Addr} {n c : Nat} {l : List (List Mat)} (w : World) (h : Als w R A n c l) (hf : anyE l = 0) (ht : Tbl w) :
    Calls Tryd.prog 35 #[.slice A n c] w fun e w' => e = .returned (.string ⟨(anyT l).toArray⟩) ∧ Below w.heap.size w w' := by
  have hn := Rw.len h
  have h8 := (anyE_all hf).1.2
  have hl8 := any_len hf (Als.oks h)
  have HC := Lib.hid (texts_allOf h (by omega) (anyE_all hf).2 ht)
  have HN := Lib.hid (show n ≤ 1000 by omega)
  obtain ⟨x, hx⟩ : ∃ x : ByteArray, x = ⟨(Lib.join (l.map allT) (bl ⟨#[32, 111, 114, 32]⟩)).toArray⟩ := ⟨_, rfl⟩
  have HE : Hid (anyT l = 40 :: (bl x ++ [41])) := by rw [hx]; rfl
  have hsz : x.size ≤ 41000 := by
    rw [HE.out] at hl8
    simp only [List.length_cons, List.length_append, List.length_nil] at hl8
    show (bl x).length ≤ 41000
    omega
  have HJL : Hid ((Lib.join (l.map allT) (bl ⟨#[32, 111, 114, 32]⟩)).length ≤ 140737488355328) := by
    have e : (Lib.join (l.map allT) (bl ⟨#[32, 111, 114, 32]⟩)).length = x.size := by rw [hx]; rfl
    show _ ≤ _
    rw [e]
    exact Nat.le_trans hsz (by omega)
  have HJE := Lib.hid hx
  clear h hn h8 hl8 hf ht hx
  go_enter Tryd.func35, Tryd.ntmps35
  go_wp2_with (first
    | (go_at_call 49; refine HC.out.mono ?_; rintro e w1 ⟨B, d, rfl, hr, hb1⟩; have B1 := Lib.hid hb1; have HJ := Lib.hid (join_row hr.sl (Nat.le_refl _) (by have := HN.out; omega) ⟨#[32, 111, 114, 32]⟩ HJL.out); rw [← HJE.out] at HJ; clear hr hb1)
    | (go_at_call 11; refine HJ.out.mono ?_; rintro e w2 ⟨rfl, hb2⟩; have B2 := Lib.hid hb2))
  go_ret
  refine ⟨ret_text ?_, below_step B1.out B2.out⟩
  rw [HE.out]
  simp [bl_app, bl_mka]

set_option maxHeartbeats 1600000 in
theorem texts_anyOf {w : World} {R : Nat → Prop} {A : Option Addr} {n c : Nat} {l : List (List (List Mat))} (h : Tg w R A n c l) (hn : n ≤ 1000) (hf : ∀ x ∈ l, anyE x = 0) (ht : Tbl w) :
    Calls Tryd.prog 34 #[.slice A n c, .func (.func 35) #[] #[]] w fun e w' => ∃ A' c', e = .returned (.slice A' n c') ∧ TR w' w.heap.size A' n c' (l.map anyT) ∧ Below w.heap.size w w' := by
  have hle := Rw.le h
  have hcap := Rw.cap h
  have HL := Lib.hid (Rw.len h)
  unfold maxLen at hcap
  have H := Lib.hid h
  have HF := Lib.hid hf
  have HT := Lib.hid ht
  clear h hf ht
  go_enter Tryd.func34, Tryd.ntmps34
  go_wp2
  go_loopw [5, 10] (fun o i wr => ∃ (k : Nat) (B : Option Addr) (d : Nat), k ≤ n ∧ o = .slice B k d ∧ i = .int .i64 k ∧ TR wr w.heap.size B k d ((l.take k).map anyT) ∧ Below w.heap.size w wr) (fun _ i _ => n - (intOf i).toNat)
  case atStart => exact ⟨0, none, 0, Nat.zero_le _, rfl, rfl, TR.nil _ _, Below.refl _ _⟩
  case round =>
    obtain ⟨k, B, d, hk, rfl, rfl, hr, hb⟩ := hrel
    have HR := Lib.hid hr
    have HB := Lib.hid hb
    clear hr hb
    by_cases hlt : k < n
    · obtain ⟨b, o, x, A1, n1, c1, rfl, hRb, hbl, hx, c0, hin⟩ := (H.out.keep (Kept.all HB.out R) (fun _ h _ => h)).at_ hlt
      have HX := Lib.hid hx
      have hinK := fun W (hb : Below wr.heap.size wr W) => Als.keep hin (Kept.all hb R) (fun _ h _ => h)
      have HC := Lib.hid (fun W (hb : Below wr.heap.size wr W) => show_anyOf W (hinK W hb) (HF.out x (List.mem_of_getElem? hx)) (HT.out.then_ (below_step HB.out hb)))
      clear hx
      go_wp2_with (first
        | (go_at_call 35
           refine (HC.out _ (by first | exact al9' _ _ | exact Below.refl _ _)).mono ?_
           rintro e w1 ⟨rfl, hb1⟩
           have HB1 := Lib.hid (below_step HB.out (by first | exact Below.lit hb1 | exact hb1))
           obtain ⟨B', d', w2, hap, hr2, hb2⟩ := (HR.out.below (show Below wr.heap.size wr w1 by first | exact Below.lit hb1 | exact hb1)).push ⟨(anyT x).toArray⟩ (by omega) HB1.out.size 54
           have HAP := Lib.hid hap
           have HR2 := Lib.hid hr2
           have HB2 := Lib.hid (HB1.out.trans hb2)
           clear hap hr2 hb2 hb1)
        | (at_builtin; refine wpList_append_run rfl _ _ _ _ rfl rfl rfl HAP.out ?_))
      go_roundw
      case rel => exact ⟨k + 1, B', d', by omega, rfl, by go_num, by rw [tail_take HX.out]; exact HR2.out, HB2.out⟩
      case measure => simp [intOf]; omega
    · obtain rfl : k = n := by omega
      go_wp2
      go_ret
      exact ⟨B, d, rfl, by have := HR.out; rwa [List.take_of_length_le (by rw [HL.out]; exact Nat.le_refl _)] at this, HB.out⟩

end Go.Proofs.YtdbnaaddocahpaaDoor
/- Expressions as text, plainly: the stack at each node. -/
namespace Go.Proofs.YtdbnaaddocahpaaDoor
set_option linter.unusedVariables false

theorem stackT_next {l : List Nod} {k : Nat} {x : Nod} (hx : l[k]? = some x) : stackT (l.take (k + 1)) = stepT (stackT (l.take k)) x := by
  unfold stackT
  rw [take_next hx, List.foldl_append]
  rfl
theorem run_some {l : List Nod} (h : exprE l = 0) (k : Nat) : ∃ st, runX (l.take k) [] = some st ∧ ∀ x, l[k]? = some x → ∃ st', stepX x st = some st' := by
  by_cases hn : l = []
  · subst hn
    exact ⟨[], by simp [runX], fun x hx => by simp at hx⟩
  · have h2 : runX l [] = some [false] := by
      unfold exprE at h
      split at h
      · cases h
      · cases hr : runX l [] with
        | none => rw [hr] at h; cases h
        | some st =>
          rw [hr] at h
          simp only at h
          split at h
          · rename_i hh
            rcases hh with hh | hh
            · exact absurd hh hn
            · rw [hh]
          · cases h
    have h3 := h2
    rw [← List.take_append_drop k l, runX_app] at h3
    cases hr : runX (l.take k) [] with
    | none => rw [hr] at h3; cases h3
    | some st =>
      refine ⟨st, rfl, fun x hx => ?_⟩
      rw [hr] at h3
      simp only at h3
      have hd : l.drop k = x :: l.drop (k + 1) := by
        have hlt : k < l.length := by
          rcases Nat.lt_or_ge k l.length with h | h
          · exact h
          · rw [List.getElem?_eq_none h] at hx; cases hx
        rw [List.drop_eq_getElem_cons hlt]
        rw [List.getElem?_eq_getElem hlt] at hx
        injection hx with hx
        rw [hx]
      rw [hd] at h3
      simp only [runX] at h3
      cases hs : stepX x st with
      | none => rw [hs] at h3; cases h3
      | some st' => exact ⟨st', rfl⟩
theorem flat_pos : ∀ t : Xt, 1 ≤ t.flat.length
  | .leaf n => by simp [Xt.flat]
  | .one n x => by simp [Xt.flat]
  | .two n x y => by simp [Xt.flat]; omega
theorem flats_len : ∀ ts : List Xt, ts.length ≤ (flats ts).length
  | [] => Nat.zero_le _
  | t :: ts => by
    have := flats_len ts
    have := flat_pos t
    rw [flats_cons, List.length_append, List.length_cons]
    omega
theorem flats_mem : ∀ {ts : List Xt} {t : Xt}, t ∈ ts → ∀ n ∈ t.flat, n ∈ flats ts
  | x :: ts, t, ht, n, hn => by
    rw [flats_cons, List.mem_append]
    rcases List.mem_cons.1 ht with rfl | ht
    · exact .inr hn
    · exact .inl (flats_mem ht n hn)
theorem flat_le : ∀ {ts : List Xt} {t : Xt}, t ∈ ts → t.flat.length ≤ (flats ts).length
  | x :: ts, t, ht => by
    rw [flats_cons, List.length_append]
    rcases List.mem_cons.1 ht with rfl | ht
    · omega
    · have := flat_le ht; omega
/-- What stands on the stack behind so many nodes. -/
theorem stack_at {l : List Nod} (h : exprE l = 0) (hok : ∀ n ∈ l, n.ok) (k : Nat) : (stackT (l.take k)).length ≤ 32 ∧ (∀ x ∈ stackT (l.take k), x.length ≤ 14000) ∧
    ∀ x, l[k]? = some x → holdsB x = true ∧ (1 ≤ x.op ∧ x.op ≤ 13) ∧ takesN x.op ≤ (stackT (l.take k)).length := by
  have h32 : l.length ≤ 32 := by
    unfold exprE at h
    split at h
    · cases h
    · omega
  obtain ⟨st, hr, hs⟩ := run_some h k
  obtain ⟨ts, hf, hb, hl, ht⟩ := run_trees (l.take k) [] st (fun x hx => by cases hx) hr
  have hl' : l.take k = flats ts := hl
  have ht' : stackT (l.take k) = txts ts := ht
  have hlen : (flats ts).length ≤ 32 := by rw [← hl', List.length_take]; omega
  have hx : (txts ts).length = ts.length := by simp [txts]
  have := flats_len ts
  refine ⟨by rw [ht', hx]; omega, fun x hx => ?_, fun x hx' => ?_⟩
  · rw [ht'] at hx
    unfold txts at hx
    obtain ⟨t, ht, rfl⟩ := List.mem_map.1 hx
    have ht : t ∈ ts := by simpa using ht
    have a := tree_len (hf t ht) (fun n hn => hok n (List.mem_of_mem_take (by rw [hl']; exact flats_mem ht n hn)))
    have b := flat_le ht
    omega
  · obtain ⟨st', hs'⟩ := hs x hx'
    unfold stepX at hs'
    split at hs'
    · rename_i hh
      rw [ht', hx]
      have hbl : st.length = ts.length := by rw [← hb, List.length_map]
      rcases popX_cases hs' with ⟨ho, he⟩ | ⟨r, ho, he⟩ | ⟨r, ho, he⟩
      · refine ⟨hh, by omega, ?_⟩
        unfold takesN
        rw [if_pos ho]
        exact Nat.zero_le _
      · refine ⟨hh, by omega, ?_⟩
        have : 1 ≤ st.length := by rcases ho with ⟨_, h⟩ | ⟨_, h⟩ <;> rw [h] <;> simp
        unfold takesN
        rw [if_neg (by omega), if_pos (by omega)]
        omega
      · unfold twoOp at ho
        refine ⟨hh, by omega, ?_⟩
        have : 2 ≤ st.length := by rcases ho with ⟨_, h⟩ | ⟨_, h⟩ <;> rw [h] <;> simp
        unfold takesN
        rw [if_neg (by omega), if_neg (by omega)]
        omega
    · cases hs'
theorem stack_end {l : List Nod} (h : exprE l = 0) (hn : l ≠ []) : stackT l = [exprT l] := by
  obtain ⟨st, hr, _⟩ := run_some h l.length
  rw [List.take_length] at hr
  obtain ⟨ts, hf, hb, hl, ht⟩ := run_trees l [] st (fun x hx => by cases hx) hr
  have h1 : st = [false] := by
    unfold exprE at h
    split at h
    · cases h
    · rw [hr] at h
      simp only at h
      split at h
      · rename_i hh
        exact hh.resolve_left hn
      · cases h
  subst h1
  rcases ts with _ | ⟨t, _ | ⟨u, ts⟩⟩
  · cases hb
  · have : stackT l = txts [t] := ht
    unfold exprT
    rw [this]
    rfl
  · simp at hb
/-- A node's text isn't too long. -/
theorem node_len {l : List Nod} (h : exprE l = 0) (hok : ∀ n ∈ l, n.ok) {k : Nat} {x : Nod} (hx : l[k]? = some x) : (nodeT x ((stackT (l.take k)).drop ((stackT (l.take k)).length - takesN x.op))).length ≤ 14000 := by
  have h1 := (stack_at h hok (k + 1)).2.1
  rw [stackT_next hx] at h1
  exact h1 _ (by unfold stepT; simp)
end Go.Proofs.YtdbnaaddocahpaaDoor
/- A node's text; a target's words. -/
namespace Go.Proofs.YtdbnaaddocahpaaDoor
set_option linter.unusedVariables false
open Go.RowKit Go.Sort

set_option maxHeartbeats 1600000 in
theorem show_node (n : Nod) (hok : n.ok) (hh : holdsB n = true) (h13 : 1 ≤ n.op ∧ n.op ≤ 13) {B m c : Nat} {A : Option Addr} {ps : List (List UInt8)} (w : World) (hp : Sl w B A m c (tv ps)) (hB : B ≤ w.heap.size) (hm : m ≤ 1000) (hl : (nodeT n ps).length ≤ 14000) (ht : Tbl w) :
    Calls Tryd.prog 53 #[.agg #[.int .i64 n.op, .int .i64 n.v.k, .int .i64 n.v.n, .string n.v.s, .int .i64 n.a.cat, .string n.a.name, .bool n.a.must], .slice A m c] w fun e w' => e = .returned (.string ⟨(nodeT n ps).toArray⟩) ∧ Below w.heap.size w w' := by
  have HT : Hid (∀ W, Below w.heap.size w W → Tbl W) := fun W hb => ht.then_ hb
  by_cases h1 : n.op = 1
  · obtain ⟨hr, he⟩ := holds_lit hh h1
    have hs := right_small hr
    have HC : Hid (∀ W, Below w.heap.size w W → Calls Tryd.prog 64 #[.agg #[.int .i64 n.v.k, .int .i64 n.v.n, .string n.v.s]] W fun e w' => e = .returned (.string ⟨(nodeT n ps).toArray⟩) ∧ Below W.heap.size W w') := fun W hb => by
      have e : nodeT n ps = showB n.v := by unfold nodeT; rw [if_pos h1]
      rw [e]
      exact vtext_any n.v.k n.v.n n.v.s hok.2.1.2.1 hs W (HT.out _ hb).tab
    generalize nodeT n ps = r at *
    obtain ⟨op, ⟨k, nn, s⟩, ⟨ca, nm, mu⟩⟩ := n
    simp only at h1 HC ⊢
    subst h1
    clear hok hh h13 hp hB hm hl ht hr he hs
    go_enter Tryd.func53, Tryd.ntmps53
    have C1 := Lib.hid (Ob.made w 33 #[.int .i64 1, .int .i64 k, .int .i64 nn, .string s, .int .i64 ca, .string nm, .bool mu])
    have B0 := Lib.hid (al9' w (.cells #[.int .i64 1, .int .i64 k, .int .i64 nn, .string s, .int .i64 ca, .string nm, .bool mu] 33))
    go_wp2_with (go_at_call 64; refine (HC.out _ B0.out).mono ?_; rintro e w1 ⟨rfl, hb1⟩; have B1 := Lib.hid (B0.out.trans (hb1.mono B0.out.size)))
    go_ret
    exact ⟨rfl, B1.out⟩
  · by_cases h2 : n.op = 2
    · obtain ⟨hr, he⟩ := holds_att hh h2
      have HC : Hid (∀ W, Below w.heap.size w W → Calls Tryd.prog 65 #[.agg #[.int .i64 n.a.cat, .string n.a.name, .bool n.a.must]] W fun e w' => e = .returned (.string ⟨(nodeT n ps).toArray⟩) ∧ Below W.heap.size W w') := fun W hb => by
        have e : nodeT n ps = attrS n.a := by unfold nodeT; rw [if_neg h1, if_pos h2]
        rw [e]
        exact show_attr n.a hok.2.2 W (HT.out _ hb)
      generalize nodeT n ps = r at *
      obtain ⟨op, ⟨k, nn, s⟩, ⟨ca, nm, mu⟩⟩ := n
      simp only at h2 HC ⊢
      subst h2
      clear hok hh h13 hp hB hm hl ht hr he h1
      go_enter Tryd.func53, Tryd.ntmps53
      have C1 := Lib.hid (Ob.made w 33 #[.int .i64 2, .int .i64 k, .int .i64 nn, .string s, .int .i64 ca, .string nm, .bool mu])
      have B0 := Lib.hid (al9' w (.cells #[.int .i64 2, .int .i64 k, .int .i64 nn, .string s, .int .i64 ca, .string nm, .bool mu] 33))
      go_wp2_with (go_at_call 65; refine (HC.out _ B0.out).mono ?_; rintro e w1 ⟨rfl, hb1⟩; have B1 := Lib.hid (B0.out.trans (hb1.mono B0.out.size)))
      go_ret
      exact ⟨rfl, B1.out⟩
    · have hE : nodeT n ps = 40 :: (fnW n.op ++ 32 :: (Lib.join ps (bl ⟨#[32]⟩) ++ [41])) := nodeT_fun h1 h2 ps
      obtain ⟨x, hx⟩ : ∃ x : ByteArray, x = ⟨(fnW n.op).toArray⟩ := ⟨_, rfl⟩
      obtain ⟨y, hy⟩ : ∃ x : ByteArray, x = ⟨(Lib.join ps (bl ⟨#[32]⟩)).toArray⟩ := ⟨_, rfl⟩
      have hxs : x.size ≤ 4 := by rw [hx]; exact word_size (fnW_len _)
      have hys : y.size ≤ 14000 := by
        rw [hE] at hl
        simp only [List.length_cons, List.length_append, List.length_nil] at hl
        rw [hy]
        exact word_size (by omega)
      have HE : Hid (nodeT n ps = 40 :: (bl x ++ 32 :: (bl y ++ [41]))) := by
        show nodeT n ps = _
        rw [hE, hx, hy]; rfl
      have QJ : ∀ W, Below w.heap.size w W → ∀ d os, Calls Tryd.prog 11 #[.slice A m c, .string ⟨#[32]⟩] (grow (redrawn W d) os) fun e w'' => e = .returned (.string y) ∧ ∃ p : Regrown, w'' = grow (redrawn W p.d) p.os := fun W hb d os => by
        have hb2 := hb.trans ((below_regrown W d os).mono hb.size)
        rw [hy]
        exact Calls.regrown_of (join_row (hp.below (hb2.mono hB)) (Nat.le_trans hB hb2.size) (by omega) ⟨#[32]⟩ (by
          have e : (Lib.join ps (bl ⟨#[32]⟩)).length = y.size := by rw [hy]; rfl
          rw [e]; exact Nat.le_trans hys (by omega)))
      have hG : ∀ W, Below w.heap.size w W → ∀ d os, (grow (redrawn W d) os).cell? ⟨3, n.op.toNat, none⟩ = some (.string x) := fun W hb d os => by
        rw [hx]; exact (HT.out _ (hb.trans ((below_regrown W d os).mono hb.size))).fn (by omega) (by omega)
      have HQJ := Lib.hid QJ
      have HG := Lib.hid hG
      generalize nodeT n ps = r at *
      obtain ⟨op, ⟨k, nn, s⟩, ⟨ca, nm, mu⟩⟩ := n
      simp only at h1 h2 h13 HG ⊢
      have hi : 0 ≤ op ∧ op < 14 := by omega
      have e1 : (op == 1) = false := by rw [beq_eq_false_iff_ne]; exact h1
      have e2 : (op == 2) = false := by rw [beq_eq_false_iff_ne]; exact h2
      clear hok hh hp hB hm hl ht hE hx hy QJ hG h13
      go_enter Tryd.func53, Tryd.ntmps53
      go_wp2_with fail
      have C1 := Lib.hid (Ob.made w 33 #[.int .i64 op, .int .i64 k, .int .i64 nn, .string s, .int .i64 ca, .string nm, .bool mu])
      have B0 := Lib.hid (al9' w (.cells #[.int .i64 op, .int .i64 k, .int .i64 nn, .string s, .int .i64 ca, .string nm, .bool mu] 33))
      have Q1 := Lib.hid (HQJ.out _ B0.out)
      have g1 := HG.out _ B0.out
      have x0 := fun d os => cell_regrown (C1.out.cell 0) d os
      refine wp_region_quiet_below (by kernel_rfl) (by kernel_rfl) ?_
      repeat (go_big_quiet_step ((go_at_call 11; exact Q1.out _ _)))
      refine wpQuiet_nil ?_
      intro _ hw'
      obtain ⟨⟨dq, osq⟩, hw''⟩ := hw'
      subst hw''
      have BQ := Lib.hid (below_regrown (w.alloc (.cells #[.int .i64 op, .int .i64 k, .int .i64 nn, .string s, .int .i64 ca, .string nm, .bool mu] 33)) dq osq)
      generalize grow (redrawn _ dq) osq = w2 at *
      go_wp2_with fail
      go_ret
      refine ⟨ret_text ?_, B0.out.trans (BQ.out.mono B0.out.size)⟩
      rw [HE.out]
      simp [bl_app, bl_mka]

theorem tg_ne {t : Tgt} (h : t ≠ []) : tgW t = [[119, 104, 101, 110], tgT t] := by unfold tgW; rw [if_neg h]
theorem show_target {R : Nat → Prop} {A : Option Addr} {n c : Nat} {t : Tgt} (w : World) (h : Tg w R A n c t) (hf : tgE t = 0) (ht : Tbl w) :
    Calls Tryd.prog 22 #[.slice A n c] w fun e w' => ∃ A' m c', e = .returned (.slice A' m c') ∧ m ≤ 2 ∧ TR w' w.heap.size A' m c' (tgW t) ∧ Below w.heap.size w w' := by
  have hn := Rw.len h
  have h8 := (tgE_all hf).1
  by_cases h0 : n = 0
  · subst h0
    obtain rfl : t = [] := List.eq_nil_of_length_eq_zero hn
    clear hn h8 h ht hf
    go_enter Tryd.func22, Tryd.ntmps22
    go_wp2_with fail
    go_ret
    exact ⟨none, 0, 0, rfl, by omega, TR.nil _ _, Below.refl _ _⟩
  · have hne : t ≠ [] := by rintro rfl; simp at hn; omega
    have hl8 := tg_len hf (Tg.oks' h)
    have HC := Lib.hid (texts_anyOf h (by omega) (tgE_all hf).2 ht)
    have HN := Lib.hid (show n ≤ 1000 by omega)
    have hz : ((n : Int) == 0) = false := by rw [beq_eq_false_iff_ne]; omega
    obtain ⟨x, hx⟩ : ∃ x : ByteArray, x = ⟨(Lib.join (t.map anyT) (bl ⟨#[32, 97, 110, 100, 32]⟩)).toArray⟩ := ⟨_, rfl⟩
    have HE : Hid (tgW t = [⟨#[119, 104, 101, 110]⟩, x].map bl) := by
      show tgW t = _
      rw [tg_ne hne, hx]; rfl
    have HJL : Hid ((Lib.join (t.map anyT) (bl ⟨#[32, 97, 110, 100, 32]⟩)).length ≤ 140737488355328) := Nat.le_trans hl8 (by omega)
    have HJE := Lib.hid hx
    clear h hn h8 hl8 hf ht hx h0 hne
    go_enter Tryd.func22, Tryd.ntmps22
    go_wp2_with (first
      | (go_at_call 34; refine HC.out.mono ?_; rintro e w1 ⟨B, d, rfl, hr, hb1⟩; have B1 := Lib.hid hb1; have HJ := Lib.hid (join_row hr.sl (Nat.le_refl _) (by have := HN.out; omega) ⟨#[32, 97, 110, 100, 32]⟩ HJL.out); rw [← HJE.out] at HJ; clear hr hb1)
      | (go_at_call 11; refine HJ.out.mono ?_; rintro e w2 ⟨rfl, hb2⟩; have B2 := Lib.hid (below_step B1.out hb2); clear hb2))
    go_ret
    refine ⟨_, 2, 2, rfl, by omega, ?_, B2.out.alloc B2.out.size _⟩
    rw [HE.out]
    exact (TR.lit w2 [⟨#[119, 104, 101, 110]⟩, x] (n := 2) rfl (by omega)).less B2.out.size
end Go.Proofs.YtdbnaaddocahpaaDoor
/- An expression's text (the project's). -/
namespace Go.Proofs.YtdbnaaddocahpaaDoor
set_option linter.unusedVariables false
open Go.RowKit Go.Sort

theorem TR.drop {w : World} {base n c : Nat} {A : Option Addr} {xs : List (List UInt8)} (h : TR w base A n c xs) {k : Nat} (hk : k ≤ n) : Sl w w.heap.size (if c = k then A else A.map (·.add k)) (n - k) (c - k) (tv (xs.drop k)) := by
  have := h.sl.drop hk
  unfold tv at this ⊢
  rwa [← List.map_drop] at this

set_option maxHeartbeats 3200000 in
theorem show_expr {R : Nat → Prop} {A : Option Addr} {n c : Nat} {l : List Nod} (w : World) (h : Nds w R A n c l) (ht : Tbl w) :
    Calls Tryd.prog 37 #[.slice A n c] w fun e w' => e = .returned (.string ⟨(exprS l).toArray⟩) ∧ Below w.heap.size w w' := by
  have hle := Rw.le h
  have hcap := Rw.cap h
  have hbig := Rw.big h
  have HL := Lib.hid (Rw.len h)
  unfold maxLen at hcap
  have hcon := expr_any w h
  by_cases h0 : n = 0
  · subst h0
    obtain rfl : l = [] := List.eq_nil_of_length_eq_zero HL.out
    clear hcon h ht
    go_enter Tryd.func37, Tryd.ntmps37
    go_wp2_with fail
    go_ret
    exact ⟨rfl, Below.refl _ _⟩
  · have hne : l ≠ [] := by rintro rfl; have := HL.out; simp at this; omega
    have hz : ((n : Int) == 0) = false := by rw [beq_eq_false_iff_ne]; omega
    by_cases hf : exprE l = 0
    case neg =>
      obtain ⟨r, hr⟩ : ∃ r, r = exprE l := ⟨_, rfl⟩
      have HE : Hid (exprS l = []) := by
        show exprS l = []
        unfold exprS
        rw [if_neg (by rintro ⟨_, h⟩; exact hf h)]
      rw [← hr] at hf hcon
      have hrne : (r != 0) = true := by simpa using hf
      have HC := Lib.hid hcon
      clear hcon h ht hf hr hne
      go_enter Tryd.func37, Tryd.ntmps37
      go_wp2_with (go_at_call 51; refine HC.out.mono ?_; rintro e w1 ⟨rfl, hb1⟩; have B1 := Lib.hid hb1)
      go_ret
      exact ⟨ret_text (by rw [HE.out]; rfl), B1.out⟩
    have hok := Rw.all h
    have HS := Lib.hid (stack_at hf hok)
    have HNL := Lib.hid (fun k x (hx : l[k]? = some x) => node_len hf hok hx)
    have HEND : Hid (stackT l = [exprS l]) := by
      show stackT l = [exprS l]
      rw [stack_end hf hne]
      unfold exprS
      rw [if_pos ⟨hne, hf⟩]
    rw [hf] at hcon
    have HC := Lib.hid hcon
    have H := Lib.hid h
    have HT := Lib.hid ht
    clear hcon h ht hf hne hok
    go_enter Tryd.func37, Tryd.ntmps37
    go_wp2_with (go_at_call 51; refine HC.out.mono ?_; rintro e w1 ⟨rfl, hb1⟩; have B1 := Lib.hid hb1; clear hb1)
    go_loopw [3, 17] (fun s i wr => ∃ (k m : Nat) (B : Option Addr) (d : Nat), k ≤ n ∧ s = .slice B m d ∧ i = .int .i64 k ∧ TR wr w.heap.size B m d (stackT (l.take k)) ∧ Below w.heap.size w wr) (fun _ i _ => n - (intOf i).toNat)
    case atStart => exact ⟨0, 0, none, 0, Nat.zero_le _, rfl, rfl, TR.nil _ _, B1.out⟩
    case round =>
     obtain ⟨k, m, B, d, hk, rfl, rfl, hr, hb⟩ := hrel
     have HR := Lib.hid hr
     have HB := Lib.hid hb
     clear hr hb
     by_cases hlt : k < n
     · obtain ⟨b, o, x, rfl, hRb, hbl, hx, hok, c0, c1, c2, c3, c4, c5, c6⟩ := (H.out.keep (Kept.all HB.out R) (fun _ h _ => h)).at_ hlt
       obtain ⟨s1, s2, s3⟩ := HS.out k
       obtain ⟨hh, h13, htk⟩ := s3 x hx
       have hml := HR.out.len
       have hmd := (HR.out.sl).le
       have hdm := (HR.out.sl).cap
       unfold maxLen at hdm
       have hm32 : m ≤ 32 := by omega
       obtain ⟨q, hq⟩ : ∃ q, q = m - takesN x.op := ⟨_, rfl⟩
       have hqm : q ≤ m := by omega
       have hqd : q ≤ d := by omega
       have e1 : (m : Int) - (takesN x.op : Int) = (q : Int) := by omega
       have HX : Hid (stackT (l.take (k + 1)) = (stackT (l.take k)).take q ++ [nodeT x ((stackT (l.take k)).drop q)]) := by
         show stackT (l.take (k + 1)) = _
         rw [stackT_next hx]
         unfold stepT
         rw [hml, ← hq]
       have hnl : (nodeT x ((stackT (l.take k)).drop q)).length ≤ 14000 := by
         have := HNL.out k x hx
         rwa [hml, ← hq] at this
       have CT := Lib.hid (show_takes x.op)
       generalize takesN x.op = tk at *
       have CN := Lib.hid (fun (W : World) (hb : Below wr.heap.size wr W) => show_node x hok hh h13 W ((HR.out.below hb).drop hqm) (Nat.le_refl _) (show m - q ≤ 1000 by omega) hnl (HT.out.then_ (below_step HB.out hb)))
       have TK := Lib.hid (HR.out.take hqm)
       have HNX := Lib.hid hnl
       clear s1 s2 s3 hh h13 htk hx hok hnl hml hq
       have B0 := Lib.hid (al9' wr (.cells #[.int .i64 x.op, .int .i64 x.v.k, .int .i64 x.v.n, .string x.v.s, .int .i64 x.a.cat, .string x.a.name, .bool x.a.must] 33))
       have OB := Lib.hid (Ob.made wr 33 #[.int .i64 x.op, .int .i64 x.v.k, .int .i64 x.v.n, .string x.v.s, .int .i64 x.a.cat, .string x.a.name, .bool x.a.must])
       have f0 := OB.out.cell 0
       go_wp2_with (go_at_call 52; refine (CT.out _).mono ?_; rintro e w2 ⟨rfl, rfl⟩)
       generalize hW1 : wr.alloc (.cells #[.int .i64 x.op, .int .i64 x.v.k, .int .i64 x.v.n, .string x.v.s, .int .i64 x.a.cat, .string x.a.name, .bool x.a.must] 33) = W1 at *
       have hsz : W1.heap.size = wr.heap.size + 1 := by rw [← hW1]; exact size_al _ _
       have HSZ := Lib.hid hsz
       have KO : Hid (∀ W, Below W1.heap.size W1 W → W.cell? ⟨wr.heap.size, 0, none⟩ = some (.int .i64 x.op) ∧ W.cell? ⟨wr.heap.size, 1, none⟩ = some (.int .i64 x.v.k) ∧ W.cell? ⟨wr.heap.size, 2, none⟩ = some (.int .i64 x.v.n) ∧ W.cell? ⟨wr.heap.size, 3, none⟩ = some (.string x.v.s) ∧ W.cell? ⟨wr.heap.size, 4, none⟩ = some (.int .i64 x.a.cat) ∧ W.cell? ⟨wr.heap.size, 5, none⟩ = some (.string x.a.name) ∧ W.cell? ⟨wr.heap.size, 6, none⟩ = some (.bool x.a.must)) := by
         show ∀ W, _ → _
         intro W hb
         have o := OB.out.below hb (by omega)
         exact ⟨o.cell 0, o.cell 1, o.cell 2, o.cell 3, o.cell 4, o.cell 5, o.cell 6⟩
       clear hW1 f0 hsz

       refine wp_region_held_tail (fun w' => Below W1.heap.size W1 w') 9 (by kernel_rfl) (by kernel_rfl) ?_
       intro G
       change HeadW _ _ _ _ _ _ _ _ _ _ (W1.drewN 1)
       have S0 := Lib.hid (below_drewN (Below.refl W1.heap.size W1) 1)
       generalize W1.drewN 1 = v0 at *
       refine HeadW_take (i := 0) (v := ?_) G rfl (by kernel_rfl) (by kernel_rfl) (by kernel_rfl) (fun _ _ _ h => h) (Or.inl ⟨by rfl, ?_⟩) S0.out ?_
       rotate_left
       · intro wz hS
         go_simp
         try with_reducible rfl
       refine HeadW_take (i := 1) (v := ?_) G rfl (by kernel_rfl) (by kernel_rfl) (by kernel_rfl) (fun _ _ _ h => h) (Or.inl ⟨by rfl, ?_⟩) S0.out ?_
       rotate_left
       · intro wz hS
         go_simp
         try with_reducible rfl
       refine HeadW_take (i := 2) (v := ?_) G rfl (by kernel_rfl) (by kernel_rfl) (by kernel_rfl) (fun _ _ _ h => h) (Or.inl ⟨by rfl, ?_⟩) S0.out ?_
       rotate_left
       · intro wz hS
         go_simp
         try with_reducible rfl
       refine HeadW_take (i := 3) (v := ?_) G rfl (by kernel_rfl) (by kernel_rfl) (by kernel_rfl) (fun _ _ _ h => h) (Or.inl ⟨by rfl, ?_⟩) S0.out ?_
       rotate_left
       · intro wz hS
         have hk1 := KO.out _ hS
         go_simp
         try with_reducible rfl
       refine HeadW_take (i := 4) (v := ?_) G rfl (by kernel_rfl) (by kernel_rfl) (by kernel_rfl) (fun _ _ _ h => h) (Or.inl ⟨by rfl, ?_⟩) S0.out ?_
       rotate_left
       · intro wz hS
         go_simp
         try with_reducible rfl
       refine HeadW_take (i := 5) (v := ?_) G rfl (by kernel_rfl) (by kernel_rfl) (by kernel_rfl) (fun _ _ _ h => h) (Or.inl ⟨by rfl, ?_⟩) S0.out ?_
       rotate_left
       · intro wz hS
         go_simp
         try with_reducible rfl
       refine HeadW_take (i := 6) (v := ?_) G rfl (by kernel_rfl) (by kernel_rfl) (by kernel_rfl) (fun _ _ _ h => h) (Or.inl ⟨by rfl, ?_⟩) S0.out ?_
       rotate_left
       · intro wz hS
         go_simp
         try with_reducible rfl
       refine HeadW_ready (rs := [7]) (by kernel_rfl) rfl rfl ?_
       refine AllW.cons rfl (fun K hK => ?_) AllW.nil
       go_simp
       refine (CN.out _ (B0.out.trans (S0.out.mono B0.out.size))).mono ?_
       rintro e v1 ⟨rfl, hb⟩
       have S1 := Lib.hid (S0.out.trans (hb.mono S0.out.size))
       refine hK _ _ S1.out ?_
       clear hK K hb
       refine HeadW_ready (rs := [8]) (by kernel_rfl) rfl rfl ?_
       refine AllW.cons rfl (fun K hK => ?_) AllW.nil
       go_simp
       refine hK _ _ (S1.out.alloc S1.out.size _) ?_
       clear hK K
       intro _
       refine ⟨by kernel_rfl, ?_⟩
       simp only [List.drop_succ_cons, List.drop_zero]
       have HBV := Lib.hid (B0.out.trans (S1.out.mono B0.out.size))
       obtain ⟨B', d', w9, hap, hr2, hb2⟩ := (TK.out.below HBV.out).push ⟨(nodeT x ((stackT (l.take k)).drop q)).toArray⟩ (by omega) (Nat.le_trans HB.out.size HBV.out.size) 54
       have HAP := Lib.hid hap
       have HR2 := Lib.hid hr2
       have HB2 := Lib.hid ((below_step HB.out HBV.out).trans hb2)
       clear hap hr2 hb2
       go_wp2_with (at_builtin; refine wpList_append_run rfl _ _ _ _ rfl rfl rfl HAP.out ?_)
       go_roundw
       case rel => exact ⟨k + 1, q + 1, B', d', by omega, rfl, by go_num, by rw [HX.out]; exact HR2.out, HB2.out⟩
       case measure => simp [intOf]; omega
     · obtain rfl : k = n := by omega
       have hrr := HR.out
       rw [List.take_of_length_le (by rw [HL.out]; exact Nat.le_refl _), HEND.out] at hrr
       have hm1 := hrr.len
       obtain rfl : m = 1 := by simpa using hm1.symm
       obtain ⟨b, o, u, rfl, hbl, hu, hc⟩ := hrr.sl.at_ (k := 0) (by omega)
       have hcap2 := hrr.sl.cap
       unfold maxLen at hcap2
       obtain rfl : u = .string ⟨(exprS l).toArray⟩ := by simpa [tv] using hu.symm
       have HRX := Lib.hid hrr
       rw [Nat.add_zero] at hc
       clear hrr hm1 hu
       go_wp2_with fail
       go_ret
       exact ⟨rfl, HB.out⟩
end Go.Proofs.YtdbnaaddocahpaaDoor
/- A rule's text (the project's). -/
namespace Go.Proofs.YtdbnaaddocahpaaDoor
set_option linter.unusedVariables false
open Go.RowKit Go.Sort

theorem condW_ne {l : List Nod} (h : l ≠ []) : condW l = [⟨#[105, 102]⟩, ⟨(exprS l).toArray⟩].map bl := by unfold condW; rw [if_neg h]; rfl
theorem tr_two (w : World) (x y : ByteArray) : TR (w.alloc (.cells #[.string x, .string y] 9)) w.heap.size (some ⟨w.heap.size, 0, none⟩) 2 2 [bl x, bl y] := TR.lit w [x, y] (n := 2) rfl (by omega)

set_option maxHeartbeats 6400000 in
set_option maxRecDepth 100000 in
theorem show_rule {R : Nat → Prop} {A1 A2 A3 : Option Addr} {n1 c1 n2 c2 n3 c3 : Nat} (r : Rul) (w : World) (h1 : Tg w R A1 n1 c1 r.tg) (h2 : Nds w R A2 n2 c2 r.cond) (h3 : Dus w R A3 n3 c3 r.ob) (hf : r.fine) (ht : Tbl w) :
    Calls Tryd.prog 23 #[.agg #[.string r.id, .bool r.deny, .slice A1 n1 c1, .slice A2 n2 c2, .slice A3 n3 c3]] w fun e w' => e = .returned (.string ⟨(rulT r).toArray⟩) ∧ Below w.heap.size w w' := by
  have hok : r.oks := ⟨Tg.oks' h1, Rw.all h2⟩
  have hlen := rul_len hf hok
  obtain ⟨hW1, hW2⟩ := rulW_len hf hok
  obtain ⟨hn, htg, hc, ho⟩ := hf
  have hid16 : r.id.size ≤ 16 := hn.1.2
  have hn2 := Rw.len h2
  have hn3 := Rw.len h3
  have ho8 := (obE_all ho).1
  have HT : Hid (∀ W, Below w.heap.size w W → Tbl W) := fun W hb => ht.then_ hb
  have CT := Lib.hid (fun (W : World) (hb : Below w.heap.size w W) => show_target W (h1.keep (Kept.all hb R) (fun _ h _ => h)) htg (HT.out _ hb))
  have CX := Lib.hid (fun (W : World) (hb : Below w.heap.size w W) => show_expr W (h2.keep (Kept.all hb R) (fun _ h _ => h)) (HT.out _ hb))
  have CD := Lib.hid (fun (W : World) (hb : Below w.heap.size w W) => texts_duty (h3.keep (Kept.all hb R) (fun _ h _ => h)) (by omega) (obE_all ho).2 (HT.out _ hb))
  obtain ⟨x1, hx1⟩ : ∃ x : ByteArray, x = ⟨(effW r.deny).toArray⟩ := ⟨_, rfl⟩
  have CE : Hid (∀ W, Calls Tryd.prog 36 #[.bool r.deny] W fun e w' => e = .returned (.string x1) ∧ w' = W) := fun W => by rw [hx1]; exact show_effect r.deny W
  have HE : Hid (rulW r = [bl x1, bl r.id] ++ tgW r.tg ++ condW r.cond ++ r.ob.map dutT) := by
    show rulW r = _
    rw [hx1]
    simp [rulW, bl_mk]
  have hj : ((Lib.join (rulW r) (bl ⟨#[32]⟩)).length ≤ 5000000) := by
    have e : (rulT r).length = (Lib.join (rulW r) (bl ⟨#[32]⟩)).length + 1 := by unfold rulT; rw [List.length_append]; rfl
    omega
  obtain ⟨y, hy⟩ : ∃ y : ByteArray, y = ⟨(Lib.join (rulW r) (bl ⟨#[32]⟩)).toArray⟩ := ⟨_, rfl⟩
  have hys : y.size ≤ 5000000 := by rw [hy]; exact hj
  have HJL : Hid ((Lib.join (rulW r) (bl ⟨#[32]⟩)).length ≤ 140737488355328) := Nat.le_trans hj (by omega)
  have HR : Hid (bl y ++ [59] = rulT r) := by rw [hy]; rfl
  have HY := Lib.hid hy
  have HO8 := Lib.hid (show n3 ≤ 8 by omega)
  have HCN := Lib.hid (show n2 = 0 ∨ r.cond ≠ [] by
    by_cases h0 : n2 = 0
    · exact .inl h0
    · exact .inr (by intro hh; rw [hh] at hn2; simp at hn2; omega))
  have HC0 := Lib.hid (show n2 = 0 → condW r.cond = [] by intro h0; rw [h0] at hn2; rw [List.eq_nil_of_length_eq_zero hn2]; rfl)
  have hc2 := Rw.cap h2
  have hle2 := Rw.le h2
  unfold maxLen at hc2
  generalize rulT r = rt at *
  generalize rulW r = rw0 at *
  clear h1 h2 h3 hok hlen hW1 hW2 hn htg hc ho hn2 hn3 ho8 ht hx1 hj hy
  obtain ⟨C0, hC0⟩ : ∃ C0 : Array Value, C0 = #[.string r.id, .bool r.deny, .slice A1 n1 c1, .slice A2 n2 c2, .slice A3 n3 c3] := ⟨_, rfl⟩
  have OB := Lib.hid (Ob.made w 37 C0)
  have B0 := Lib.hid (al9' w (.cells C0 37))
  have HSZ := Lib.hid (size_al w (.cells C0 37))
  go_enter Tryd.func23, Tryd.ntmps23
  go_upto_region 1 with fail
  rw [← hC0]
  generalize w.alloc (.cells C0 37) = W1 at *
  rw [hC0] at OB
  have KO : Hid (∀ W, Below W1.heap.size W1 W → W.cell? ⟨w.heap.size, 0, none⟩ = some (.string r.id) ∧ W.cell? ⟨w.heap.size, 1, none⟩ = some (.bool r.deny) ∧ W.cell? ⟨w.heap.size, 2, none⟩ = some (.slice A1 n1 c1) ∧ W.cell? ⟨w.heap.size, 3, none⟩ = some (.slice A2 n2 c2) ∧ W.cell? ⟨w.heap.size, 4, none⟩ = some (.slice A3 n3 c3)) := by
    show ∀ W, _ → _
    intro W hb
    have o := OB.out.below hb (by have := HSZ.out; omega)
    exact ⟨o.cell 0, o.cell 1, o.cell 2, o.cell 3, o.cell 4⟩
  clear hC0 OB
  go_cut [3] from 4 to 13 (fun s wx => ∃ B m d, s = .slice B m d ∧ m ≤ 4 ∧ TR wx W1.heap.size B m d ([bl x1, bl r.id] ++ tgW r.tg) ∧ Below W1.heap.size W1 wx)
  case first =>
    refine wp_region_held_tail (fun w' => Below W1.heap.size W1 w') 9 (by kernel_rfl) (by kernel_rfl) ?_
    intro G
    change HeadW _ _ _ _ _ _ _ _ _ _ (W1.drewN 1)
    have S0 := Lib.hid (below_drewN (Below.refl W1.heap.size W1) 1)
    generalize W1.drewN 1 = v0 at *
    refine HeadW_take (i := 0) (v := ?_) G rfl (by kernel_rfl) (by kernel_rfl) (by kernel_rfl) (fun _ _ _ h => h) (Or.inl ⟨by rfl, ?_⟩) S0.out ?_
    rotate_left
    · intro wz hS
      go_simp
      try with_reducible rfl
    refine HeadW_take (i := 1) (v := ?_) G rfl (by kernel_rfl) (by kernel_rfl) (by kernel_rfl) (fun _ _ _ h => h) (Or.inl ⟨by rfl, ?_⟩) S0.out ?_
    rotate_left
    · intro wz hS
      have hk1 := (KO.out _ hS).2.1
      go_simp
      try with_reducible rfl
    refine HeadW_take (i := 3) (v := ?_) G rfl (by kernel_rfl) (by kernel_rfl) (by kernel_rfl) (fun _ _ _ h => h) (Or.inl ⟨by rfl, ?_⟩) S0.out ?_
    rotate_left
    · intro wz hS
      go_simp
      try with_reducible rfl
    refine HeadW_take (i := 4) (v := ?_) G rfl (by kernel_rfl) (by kernel_rfl) (by kernel_rfl) (fun _ _ _ h => h) (Or.inl ⟨by rfl, ?_⟩) S0.out ?_
    rotate_left
    · intro wz hS
      have hk1 := (KO.out _ hS).1
      go_simp
      try with_reducible rfl
    refine HeadW_take (i := 6) (v := ?_) G rfl (by kernel_rfl) (by kernel_rfl) (by kernel_rfl) (fun _ _ _ h => h) (Or.inl ⟨by rfl, ?_⟩) S0.out ?_
    rotate_left
    · intro wz hS
      go_simp
      try with_reducible rfl
    refine HeadW_take (i := 7) (v := ?_) G rfl (by kernel_rfl) (by kernel_rfl) (by kernel_rfl) (fun _ _ _ h => h) (Or.inl ⟨by rfl, ?_⟩) S0.out ?_
    rotate_left
    · intro wz hS
      have hk1 := (KO.out _ hS).2.2.1
      go_simp
      try with_reducible rfl
    refine HeadW_ready (rs := [2]) (by kernel_rfl) rfl rfl ?_
    refine AllW.cons rfl (fun K hK => ?_) AllW.nil
    go_simp
    refine (CE.out _).mono ?_
    rintro e wz ⟨rfl, hwz⟩
    rw [hwz]
    refine hK _ _ S0.out ?_
    clear hK K
    refine HeadW_ready (rs := [5, 8]) (by kernel_rfl) rfl rfl ?_
    refine AllW.cons rfl (fun K hK => ?_) (AllW.cons rfl (fun K hK => ?_) AllW.nil)
    · go_simp
      have hb : Below v0.heap.size v0 (v0.alloc (.cells #[.string x1, .string r.id] 9)) := (Below.refl _ _).alloc (Nat.le_refl _) _
      have S2 := Lib.hid (S0.out.trans (hb.mono S0.out.size))
      have L2 := Lib.hid ((tr_two v0 x1 r.id).less S0.out.size)
      refine hK _ _ S2.out ?_
      clear hK K hb
      generalize v0.alloc (.cells #[.string x1, .string r.id] 9) = v2 at *
      refine HeadW_ready (rs := [8]) (by kernel_rfl) rfl rfl ?_
      refine AllW.cons rfl (fun K hK => ?_) AllW.nil
      go_simp
      refine (CT.out _ (B0.out.trans (S2.out.mono B0.out.size))).mono ?_
      rintro e v3 ⟨T1, tm, tc, rfl, htm, htr, hb⟩
      have S3 := Lib.hid (S2.out.trans (hb.mono S2.out.size))
      have T3 := Lib.hid htr.sl
      have TM3 := Lib.hid htm
      have L3 := Lib.hid (L2.out.below hb)
      refine hK _ _ S3.out ?_
      clear hK K hb htr htm
      intro _
      refine ⟨by kernel_rfl, ?_⟩
      simp only [List.drop_succ_cons, List.drop_zero]
      obtain ⟨B', d', w9, hap, hr2, hb2⟩ := L3.out.app T3.out (by have := TM3.out; omega) S3.out.size 54
      have HAP := Lib.hid hap
      have HR2 := Lib.hid hr2
      have HB2 := Lib.hid (S3.out.trans hb2)
      clear hap hr2 hb2
      go_wp2_with (at_builtin; refine wpList_append_run rfl _ _ _ _ rfl rfl rfl HAP.out ?_)
      go_meet
      exact ⟨_, _, _, rfl, by have := TM3.out; omega, HR2.out, HB2.out⟩
    · go_simp
      refine (CT.out _ (B0.out.trans (S0.out.mono B0.out.size))).mono ?_
      rintro e v4 ⟨T1, tm, tc, rfl, htm, htr, hb⟩
      have S4 := Lib.hid (S0.out.trans (hb.mono S0.out.size))
      have T4 := Lib.hid htr.sl
      have TM4 := Lib.hid htm
      refine hK _ _ S4.out ?_
      clear hK K hb htr htm
      refine HeadW_ready (rs := [5]) (by kernel_rfl) rfl rfl ?_
      refine AllW.cons rfl (fun K hK => ?_) AllW.nil
      go_simp
      have hb : Below v4.heap.size v4 (v4.alloc (.cells #[.string x1, .string r.id] 9)) := (Below.refl _ _).alloc (Nat.le_refl _) _
      have S5 := Lib.hid (S4.out.trans (hb.mono S4.out.size))
      have L5 := Lib.hid ((tr_two v4 x1 r.id).less S4.out.size)
      have T5 := Lib.hid ((T4.out.below hb).more hb.size)
      refine hK _ _ S5.out ?_
      clear hK K hb
      generalize v4.alloc (.cells #[.string x1, .string r.id] 9) = v5 at *
      intro _
      refine ⟨by kernel_rfl, ?_⟩
      simp only [List.drop_succ_cons, List.drop_zero]
      obtain ⟨B', d', w9, hap, hr2, hb2⟩ := L5.out.app T5.out (by have := TM4.out; omega) S5.out.size 54
      have HAP := Lib.hid hap
      have HR2 := Lib.hid hr2
      have HB2 := Lib.hid (S5.out.trans hb2)
      clear hap hr2 hb2
      go_wp2_with (at_builtin; refine wpList_append_run rfl _ _ _ _ rfl rfl rfl HAP.out ?_)
      go_meet
      exact ⟨_, _, _, rfl, by have := TM4.out; omega, HR2.out, HB2.out⟩
  case rest =>
    obtain ⟨B, m, d, rfl, hm4, htr, hb⟩ := hcut
    have q3 := (KO.out _ hb).2.2.2.1
    have KO4 := Lib.hid (fun (W : World) (hh : Below W1.heap.size W1 W) => (KO.out W hh).2.2.2.2)
    by_cases h0 : n2 = 0
    · have hz : ¬ (0 : Int) < (n2 : Int) := by omega
      have q4 := KO4.out _ hb
      have HRW : Hid (rw0 = [bl x1, bl r.id] ++ tgW r.tg ++ r.ob.map dutT) := by
        show rw0 = _
        rw [HE.out, HC0.out h0, List.append_nil]
      have HTX := Lib.hid htr
      have HMX := Lib.hid hm4
      have HBX := Lib.hid hb
      clear htr hb hm4 HE HC0 HCN
      go_wp2_with (first
        | (go_at_call 24
           refine (CD.out _ (B0.out.trans (HBX.out.mono B0.out.size))).mono ?_
           rintro e w5 ⟨D1, dd, rfl, hr5, hb5⟩
           have HB5 := Lib.hid (HBX.out.trans (hb5.mono HBX.out.size))
           obtain ⟨D2, d2, w6, hap, hr6, hb6⟩ := (HTX.out.below hb5).app hr5.sl (by have := HMX.out; have := HO8.out; omega) HB5.out.size 54
           have HAP2 := Lib.hid hap
           have HB6 := Lib.hid (HB5.out.trans hb6)
           have HJ := Lib.hid (join_row hr6.sl (Nat.le_refl _) (by have := HMX.out; have := HO8.out; omega) ⟨#[32]⟩ (by rw [← HRW.out]; exact HJL.out))
           rw [← HRW.out, ← HY.out] at HJ
           clear hap hr6 hb6 hr5 hb5)
        | (at_builtin; refine wpList_append_run rfl _ _ _ _ rfl rfl rfl HAP2.out ?_)
        | (go_at_call 11; refine HJ.out.mono ?_; rintro e w7 ⟨rfl, hb7⟩; have B7 := Lib.hid ((B0.out.trans (HB6.out.mono B0.out.size)).trans (hb7.mono (Nat.le_trans B0.out.size HB6.out.size))); clear hb7))
      go_ret
      refine ⟨ret_text ?_, B7.out⟩
      rw [← HR.out]
      simp [bl_app, bl_mka]
    · have hz : (0 : Int) < (n2 : Int) := by omega
      obtain ⟨z, hz1⟩ : ∃ z : ByteArray, z = ⟨(exprS r.cond).toArray⟩ := ⟨_, rfl⟩
      have HRW : Hid (rw0 = [bl x1, bl r.id] ++ tgW r.tg ++ [bl ⟨#[105, 102]⟩, bl z] ++ r.ob.map dutT) := by
        show rw0 = _
        rw [HE.out, condW_ne (HCN.out.resolve_left h0), hz1]; rfl
      rw [← hz1] at CX
      have HTY := Lib.hid htr
      have HMY := Lib.hid hm4
      have HBY := Lib.hid hb
      clear htr hb hm4 HE HC0 HCN hz1
      go_wp2_with (first
        | (go_at_call 37
           refine (CX.out _ (B0.out.trans (HBY.out.mono B0.out.size))).mono ?_
           rintro e w2 ⟨rfl, hb2⟩
           have HB2 := Lib.hid (HBY.out.trans (hb2.mono HBY.out.size))
           have hb3 : Below w2.heap.size w2 (w2.alloc (.cells #[.string ⟨#[105, 102]⟩, .string z] 9)) := (Below.refl _ _).alloc (Nat.le_refl _) _
           obtain ⟨D3, d3, w4, hap, hr4, hb4⟩ := ((HTY.out.below hb2).below hb3).app (tr_two w2 ⟨#[105, 102]⟩ z).sl (by have := HMY.out; omega) (Nat.le_trans HB2.out.size hb3.size) 54
           have HAP1 := Lib.hid hap
           have HBX := Lib.hid ((HB2.out.trans (hb3.mono HB2.out.size)).trans hb4)
           have HTX := Lib.hid hr4
           have HMX := Lib.hid (show m + 2 ≤ 6 from Nat.add_le_add_right HMY.out 2)
           have q4 := KO4.out _ HBX.out
           clear hap hr4 hb4 hb3 hb2)
        | (at_builtin; refine wpList_append_run rfl _ _ _ _ rfl rfl rfl HAP1.out ?_)
        | (go_at_call 24
           refine (CD.out _ (B0.out.trans (HBX.out.mono B0.out.size))).mono ?_
           rintro e w5 ⟨D1, dd, rfl, hr5, hb5⟩
           have HB5 := Lib.hid (HBX.out.trans (hb5.mono HBX.out.size))
           obtain ⟨D2, d2, w6, hap, hr6, hb6⟩ := (HTX.out.below hb5).app hr5.sl (by have := HMX.out; have := HO8.out; omega) HB5.out.size 54
           have HAP2 := Lib.hid hap
           have HB6 := Lib.hid (HB5.out.trans hb6)
           have HJ := Lib.hid (join_row hr6.sl (Nat.le_refl _) (by have := HMX.out; have := HO8.out; omega) ⟨#[32]⟩ (by rw [← HRW.out]; exact HJL.out))
           rw [← HRW.out, ← HY.out] at HJ
           clear hap hr6 hb6 hr5 hb5)
        | (at_builtin; refine wpList_append_run rfl _ _ _ _ rfl rfl rfl HAP2.out ?_)
        | (go_at_call 11; refine HJ.out.mono ?_; rintro e w7 ⟨rfl, hb7⟩; have B7 := Lib.hid ((B0.out.trans (HB6.out.mono B0.out.size)).trans (hb7.mono (Nat.le_trans B0.out.size HB6.out.size))); clear hb7))
      go_ret
      refine ⟨ret_text ?_, B7.out⟩
      rw [← HR.out]
      simp [bl_app, bl_mka]
end Go.Proofs.YtdbnaaddocahpaaDoor
/- A policy's words (the project's). -/
namespace Go.Proofs.YtdbnaaddocahpaaDoor
set_option linter.unusedVariables false
open Go.RowKit Go.Sort

theorem tr_ob {V : World} {g base : Nat} {x y z : ByteArray} (h : Ob V g 9 #[.string x, .string y, .string z]) (hb : base ≤ g) : TR V base (some ⟨g, 0, none⟩) 3 3 [bl x, bl y, bl z] := by
  unfold TR tv
  simp only [List.map_cons, List.map_nil, bl_toArray]
  exact ⟨rfl, .inr ⟨g, 3, _, rfl, hb, h, Nat.le_refl _, by unfold maxLen; omega, rfl, rfl⟩⟩
theorem only_down9 {g B : Nat} {w w' : World} (h : Only g w w') (hB : B ≤ g) (hw : g < w.heap.size) : Below B w w' := ⟨h.os, h.tape, h.output, h.size, fun k hk => h.heap (by omega) (by omega)⟩
theorem tr_at (w : World) (x : ByteArray) : TR (w.alloc (.cells #[.string x] 9)) w.heap.size (some ⟨w.heap.size, 0, none⟩) 1 1 [bl x] := TR.lit w [x] (n := 1) rfl (by omega)
theorem Rus.oks' {w : World} {R : Nat → Prop} {A : Option Addr} {n c : Nat} {l : List Rul} (h : Rus w R A n c l) : ∀ r ∈ l, r.oks := by
  intro a ha
  obtain ⟨j, hj, rfl⟩ := List.getElem_of_mem ha
  obtain ⟨b, o, r, A1, n1, c1, A2, n2, c2, A3, n3, c3, _, _, _, hx, _, _, h1, h2, _⟩ := h.at_ (j := j) (by have := Rw.len h; omega)
  rw [List.getElem?_eq_getElem hj] at hx
  injection hx with hx
  rw [hx]
  exact ⟨Tg.oks' h1, Rw.all h2⟩
theorem pls_oks : ∀ (d : Nat) {D : Nat} {w : World} {R : Nat → Prop} {A : Option Addr} {n c : Nat} {l : List Pol}, Pls w R D A n c l → ∀ k ∈ l, polOks d k
  | 0, _, _, _, _, _, _, _, _, _, _ => trivial
  | d + 1, _, _, _, _, _, _, l, h, k, hk => by
    obtain ⟨j, hj, rfl⟩ := List.getElem_of_mem hk
    obtain ⟨b, o, p, d', A1, n1, c1, A2, n2, c2, A3, n3, c3, A4, n4, c4, _, _, _, hx, _, _, _, h1, h2, h3, _⟩ := h.at_ (j := j) (by have := Rw.len h; omega)
    rw [List.getElem?_eq_getElem hj] at hx
    injection hx with hx
    rw [hx]
    exact ⟨Tg.oks' h1, Rus.oks' h2, pls_oks d h3⟩
theorem tail_flat {d : Nat} {l : List Pol} {k : Nat} {x : Pol} (hx : l[k]? = some x) : ((l.take (k + 1)).map (polW d)).flatten = ((l.take k).map (polW d)).flatten ++ polW d x := by
  rw [take_next hx, List.map_append, List.flatten_append]
  simp

def WdOk (d : Nat) : Prop := ∀ {w : World} {R : Nat → Prop} {D : Nat} {p : Pol} {s s' : Seen} {A1 A2 A3 A4 : Option Addr} {n1 c1 n2 c2 n3 c3 n4 c4 : Nat}, polS d p s = (0, s') → polOks d p → Tg w R A1 n1 c1 p.tg → Rus w R A2 n2 c2 p.rules → Pls w R D A3 n3 c3 p.kids → Dus w R A4 n4 c4 p.ob → Tbl w →
    Calls Tryd.prog 12 #[.agg #[.string p.id, .bool p.set, .int .i64 p.alg, .slice A1 n1 c1, .slice A2 n2 c2, .slice A3 n3 c3, .slice A4 n4 c4]] w fun e w' => ∃ B n c, e = .returned (.slice B n c) ∧ TR w' w.heap.size B n c (polW d p) ∧ Below w.heap.size w w'

set_option maxHeartbeats 12800000 in
set_option maxRecDepth 100000 in
theorem words_step (d : Nat) (hd : d ≤ 3) (ih : WdOk d) : WdOk (d + 1) := by
  intro w R D p s s' A1 A2 A3 A4 n1 c1 n2 c2 n3 c3 n4 c4 hp hok h1 h2 h3 h4 ht
  have hpl := polW_len (d + 1) hp hok
  obtain ⟨hid, hfit, htg, hob, ⟨h16, k16⟩, s1, s2, hs1, hr, hk⟩ := pol_parts hp
  obtain ⟨hok1, hok2, hok3⟩ := hok
  have hrf := rules_fine hr
  have hkf := kids_fine hk
  obtain ⟨halg, _, _⟩ := fits_all hfit
  have hN := wordsN_le (d := 3) (by omega)
  have hNd : wordsN d ≤ 10920 := by
    have : d = 0 ∨ d = 1 ∨ d = 2 ∨ d = 3 := by omega
    rcases this with rfl | rfl | rfl | rfl <;> decide
  have hkl := fun k hkk => (polW_len d (hkf k hkk).choose_spec.choose_spec (hok3 k hkk)).1
  have hl2 := Rw.len h2
  have hl3 := Rw.len h3
  have hl4 := Rw.len h4
  have ho8 := (obE_all hob).1
  have hle2 := Rw.le h2
  have hle3 := Rw.le h3
  have hcp2 := Rw.cap h2
  have hcp3 := Rw.cap h3
  unfold maxLen at hcp2 hcp3
  have HT : Hid (∀ W, Below w.heap.size w W → Tbl W) := fun W hb => ht.then_ hb
  have CT := Lib.hid (fun (W : World) (hb : Below w.heap.size w W) => show_target W (h1.keep (Kept.all hb R) (fun _ h _ => h)) htg (HT.out _ hb))
  have CD := Lib.hid (fun (W : World) (hb : Below w.heap.size w W) => texts_duty (h4.keep (Kept.all hb R) (fun _ h _ => h)) (by omega) (obE_all hob).2 (HT.out _ hb))
  have H2 := Lib.hid h2
  have H3 := Lib.hid h3
  have HRF := Lib.hid hrf
  have HKF := Lib.hid hkf
  have HKL := Lib.hid hkl
  have HK3 := Lib.hid hok3
  obtain ⟨x2, hx2⟩ : ∃ x : ByteArray, x = ⟨(algW p.alg).toArray⟩ := ⟨_, rfl⟩
  have HG : Hid (∀ W, Below w.heap.size w W → W.cell? ⟨0, p.alg.toNat, none⟩ = some (.string x2)) := fun W hb => by
    rw [hx2]; exact (HT.out _ hb).alg (by omega) (by omega)
  have hi : 0 ≤ p.alg ∧ p.alg < 7 := by omega
  have hid16 : p.id.size ≤ 16 := hid.1.2
  have HW : Hid (polW (d + 1) p = [headW p, bl p.id, bl x2] ++ tgW p.tg ++ [bl ⟨#[123]⟩] ++ p.rules.map rulT ++ (p.kids.map (polW d)).flatten ++ [bl ⟨#[125]⟩] ++ p.ob.map dutT) := by
    show polW (d + 1) p = _
    rw [hx2]
    simp [polW, bl_mka]
  have HHS : Hid (p.set = false → headW p = bl ⟨#[112, 111, 108, 105, 99, 121]⟩) := fun h => by unfold headW; rw [if_neg (by rw [h]; simp)]; rfl
  have HHT : Hid (p.set = true → headW p = bl ⟨#[115, 101, 116]⟩) := fun h => by unfold headW; rw [if_pos h]; rfl
  have HL2 := Lib.hid hl2
  have HL3 := Lib.hid hl3
  have HB16 := Lib.hid (show n2 ≤ 16 ∧ n3 ≤ 16 ∧ n4 ≤ 8 by omega)
  have HND := Lib.hid hNd
  generalize hhw : headW p = hw at *
  clear hpl hid hfit htg hob h16 k16 hs1 hr hk hok1 hok2 hok3 hrf hkf halg hN hNd hkl hl2 hl3 hl4 ho8 h1 h2 h3 h4 ht hp hx2 hhw
  obtain ⟨C0, hC0⟩ : ∃ C0 : Array Value, C0 = #[.string p.id, .bool p.set, .int .i64 p.alg, .slice A1 n1 c1, .slice A2 n2 c2, .slice A3 n3 c3, .slice A4 n4 c4] := ⟨_, rfl⟩
  have OB := Lib.hid (Ob.made w 43 C0)
  have B0 := Lib.hid (al9' w (.cells C0 43))
  have HSZ := Lib.hid (size_al w (.cells C0 43))
  go_enter Tryd.func12, Tryd.ntmps12
  go_upto_region 1 with fail
  rw [← hC0]
  generalize w.alloc (.cells C0 43) = W1 at *
  rw [hC0] at OB
  have KO : Hid (∀ W, Below W1.heap.size W1 W → W.cell? ⟨w.heap.size, 0, none⟩ = some (.string p.id) ∧ W.cell? ⟨w.heap.size, 1, none⟩ = some (.bool p.set) ∧ W.cell? ⟨w.heap.size, 2, none⟩ = some (.int .i64 p.alg) ∧ W.cell? ⟨w.heap.size, 3, none⟩ = some (.slice A1 n1 c1) ∧ W.cell? ⟨w.heap.size, 4, none⟩ = some (.slice A2 n2 c2) ∧ W.cell? ⟨w.heap.size, 5, none⟩ = some (.slice A3 n3 c3) ∧ W.cell? ⟨w.heap.size, 6, none⟩ = some (.slice A4 n4 c4)) := by
    show ∀ W, _ → _
    intro W hb
    have o := OB.out.below hb (by have := HSZ.out; omega)
    exact ⟨o.cell 0, o.cell 1, o.cell 2, o.cell 3, o.cell 4, o.cell 5, o.cell 6⟩
  clear hC0 OB
  have UP : Hid (∀ W, Below W1.heap.size W1 W → Below w.heap.size w W) := fun W hb => B0.out.trans (hb.mono B0.out.size)
  refine wp_region_held_tail (fun w' => Below W1.heap.size W1 w') 6 (by kernel_rfl) (by kernel_rfl) ?_
  intro G
  change HeadW _ _ _ _ _ _ _ _ _ _ (W1.drewN 1)
  have S0 := Lib.hid (below_drewN (Below.refl W1.heap.size W1) 1)
  generalize W1.drewN 1 = v0 at *
  refine HeadW_take (i := 0) (v := ?_) G rfl (by kernel_rfl) (by kernel_rfl) (by kernel_rfl) (fun _ _ _ h => h) (Or.inl ⟨by rfl, ?_⟩) S0.out ?_
  rotate_left
  · intro wz hS
    go_simp
    try with_reducible rfl
  refine HeadW_take (i := 1) (v := ?_) G rfl (by kernel_rfl) (by kernel_rfl) (by kernel_rfl) (fun _ _ _ h => h) (Or.inl ⟨by rfl, ?_⟩) S0.out ?_
  rotate_left
  · intro wz hS
    have hk1 := (KO.out _ hS).1
    go_simp
    try with_reducible rfl
  refine HeadW_take (i := 2) (v := ?_) G rfl (by kernel_rfl) (by kernel_rfl) (by kernel_rfl) (fun _ _ _ h => h) (Or.inl ⟨by rfl, ?_⟩) S0.out ?_
  rotate_left
  · intro wz hS
    go_simp
    try with_reducible rfl
  refine HeadW_take (i := 3) (v := ?_) G rfl (by kernel_rfl) (by kernel_rfl) (by kernel_rfl) (fun _ _ _ h => h) (Or.inl ⟨by rfl, ?_⟩) S0.out ?_
  rotate_left
  · intro wz hS
    have hk1 := (KO.out _ hS).2.2.1
    go_simp
    try with_reducible rfl
  refine HeadW_take (i := 4) (v := ?_) G rfl (by kernel_rfl) (by kernel_rfl) (by kernel_rfl) (fun _ _ _ h => h) (Or.inl ⟨by rfl, ?_⟩) S0.out ?_
  rotate_left
  · intro wz hS
    go_simp
    try with_reducible rfl
  refine HeadW_take (i := 5) (v := ?_) G rfl (by kernel_rfl) (by kernel_rfl) (by kernel_rfl) (fun _ _ _ h => h) (Or.inl ⟨by rfl, ?_⟩) S0.out ?_
  rotate_left
  · intro wz hS
    have hk1 := HG.out _ (UP.out _ hS)
    go_simp
    try with_reducible rfl
  intro _
  refine ⟨by kernel_rfl, ?_⟩
  simp only [List.drop_succ_cons, List.drop_zero]
  have q1 := (KO.out _ (S0.out.alloc S0.out.size (.cells #[.string ⟨#[112, 111, 108, 105, 99, 121]⟩, .string p.id, .string x2] 9))).2.1
  have OL := Lib.hid (Ob.made v0 9 #[.string ⟨#[112, 111, 108, 105, 99, 121]⟩, .string p.id, .string x2])
  have BL := Lib.hid (S0.out.alloc S0.out.size (.cells #[.string ⟨#[112, 111, 108, 105, 99, 121]⟩, .string p.id, .string x2] 9))
  have SL := Lib.hid S0.out.size
  go_upto_if 16 with fail
  generalize v0.alloc (.cells #[.string ⟨#[112, 111, 108, 105, 99, 121]⟩, .string p.id, .string x2] 9) = V at *
  generalize v0.heap.size = g at *
  go_cut [3] from 15 to 18 (fun s wx => ∃ B d, s = .slice B 3 d ∧ TR wx W1.heap.size B 3 d [hw, bl p.id, bl x2] ∧ Below W1.heap.size W1 wx)
  case first =>
    have l0 := OL.out.cell 0
    have f0 := OL.out.frozen 0
    cases hps : p.set
    · rw [hps] at q1
      go_wp2_with fail
      go_meet
      refine ⟨_, _, rfl, ?_, BL.out⟩
      rw [HHS.out hps]
      exact tr_ob OL.out SL.out
    · rw [hps] at q1
      go_wp2_with fail
      go_meet
      refine ⟨_, _, rfl, ?_, ?_⟩
      · rw [HHT.out hps]
        exact tr_ob (OL.out.put 0 (.string ⟨#[115, 101, 116]⟩)) SL.out
      · exact BL.out.trans (only_down9 (Only.refl.setCell (p := ⟨g, 0, none⟩) rfl _) SL.out OL.out.lt)
  case rest =>
    obtain ⟨B, dd, rfl, htr, hb⟩ := hcut
    have q3 := (KO.out _ hb).2.2.2.1
    have HTA := Lib.hid htr
    have HBA := Lib.hid hb
    clear htr hb OL BL SL S0
    go_wp2_with (first
      | (go_at_call 22
         refine (CT.out _ (UP.out _ HBA.out)).mono ?_
         rintro e w2 ⟨T1, tm, tc, rfl, htm, htt, hb2⟩
         have HB2 := Lib.hid (HBA.out.trans (hb2.mono HBA.out.size))
         obtain ⟨B3, d3, w3, hap, hr3, hb3⟩ := (HTA.out.below hb2).app htt.sl (by omega) HB2.out.size 54
         have HAP1 := Lib.hid hap
         have HB3 := Lib.hid (HB2.out.trans hb3)
         have HTM := Lib.hid htm
         have hb4 : Below w3.heap.size w3 (w3.alloc (.cells #[.string ⟨#[123]⟩] 9)) := (Below.refl _ _).alloc (Nat.le_refl _) _
         obtain ⟨B5, d5, w5, hap, hr5, hb5⟩ := hr3.push ⟨#[123]⟩ (by omega) HB3.out.size 54
         have HAP2 := Lib.hid hap
         have HB5 := Lib.hid (HB3.out.trans hb5)
         have HR5 := Lib.hid hr5
         have q4 := (KO.out _ HB5.out).2.2.2.2.1
         clear hap hr3 hr5 hb2 hb3 hb4 hb5 htt htm)
      | (at_builtin; refine wpList_append_run rfl _ _ _ _ rfl rfl rfl HAP1.out ?_)
      | (at_builtin; refine wpList_append_run rfl _ _ _ _ rfl rfl rfl HAP2.out ?_))
    have HM5 := Lib.hid (show 3 + tm + 1 ≤ 6 by have := HTM.out; omega)
    go_loopw [3, 29] (fun s i wr => ∃ (k m : Nat) (B : Option Addr) (e : Nat), k ≤ n2 ∧ m ≤ 6 + k ∧ s = .slice B m e ∧ i = .int .i64 k ∧ TR wr W1.heap.size B m e ([hw, bl p.id, bl x2] ++ tgW p.tg ++ [bl ⟨#[123]⟩] ++ (p.rules.take k).map rulT) ∧ Below W1.heap.size W1 wr) (fun _ i _ => n2 - (intOf i).toNat)
    case atStart => exact ⟨0, 3 + tm + 1, B5, d5, Nat.zero_le _, HM5.out, rfl, rfl, by rw [List.take_zero, List.map_nil, List.append_nil]; exact HR5.out, HB5.out⟩
    case round =>
      clear HTA HBA HR5 HB5 HB3 HB2 HAP1 HAP2 q3 q4
      obtain ⟨k, m, B, e, hk, hm, rfl, rfl, hr, hb⟩ := hrel
      have HR := Lib.hid hr
      have HB := Lib.hid hb
      have HMK := Lib.hid hm
      clear hr hb
      by_cases hlt : k < n2
      · obtain ⟨b, o, r, E1, m1, e1, E2, m2, e2, E3, m3, e3, rfl, hRb, hbl, hx, hid', ⟨z0, z1, z2, z3, z4⟩, t1, t2, t3⟩ := (H2.out.keep (Kept.all (UP.out _ HB.out) R) (fun _ h _ => h)).at_ hlt
        have HX := Lib.hid hx
        have HC := Lib.hid (fun (W : World) (hb : Below wr.heap.size wr W) => show_rule r W (t1.keep (Kept.all hb R) (fun _ h _ => h)) (t2.keep (Kept.all hb R) (fun _ h _ => h)) (t3.keep (Kept.all hb R) (fun _ h _ => h)) (HRF.out r (List.mem_of_getElem? hx)) (HT.out _ (UP.out _ (HB.out.trans (hb.mono HB.out.size)))))
        clear hx t1 t2 t3
        go_wp2_with (first
          | (go_at_call 23
             refine (HC.out _ (al9' _ _)).mono ?_
             rintro e w2 ⟨rfl, hb2⟩
             have HB2 := Lib.hid (HB.out.trans ((show Below wr.heap.size wr w2 from Below.lit hb2).mono HB.out.size))
             obtain ⟨B5, d5, w5, hap, hr5, hb5⟩ := (HR.out.below (show Below wr.heap.size wr w2 from Below.lit hb2)).push ⟨(rulT r).toArray⟩ (by have := HB16.out; omega) HB2.out.size 54
             have HAP := Lib.hid hap
             have HB5 := Lib.hid (HB2.out.trans hb5)
             have HR5 := Lib.hid hr5
             clear hap hr5 hb2 hb5)
          | (at_builtin; refine wpList_append_run rfl _ _ _ _ rfl rfl rfl HAP.out ?_))
        go_roundw
        case rel => exact ⟨k + 1, m + 1, B5, d5, by omega, by omega, rfl, by go_num, by rw [tail_take HX.out, ← List.append_assoc]; exact HR5.out, HB5.out⟩
        case measure => simp [intOf]; omega
      · obtain rfl : k = n2 := by omega
        have q5 := (KO.out _ HB.out).2.2.2.2.2.1
        have hrr := HR.out
        rw [List.take_of_length_le (by rw [HL2.out]; exact Nat.le_refl _)] at hrr
        have HR6 := Lib.hid hrr
        have HM6 := Lib.hid (show m ≤ 22 by have := HB16.out; have := HMK.out; omega)
        clear hrr HR hm
        go_wp2_with fail
        go_loopw [3, 42] (fun s i wr => ∃ (j m : Nat) (B : Option Addr) (e : Nat), j ≤ n3 ∧ m ≤ 22 + j * 10920 ∧ s = .slice B m e ∧ i = .int .i64 j ∧ TR wr W1.heap.size B m e ([hw, bl p.id, bl x2] ++ tgW p.tg ++ [bl ⟨#[123]⟩] ++ p.rules.map rulT ++ ((p.kids.take j).map (polW d)).flatten) ∧ Below W1.heap.size W1 wr) (fun _ i _ => n3 - (intOf i).toNat)
        case atStart => exact ⟨0, m, B, e, Nat.zero_le _, by have := HM6.out; omega, rfl, rfl, by rw [List.take_zero, List.map_nil, List.flatten_nil, List.append_nil]; exact HR6.out, HB.out⟩
        case round =>
          clear HR6 HB HM6 HMK q5
          obtain ⟨j, m', B', e', hj, hm', rfl, rfl, hr', hb'⟩ := hrel
          have HRJ := Lib.hid hr'
          have HBJ := Lib.hid hb'
          have HMJ := Lib.hid hm'
          clear hr' hb' hm'
          by_cases hlt : j < n3
          · obtain ⟨b, o, q, dd', E1, m1, e1, E2, m2, e2, E3, m3, e3, E4, m4, e4, rfl, hRb, hbl, hx, rfl, hid', ⟨z0, z1, z2, z3, z4, z5, z6⟩, t1, t2, t3, t4⟩ := (H3.out.keep (Kept.all (UP.out _ HBJ.out) R) (fun _ h _ => h)).at_ hlt
            have HX := Lib.hid hx
            have hmem := List.mem_of_getElem? hx
            obtain ⟨sa, sb, hsq⟩ := HKF.out q hmem
            have HC := Lib.hid (fun (W : World) (hb : Below wr.heap.size wr W) => ih (R := R) hsq (HK3.out q hmem) (t1.keep (Kept.all hb R) (fun _ h _ => h)) (t2.keep (Kept.all hb R) (fun _ h _ => h)) (t3.keep (Kept.all hb R) (fun _ h _ => h)) (t4.keep (Kept.all hb R) (fun _ h _ => h)) (HT.out _ (UP.out _ (HBJ.out.trans (hb.mono HBJ.out.size)))))
            have HQL := Lib.hid (HKL.out q hmem)
            clear hx t1 t2 t3 t4 hsq hmem
            go_wp2_with (first
              | (go_at_call 12
                 refine (HC.out _ (al9' _ _)).mono ?_
                 rintro e w2 ⟨F1, fm, fc, rfl, htt, hb2⟩
                 have HB2 := Lib.hid (HBJ.out.trans ((show Below wr.heap.size wr w2 from Below.lit hb2).mono HBJ.out.size))
                 have hfm : fm ≤ 10920 := by have := htt.len; have := HQL.out; have := HND.out; omega
                 have HFM := Lib.hid hfm
                 obtain ⟨B5, d5, w5, hap, hr5, hb5⟩ := (HRJ.out.below (show Below wr.heap.size wr w2 from Below.lit hb2)).app htt.sl (by have := HB16.out; have := HMJ.out; omega) HB2.out.size 54
                 have HAP := Lib.hid hap
                 have HB5 := Lib.hid (HB2.out.trans hb5)
                 have HR5 := Lib.hid hr5
                 clear hap hr5 hb2 hb5 htt hfm)
              | (at_builtin; refine wpList_append_run rfl _ _ _ _ rfl rfl rfl HAP.out ?_))
            go_roundw
            case rel => exact ⟨j + 1, m' + fm, B5, d5, by omega, by have := HMJ.out; have := HFM.out; omega, rfl, by go_num, by rw [tail_flat HX.out, ← List.append_assoc]; exact HR5.out, HB5.out⟩
            case measure => simp [intOf]; omega
          · obtain rfl : j = n3 := by omega
            have hrr := HRJ.out
            rw [List.take_of_length_le (by rw [HL3.out]; exact Nat.le_refl _)] at hrr
            have HR7 := Lib.hid hrr
            have HM7 := Lib.hid (show m' ≤ 200000 by have := HB16.out; have := HMJ.out; omega)
            clear hrr HRJ
            go_upto_region 15 with fail
            refine wp_region_held_tail (fun w' => Below W1.heap.size W1 w') 6 (by kernel_rfl) (by kernel_rfl) ?_
            intro G
            change HeadW _ _ _ _ _ _ _ _ _ _ (wr.drewN 1)
            have S1 := Lib.hid (below_drewN HBJ.out 1)
            have HR8 := Lib.hid (HR7.out.below (below_drewN (Below.refl wr.heap.size wr) 1))
            generalize wr.drewN 1 = v1 at *
            refine HeadW_take (i := 0) (v := ?_) G rfl (by kernel_rfl) (by kernel_rfl) (by kernel_rfl) (fun _ _ _ h => h) (Or.inl ⟨by rfl, ?_⟩) S1.out ?_
            rotate_left
            · intro wz hS
              go_simp
              try with_reducible rfl
            refine HeadW_take (i := 3) (v := ?_) G rfl (by kernel_rfl) (by kernel_rfl) (by kernel_rfl) (fun _ _ _ h => h) (Or.inl ⟨by rfl, ?_⟩) S1.out ?_
            rotate_left
            · intro wz hS
              go_simp
              try with_reducible rfl
            refine HeadW_take (i := 4) (v := ?_) G rfl (by kernel_rfl) (by kernel_rfl) (by kernel_rfl) (fun _ _ _ h => h) (Or.inl ⟨by rfl, ?_⟩) S1.out ?_
            rotate_left
            · intro wz hS
              have hk1 := (KO.out _ hS).2.2.2.2.2.2
              go_simp
              try with_reducible rfl
            refine HeadW_ready (rs := [1]) (by kernel_rfl) rfl rfl ?_
            refine AllW.cons rfl (fun K hK => ?_) AllW.nil
            go_simp
            refine hK _ _ (S1.out.alloc S1.out.size _) ?_
            clear hK K
            refine HeadW_ready (rs := [2]) (by kernel_rfl) rfl rfl ?_
            refine AllW.cons rfl (fun K hK => ?_) AllW.nil
            obtain ⟨B5, d5, w5, hap, hr5, hb5⟩ := HR8.out.push ⟨#[125]⟩ (by have := HM7.out; omega) S1.out.size 54
            refine step_append_run rfl (.tmp 51) (.tmp 52) _ _ rfl (by first | rfl | simp [Act.eval]) (by first | rfl | simp [Act.eval]) hap ?_
            have S2 := Lib.hid (S1.out.trans hb5)
            have HR9 := Lib.hid hr5
            refine hK _ _ S2.out ?_
            clear hK K hap hb5 hr5
            refine HeadW_ready (rs := [5]) (by kernel_rfl) rfl rfl ?_
            refine AllW.cons rfl (fun K hK => ?_) AllW.nil
            go_simp
            refine (CD.out _ (UP.out _ S2.out)).mono ?_
            rintro e w6 ⟨F1, fc, rfl, htt, hb6⟩
            have S3 := Lib.hid (S2.out.trans (hb6.mono S2.out.size))
            have HRA := Lib.hid (HR9.out.below hb6)
            have HTT := Lib.hid htt.sl
            refine hK _ _ S3.out ?_
            clear hK K hb6 htt
            intro _
            refine ⟨by kernel_rfl, ?_⟩
            simp only [List.drop_succ_cons, List.drop_zero]
            obtain ⟨B7, d7, w7, hap, hr7, hb7⟩ := HRA.out.app HTT.out (by have := HM7.out; have := HB16.out; omega) S3.out.size 54
            have HAP := Lib.hid hap
            have HRB := Lib.hid hr7
            have HBB := Lib.hid (S3.out.trans hb7)
            clear hap hr7 hb7
            go_wp2_with (at_builtin; refine wpList_append_run rfl _ _ _ _ rfl rfl rfl HAP.out ?_)
            go_ret
            exact ⟨_, _, _, rfl, by rw [HW.out]; exact HRB.out.less B0.out.size, UP.out _ HBB.out⟩
theorem words_all : ∀ d, d ≤ 4 → WdOk d
  | 0, _ => fun h => by simp [polS] at h
  | d + 1, hd => words_step d (by omega) (words_all d (by omega))
end Go.Proofs.YtdbnaaddocahpaaDoor
/- A policy's text (the project's). -/
namespace Go.Proofs.YtdbnaaddocahpaaDoor
set_option linter.unusedVariables false
open Go.RowKit Go.Sort

theorem showP_right {p : Pol} (h : rightE p = 0) : showP p = polT p := by unfold showP; rw [if_pos h]
theorem showP_wrong {p : Pol} (h : rightE p ≠ 0) : showP p = [] := by unfold showP; rw [if_neg h]
theorem PolIn.oks {w : World} {R : Nat → Prop} {p : Pol} {A1 A2 A3 A4 : Option Addr} {n1 k1 n2 k2 n3 k3 n4 k4 : Nat} (h : PolIn w R p A1 n1 k1 A2 n2 k2 A3 n3 k3 A4 n4 k4) : ∀ d, polOks d p
  | 0 => trivial
  | d + 1 => by
    obtain ⟨_, h1, h2, ⟨m, h3⟩, _⟩ := h
    exact ⟨Tg.oks' h1, Rus.oks' h2, pls_oks d h3⟩
set_option maxHeartbeats 1600000 in
theorem show_pol {w : World} {R : Nat → Prop} {p : Pol} {A1 A2 A3 A4 : Option Addr} {n1 k1 n2 k2 n3 k3 n4 k4 : Nat} (h : PolIn w R p A1 n1 k1 A2 n2 k2 A3 n3 k3 A4 n4 k4) (ht : Tbl w) :
    Calls Tryd.prog 5 #[.agg #[.string p.id, .bool p.set, .int .i64 p.alg, .slice A1 n1 k1, .slice A2 n2 k2, .slice A3 n3 k3, .slice A4 n4 k4]] w
      fun e w' => e = .returned (.string ⟨(showP p).toArray⟩) ∧ Below w.heap.size w w' := by
  have hb0 : Below w.heap.size w (w.alloc (.cells #[.string p.id, .bool p.set, .int .i64 p.alg, .slice A1 n1 k1, .slice A2 n2 k2, .slice A3 n3 k3, .slice A4 n4 k4] 43)) := al9' _ _
  have h' := h.then_ hb0
  have ht' := ht.then_ hb0
  have hcon := right_pol h'
  have OB := Lib.hid (Ob.made w 43 #[.string p.id, .bool p.set, .int .i64 p.alg, .slice A1 n1 k1, .slice A2 n2 k2, .slice A3 n3 k3, .slice A4 n4 k4])
  have B0 := Lib.hid hb0
  by_cases hr : rightE p = 0
  · have e0 : polS 4 p ⟨[], 0⟩ = (0, (polS 4 p ⟨[], 0⟩).2) := by unfold rightE at hr; rw [← hr]
    have hok := h.oks 4
    have hlen := polT_len hr hok
    have hwl := (polW_len 4 e0 hok).1
    rw [wordsN_4] at hwl
    have CW : Hid (∀ W, Below (w.alloc (.cells #[.string p.id, .bool p.set, .int .i64 p.alg, .slice A1 n1 k1, .slice A2 n2 k2, .slice A3 n3 k3, .slice A4 n4 k4] 43)).heap.size (w.alloc (.cells #[.string p.id, .bool p.set, .int .i64 p.alg, .slice A1 n1 k1, .slice A2 n2 k2, .slice A3 n3 k3, .slice A4 n4 k4] 43)) W → Calls Tryd.prog 12 #[.agg #[.string p.id, .bool p.set, .int .i64 p.alg, .slice A1 n1 k1, .slice A2 n2 k2, .slice A3 n3 k3, .slice A4 n4 k4]] W fun e w' => ∃ B n c, e = .returned (.slice B n c) ∧ TR w' W.heap.size B n c (polW 4 p) ∧ Below W.heap.size W w') := fun W hb => by
      obtain ⟨_, h1, h2, ⟨m, h3⟩, h4⟩ := h'.then_ hb
      exact words_all 4 (Nat.le_refl _) e0 hok h1 h2 h3 h4 (ht'.then_ hb)
    have HWL := Lib.hid hwl
    have HJL : Hid ((Lib.join (polW 4 p) (bl ⟨#[32]⟩)).length ≤ 140737488355328) := Nat.le_trans hlen (by omega)
    have HE : Hid (showP p = Lib.join (polW 4 p) (bl ⟨#[32]⟩)) := showP_right hr
    rw [hr] at hcon
    have HC := Lib.hid hcon
    generalize polW 4 p = pw at *
    generalize showP p = sp at *
    clear hcon h h' ht ht' hb0 e0 hok hlen hwl hr
    go_enter Tryd.func5, Tryd.ntmps5
    go_wp2_with (first
      | (go_at_call 7; refine HC.out.mono ?_; rintro e w1 ⟨rfl, hb1⟩; have B1 := Lib.hid hb1; have O1 := Lib.hid (OB.out.below hb1 OB.out.lt); have c0 := O1.out.cell 0; have c1 := O1.out.cell 1; have c2 := O1.out.cell 2; have c3 := O1.out.cell 3; have c4 := O1.out.cell 4; have c5 := O1.out.cell 5; have c6 := O1.out.cell 6; clear hb1)
      | (go_at_call 12
         refine (CW.out _ B1.out).mono ?_
         rintro e w2 ⟨B, m, d, rfl, hr2, hb2⟩
         have B2 := Lib.hid (below_step B1.out hb2)
         have hm : m ≤ 1000000 := by have := hr2.len; have := HWL.out; omega
         have HJ := Lib.hid (join_row hr2.sl (Nat.le_refl _) hm ⟨#[32]⟩ HJL.out)
         clear hr2 hb2 hm)
      | (go_at_call 11; refine HJ.out.mono ?_; rintro e w3 ⟨rfl, hb3⟩; have B3 := Lib.hid (below_step B2.out hb3)))
    go_ret
    exact ⟨by rw [HE.out]; rfl, B0.out.trans (B3.out.mono B0.out.size)⟩
  · have HE : Hid (showP p = []) := showP_wrong hr
    obtain ⟨q, hq⟩ : ∃ q, q = rightE p := ⟨_, rfl⟩
    rw [← hq] at hcon hr
    have hne : (q != 0) = true := by simpa using hr
    have HC := Lib.hid hcon
    generalize showP p = sp at *
    clear hcon h h' ht ht' hb0 hr hq
    go_enter Tryd.func5, Tryd.ntmps5
    go_wp2_with (go_at_call 7; refine HC.out.mono ?_; rintro e w1 ⟨rfl, hb1⟩; have B1 := Lib.hid hb1)
    go_ret
    exact ⟨ret_text (by rw [HE.out]; rfl), B0.out.trans (B1.out.mono B0.out.size)⟩
end Go.Proofs.YtdbnaaddocahpaaDoor
/- The law ShowRuns: chapter 10's runs. -/
namespace Go.Proofs.YtdbnaaddocahpaaDoor
set_option linter.unusedVariables false
open Go.RowKit Go.Sort

def sM1 : Mat := ⟨⟨3, ⟨#[111, 119, 110, 101, 114]⟩, true⟩, 1, ⟨5, 0, ⟨#[97, 110, 110]⟩⟩⟩
def sM2 : Mat := ⟨⟨3, ⟨#[111, 119, 110, 101, 114]⟩, true⟩, 1, ⟨2, 1, ⟨#[]⟩⟩⟩
def sN1 : Nod := ⟨1, ⟨1, 1, ⟨#[]⟩⟩, ⟨0, ⟨#[]⟩, false⟩⟩
def sN2 : Nod := ⟨11, ⟨0, 0, ⟨#[]⟩⟩, ⟨0, ⟨#[]⟩, false⟩⟩
def sR : Rul := ⟨⟨#[114]⟩, true, [[[sM1], [sM2]]], [sN1, sN2], []⟩
def sD : Dut := ⟨1, 1, ⟨#[120]⟩⟩
def sP : Pol := .mk ⟨#[112]⟩ false 1 [] [sR] [] [sD]
theorem itoa_1 : Lib.itoa 1 = [49] := by
  unfold Lib.itoa
  rw [if_neg (by decide), Lib.decDigits]
  decide
theorem sP_right : rightE sP = 0 := by kernel_rfl
theorem sM1_t : matT sM1 = [99, 97, 115, 101, 46, 111, 119, 110, 101, 114, 33, 32, 61, 32, 35, 97, 110, 110] := by decide +kernel
theorem sM2_t : matT sM2 = [99, 97, 115, 101, 46, 111, 119, 110, 101, 114, 33, 32, 61, 32, 49] := by
  have e : showB sM2.v = Lib.itoa 1 := by decide +kernel
  unfold matT
  rw [e, itoa_1]
  decide +kernel
theorem sP_text : showP sP = [112, 111, 108, 105, 99, 121, 32, 112, 32, 100, 101, 110, 121, 111, 118, 101, 114, 32, 123, 32, 100, 101, 110, 121, 32, 114, 32, 119, 104, 101, 110, 32, 40, 99, 97, 115, 101, 46, 111, 119, 110, 101, 114, 33, 32, 61, 32, 35, 97, 110, 110, 32, 111, 114, 32, 99, 97, 115, 101, 46, 111, 119, 110, 101, 114, 33, 32, 61, 32, 49, 41, 32, 105, 102, 32, 40, 110, 111, 116, 32, 116, 114, 117, 101, 41, 59, 32, 125, 32, 111, 110, 32, 112, 101, 114, 109, 105, 116, 32, 108, 111, 103, 32, 120] := by
  rw [showP_right sP_right]
  have h1 : tgW sR.tg = [[119, 104, 101, 110], 40 :: (matT sM1 ++ ([32, 111, 114, 32] ++ matT sM2) ++ [41])] := by
    unfold tgW
    rw [if_neg (by simp [sR])]
    simp [sR, tgT, anyT, allT, Lib.join_cons, Lib.joinTail]
  have h2 : condW sR.cond = [[105, 102], [40, 110, 111, 116, 32, 116, 114, 117, 101, 41]] := by decide +kernel
  have h3 : rulT sR = Lib.join (effW true :: bl sR.id :: (tgW sR.tg ++ condW sR.cond ++ [])) [32] ++ [59] := rfl
  have h4 : polW 4 sP = [headW sP, bl sP.id, algW 1, [123], rulT sR, [125], dutT sD] := rfl
  unfold polT
  rw [h4, h3, h1, h2, sM1_t, sM2_t]
  decide +kernel

section
variable {W : World} {g : Nat}
theorem Ob.row {α : Type} {k : Nat} {P : List Value → α → Prop} {t : TypeId} {cs : Array Value} (h : Ob W g t cs) {n : Nat} {l : List α} (f : α → Nat → List Value) (hl : l.length = n) (hn : n ≤ 1000)
    (hf : ∀ j x, l[j]? = some x → (f x j).length = k ∧ P (f x j) x ∧ ∀ i v, (f x j)[i]? = some v → cs[j * k + i]? = some v) : Rw k P W (fun _ => True) (some ⟨g, 0, none⟩) n n l :=
  ⟨hl, Nat.le_refl _, ⟨by unfold maxLen; omega, by omega⟩, .inr ⟨g, 0, rfl, trivial, h.lt, fun j x hx => ⟨f x j, (hf j x hx).1, fun i v hv => by rw [Nat.zero_add]; exact (h.cell _).trans ((hf j x hx).2.2 i v hv), (hf j x hx).2.1⟩⟩⟩
theorem one_at {α : Type} {x y : α} {j : Nat} (h : [x][j]? = some y) : j = 0 ∧ y = x := by
  cases j with
  | zero => simp at h; exact ⟨rfl, h.symm⟩
  | succ j => simp at h
theorem two_at {α : Type} {x y z : α} {j : Nat} (h : [x, y][j]? = some z) : j = 0 ∧ z = x ∨ j = 1 ∧ z = y := by
  match j, h with
  | 0, h => simp at h; exact .inl ⟨rfl, h.symm⟩
  | 1, h => simp at h; exact .inr ⟨rfl, h.symm⟩
  | j + 2, h => simp at h
theorem ob_ms {m : Mat} (h : Ob W g 27 m.cells.toArray) (hok : m.ok) : Ms W (fun _ => True) (some ⟨g, 0, none⟩) 1 1 [m] :=
  h.row (fun x _ => x.cells) rfl (by omega) fun j x hx => by
    obtain ⟨rfl, rfl⟩ := one_at hx
    exact ⟨rfl, ⟨rfl, hok⟩, fun i v hv => by rw [Nat.zero_mul, Nat.zero_add]; simpa using hv⟩
theorem ob_als {a b : Value} {x y : List Mat} (h : Ob W g 28 #[a, b]) (h1 : ∃ A n c, a = .slice A n c ∧ Ms W (fun _ => True) A n c x) (h2 : ∃ A n c, b = .slice A n c ∧ Ms W (fun _ => True) A n c y) : Als W (fun _ => True) (some ⟨g, 0, none⟩) 2 2 [x, y] :=
  h.row (fun _ j => if j = 0 then [a] else [b]) rfl (by omega) fun j z hz => by
    rcases two_at hz with ⟨rfl, rfl⟩ | ⟨rfl, rfl⟩
    · refine ⟨rfl, ?_, fun i v hv => ?_⟩
      · obtain ⟨A, n, c, e, hm⟩ := h1; exact ⟨A, n, c, by rw [e]; rfl, hm⟩
      · cases i with
        | zero => simpa using hv
        | succ i => simp at hv
    · refine ⟨rfl, ?_, fun i v hv => ?_⟩
      · obtain ⟨A, n, c, e, hm⟩ := h2; exact ⟨A, n, c, by rw [e]; rfl, hm⟩
      · cases i with
        | zero => simpa using hv
        | succ i => simp at hv
theorem ob_tg {a : Value} {x : List (List Mat)} (h : Ob W g 29 #[a]) (h1 : ∃ A n c, a = .slice A n c ∧ Als W (fun _ => True) A n c x) : Tg W (fun _ => True) (some ⟨g, 0, none⟩) 1 1 [x] :=
  h.row (fun _ j => [a]) rfl (by omega) fun j z hz => by
    obtain ⟨rfl, rfl⟩ := one_at hz
    obtain ⟨A, n, c, e, hm⟩ := h1
    refine ⟨rfl, ⟨A, n, c, by rw [e], hm⟩, fun i v hv => ?_⟩
    cases i with
    | zero => simpa using hv
    | succ i => simp at hv
theorem ob_nds {x y : Nod} (h : Ob W g 33 (x.cells ++ y.cells).toArray) (hx : x.ok) (hy : y.ok) : Nds W (fun _ => True) (some ⟨g, 0, none⟩) 2 2 [x, y] :=
  h.row (fun z _ => z.cells) rfl (by omega) fun j z hz => by
    rcases two_at hz with ⟨rfl, rfl⟩ | ⟨rfl, rfl⟩
    · refine ⟨rfl, ⟨rfl, hx⟩, fun i v hv => ?_⟩
      have hi : i < 7 := by
        rcases Nat.lt_or_ge i 7 with h | h
        · exact h
        · rw [List.getElem?_eq_none (by simpa [Nod.cells] using h)] at hv; cases hv
      rw [Nat.zero_mul, Nat.zero_add, List.getElem?_toArray, List.getElem?_append_left (by simpa [Nod.cells] using hi)]
      exact hv
    · refine ⟨rfl, ⟨rfl, hy⟩, fun i v hv => ?_⟩
      rw [List.getElem?_toArray, List.getElem?_append_right (by simp [Nod.cells])]
      rw [show 1 * 7 + i - x.cells.length = i by simp [Nod.cells]]
      exact hv
theorem ob_rus {r : Rul} {a b d : Value} (h : Ob W g 37 #[.string r.id, .bool r.deny, a, b, d]) (h0 : r.id.size ≤ maxLen) (h1 : ∃ A n c, a = .slice A n c ∧ Tg W (fun _ => True) A n c r.tg) (h2 : ∃ A n c, b = .slice A n c ∧ Nds W (fun _ => True) A n c r.cond) (h3 : ∃ A n c, d = .slice A n c ∧ Dus W (fun _ => True) A n c r.ob) : Rus W (fun _ => True) (some ⟨g, 0, none⟩) 1 1 [r] :=
  h.row (fun _ j => [.string r.id, .bool r.deny, a, b, d]) rfl (by omega) fun j z hz => by
    obtain ⟨rfl, rfl⟩ := one_at hz
    obtain ⟨A1, n1, c1, e1, t1⟩ := h1
    obtain ⟨A2, n2, c2, e2, t2⟩ := h2
    obtain ⟨A3, n3, c3, e3, t3⟩ := h3
    refine ⟨rfl, ⟨A1, n1, c1, A2, n2, c2, A3, n3, c3, by rw [e1, e2, e3], h0, t1, t2, t3⟩, fun i v hv => ?_⟩
    rw [Nat.zero_mul, Nat.zero_add]
    simpa using hv
theorem ob_dus {o : Dut} (h : Ob W g 40 o.cells.toArray) (hok : o.ok) : Dus W (fun _ => True) (some ⟨g, 0, none⟩) 1 1 [o] :=
  h.row (fun x _ => x.cells) rfl (by omega) fun j x hx => by
    obtain ⟨rfl, rfl⟩ := one_at hx
    exact ⟨rfl, ⟨rfl, hok⟩, fun i v hv => by rw [Nat.zero_mul, Nat.zero_add]; simpa using hv⟩
end
theorem made10 {w W : World} {t : TypeId} {cs : Array Value} {g : Nat} (hb : Below (w.alloc (.cells cs t)).heap.size (w.alloc (.cells cs t)) W) (hg : g = w.heap.size) : Ob W g t cs := by
  subst hg
  exact Ob.below (Ob.made _ _ _) hb (by simp)

theorem runs10_in (w : World) : Below w.heap.size w ((((((((((w.alloc (.cells #[.int .i64 3, .string ⟨#[111, 119, 110, 101, 114]⟩, .bool true] 23)).alloc (.cells #[.int .i64 3, .string ⟨#[111, 119, 110, 101, 114]⟩, .bool true, .int .i64 1, .int .i64 5, .int .i64 0, .string ⟨#[97, 110, 110]⟩] 27)).alloc (.cells #[.int .i64 3, .string ⟨#[111, 119, 110, 101, 114]⟩, .bool true, .int .i64 1, .int .i64 2, .int .i64 1, .string ⟨#[]⟩] 27)).alloc (.cells #[.slice (some ⟨w.heap.size + 1, 0, none⟩) 1 1, .slice (some ⟨w.heap.size + 1 + 1, 0, none⟩) 1 1] 28)).alloc (.cells #[.slice (some ⟨w.heap.size + 1 + 1 + 1, 0, none⟩) 2 2] 29)).alloc (.cells #[.int .i64 1, .int .i64 1, .int .i64 1, .string ⟨#[]⟩, .int .i64 0, .string ⟨#[]⟩, .bool false, .int .i64 11, .int .i64 0, .int .i64 0, .string ⟨#[]⟩, .int .i64 0, .string ⟨#[]⟩, .bool false] 33)).alloc (.cells #[.string ⟨#[114]⟩, .bool true, .slice (some ⟨w.heap.size + 1 + 1 + 1 + 1, 0, none⟩) 1 1, .slice (some ⟨w.heap.size + 1 + 1 + 1 + 1 + 1, 0, none⟩) 2 2, .slice none 0 0] 37)).alloc (.cells #[.string ⟨#[114]⟩, .bool true, .slice (some ⟨w.heap.size + 1 + 1 + 1 + 1, 0, none⟩) 1 1, .slice (some ⟨w.heap.size + 1 + 1 + 1 + 1 + 1, 0, none⟩) 2 2, .slice none 0 0] 37)).alloc (.cells #[.int .i64 1, .int .i64 1, .string ⟨#[120]⟩] 40)).alloc (.cells #[.string ⟨#[112]⟩, .bool false, .int .i64 1, .slice none 0 0, .slice (some ⟨w.heap.size + 1 + 1 + 1 + 1 + 1 + 1 + 1, 0, none⟩) 1 1, .slice none 0 0, .slice (some ⟨w.heap.size + 1 + 1 + 1 + 1 + 1 + 1 + 1 + 1, 0, none⟩) 1 1] 43)) ∧ Ob ((((((((((w.alloc (.cells #[.int .i64 3, .string ⟨#[111, 119, 110, 101, 114]⟩, .bool true] 23)).alloc (.cells #[.int .i64 3, .string ⟨#[111, 119, 110, 101, 114]⟩, .bool true, .int .i64 1, .int .i64 5, .int .i64 0, .string ⟨#[97, 110, 110]⟩] 27)).alloc (.cells #[.int .i64 3, .string ⟨#[111, 119, 110, 101, 114]⟩, .bool true, .int .i64 1, .int .i64 2, .int .i64 1, .string ⟨#[]⟩] 27)).alloc (.cells #[.slice (some ⟨w.heap.size + 1, 0, none⟩) 1 1, .slice (some ⟨w.heap.size + 1 + 1, 0, none⟩) 1 1] 28)).alloc (.cells #[.slice (some ⟨w.heap.size + 1 + 1 + 1, 0, none⟩) 2 2] 29)).alloc (.cells #[.int .i64 1, .int .i64 1, .int .i64 1, .string ⟨#[]⟩, .int .i64 0, .string ⟨#[]⟩, .bool false, .int .i64 11, .int .i64 0, .int .i64 0, .string ⟨#[]⟩, .int .i64 0, .string ⟨#[]⟩, .bool false] 33)).alloc (.cells #[.string ⟨#[114]⟩, .bool true, .slice (some ⟨w.heap.size + 1 + 1 + 1 + 1, 0, none⟩) 1 1, .slice (some ⟨w.heap.size + 1 + 1 + 1 + 1 + 1, 0, none⟩) 2 2, .slice none 0 0] 37)).alloc (.cells #[.string ⟨#[114]⟩, .bool true, .slice (some ⟨w.heap.size + 1 + 1 + 1 + 1, 0, none⟩) 1 1, .slice (some ⟨w.heap.size + 1 + 1 + 1 + 1 + 1, 0, none⟩) 2 2, .slice none 0 0] 37)).alloc (.cells #[.int .i64 1, .int .i64 1, .string ⟨#[120]⟩] 40)).alloc (.cells #[.string ⟨#[112]⟩, .bool false, .int .i64 1, .slice none 0 0, .slice (some ⟨w.heap.size + 1 + 1 + 1 + 1 + 1 + 1 + 1, 0, none⟩) 1 1, .slice none 0 0, .slice (some ⟨w.heap.size + 1 + 1 + 1 + 1 + 1 + 1 + 1 + 1, 0, none⟩) 1 1] 43)) (w.heap.size + 1 + 1 + 1 + 1 + 1 + 1 + 1 + 1 + 1) 43 #[.string ⟨#[112]⟩, .bool false, .int .i64 1, .slice none 0 0, .slice (some ⟨w.heap.size + 1 + 1 + 1 + 1 + 1 + 1 + 1, 0, none⟩) 1 1, .slice none 0 0, .slice (some ⟨w.heap.size + 1 + 1 + 1 + 1 + 1 + 1 + 1 + 1, 0, none⟩) 1 1] ∧
    PolIn ((((((((((w.alloc (.cells #[.int .i64 3, .string ⟨#[111, 119, 110, 101, 114]⟩, .bool true] 23)).alloc (.cells #[.int .i64 3, .string ⟨#[111, 119, 110, 101, 114]⟩, .bool true, .int .i64 1, .int .i64 5, .int .i64 0, .string ⟨#[97, 110, 110]⟩] 27)).alloc (.cells #[.int .i64 3, .string ⟨#[111, 119, 110, 101, 114]⟩, .bool true, .int .i64 1, .int .i64 2, .int .i64 1, .string ⟨#[]⟩] 27)).alloc (.cells #[.slice (some ⟨w.heap.size + 1, 0, none⟩) 1 1, .slice (some ⟨w.heap.size + 1 + 1, 0, none⟩) 1 1] 28)).alloc (.cells #[.slice (some ⟨w.heap.size + 1 + 1 + 1, 0, none⟩) 2 2] 29)).alloc (.cells #[.int .i64 1, .int .i64 1, .int .i64 1, .string ⟨#[]⟩, .int .i64 0, .string ⟨#[]⟩, .bool false, .int .i64 11, .int .i64 0, .int .i64 0, .string ⟨#[]⟩, .int .i64 0, .string ⟨#[]⟩, .bool false] 33)).alloc (.cells #[.string ⟨#[114]⟩, .bool true, .slice (some ⟨w.heap.size + 1 + 1 + 1 + 1, 0, none⟩) 1 1, .slice (some ⟨w.heap.size + 1 + 1 + 1 + 1 + 1, 0, none⟩) 2 2, .slice none 0 0] 37)).alloc (.cells #[.string ⟨#[114]⟩, .bool true, .slice (some ⟨w.heap.size + 1 + 1 + 1 + 1, 0, none⟩) 1 1, .slice (some ⟨w.heap.size + 1 + 1 + 1 + 1 + 1, 0, none⟩) 2 2, .slice none 0 0] 37)).alloc (.cells #[.int .i64 1, .int .i64 1, .string ⟨#[120]⟩] 40)).alloc (.cells #[.string ⟨#[112]⟩, .bool false, .int .i64 1, .slice none 0 0, .slice (some ⟨w.heap.size + 1 + 1 + 1 + 1 + 1 + 1 + 1, 0, none⟩) 1 1, .slice none 0 0, .slice (some ⟨w.heap.size + 1 + 1 + 1 + 1 + 1 + 1 + 1 + 1, 0, none⟩) 1 1] 43)) (fun _ => True) sP none 0 0 (some ⟨w.heap.size + 1 + 1 + 1 + 1 + 1 + 1 + 1, 0, none⟩) 1 1 none 0 0 (some ⟨w.heap.size + 1 + 1 + 1 + 1 + 1 + 1 + 1 + 1, 0, none⟩) 1 1 := by
  obtain ⟨w1, h1⟩ : ∃ x, x = w.alloc (.cells #[.int .i64 3, .string ⟨#[111, 119, 110, 101, 114]⟩, .bool true] 23) := ⟨_, rfl⟩
  rw [← h1]
  have b1 : Below w.heap.size w w1 := h1 ▸ al9' _ _
  have s1 : w1.heap.size = w.heap.size + 1 := by rw [h1]; exact size_al _ _
  obtain ⟨w2, h2⟩ : ∃ x, x = w1.alloc (.cells #[.int .i64 3, .string ⟨#[111, 119, 110, 101, 114]⟩, .bool true, .int .i64 1, .int .i64 5, .int .i64 0, .string ⟨#[97, 110, 110]⟩] 27) := ⟨_, rfl⟩
  rw [← h2]
  have b2 : Below w1.heap.size w1 w2 := h2 ▸ al9' _ _
  have s2 : w2.heap.size = w1.heap.size + 1 := by rw [h2]; exact size_al _ _
  obtain ⟨w3, h3⟩ : ∃ x, x = w2.alloc (.cells #[.int .i64 3, .string ⟨#[111, 119, 110, 101, 114]⟩, .bool true, .int .i64 1, .int .i64 2, .int .i64 1, .string ⟨#[]⟩] 27) := ⟨_, rfl⟩
  rw [← h3]
  have b3 : Below w2.heap.size w2 w3 := h3 ▸ al9' _ _
  have s3 : w3.heap.size = w2.heap.size + 1 := by rw [h3]; exact size_al _ _
  obtain ⟨w4, h4⟩ : ∃ x, x = w3.alloc (.cells #[.slice (some ⟨w.heap.size + 1, 0, none⟩) 1 1, .slice (some ⟨w.heap.size + 1 + 1, 0, none⟩) 1 1] 28) := ⟨_, rfl⟩
  rw [← h4]
  have b4 : Below w3.heap.size w3 w4 := h4 ▸ al9' _ _
  have s4 : w4.heap.size = w3.heap.size + 1 := by rw [h4]; exact size_al _ _
  obtain ⟨w5, h5⟩ : ∃ x, x = w4.alloc (.cells #[.slice (some ⟨w.heap.size + 1 + 1 + 1, 0, none⟩) 2 2] 29) := ⟨_, rfl⟩
  rw [← h5]
  have b5 : Below w4.heap.size w4 w5 := h5 ▸ al9' _ _
  have s5 : w5.heap.size = w4.heap.size + 1 := by rw [h5]; exact size_al _ _
  obtain ⟨w6, h6⟩ : ∃ x, x = w5.alloc (.cells #[.int .i64 1, .int .i64 1, .int .i64 1, .string ⟨#[]⟩, .int .i64 0, .string ⟨#[]⟩, .bool false, .int .i64 11, .int .i64 0, .int .i64 0, .string ⟨#[]⟩, .int .i64 0, .string ⟨#[]⟩, .bool false] 33) := ⟨_, rfl⟩
  rw [← h6]
  have b6 : Below w5.heap.size w5 w6 := h6 ▸ al9' _ _
  have s6 : w6.heap.size = w5.heap.size + 1 := by rw [h6]; exact size_al _ _
  obtain ⟨w7, h7⟩ : ∃ x, x = w6.alloc (.cells #[.string ⟨#[114]⟩, .bool true, .slice (some ⟨w.heap.size + 1 + 1 + 1 + 1, 0, none⟩) 1 1, .slice (some ⟨w.heap.size + 1 + 1 + 1 + 1 + 1, 0, none⟩) 2 2, .slice none 0 0] 37) := ⟨_, rfl⟩
  rw [← h7]
  have b7 : Below w6.heap.size w6 w7 := h7 ▸ al9' _ _
  have s7 : w7.heap.size = w6.heap.size + 1 := by rw [h7]; exact size_al _ _
  obtain ⟨w8, h8⟩ : ∃ x, x = w7.alloc (.cells #[.string ⟨#[114]⟩, .bool true, .slice (some ⟨w.heap.size + 1 + 1 + 1 + 1, 0, none⟩) 1 1, .slice (some ⟨w.heap.size + 1 + 1 + 1 + 1 + 1, 0, none⟩) 2 2, .slice none 0 0] 37) := ⟨_, rfl⟩
  rw [← h8]
  have b8 : Below w7.heap.size w7 w8 := h8 ▸ al9' _ _
  have s8 : w8.heap.size = w7.heap.size + 1 := by rw [h8]; exact size_al _ _
  obtain ⟨w9, h9⟩ : ∃ x, x = w8.alloc (.cells #[.int .i64 1, .int .i64 1, .string ⟨#[120]⟩] 40) := ⟨_, rfl⟩
  rw [← h9]
  have b9 : Below w8.heap.size w8 w9 := h9 ▸ al9' _ _
  have s9 : w9.heap.size = w8.heap.size + 1 := by rw [h9]; exact size_al _ _
  obtain ⟨w10, h10⟩ : ∃ x, x = w9.alloc (.cells #[.string ⟨#[112]⟩, .bool false, .int .i64 1, .slice none 0 0, .slice (some ⟨w.heap.size + 1 + 1 + 1 + 1 + 1 + 1 + 1, 0, none⟩) 1 1, .slice none 0 0, .slice (some ⟨w.heap.size + 1 + 1 + 1 + 1 + 1 + 1 + 1 + 1, 0, none⟩) 1 1] 43) := ⟨_, rfl⟩
  rw [← h10]
  have b10 : Below w9.heap.size w9 w10 := h10 ▸ al9' _ _
  have s10 : w10.heap.size = w9.heap.size + 1 := by rw [h10]; exact size_al _ _
  have e10 : Below w10.heap.size w10 w10 := Below.refl _ _
  have e9 : Below w9.heap.size w9 w10 := below_step b10 e10
  have e8 : Below w8.heap.size w8 w10 := below_step b9 e9
  have e7 : Below w7.heap.size w7 w10 := below_step b8 e8
  have e6 : Below w6.heap.size w6 w10 := below_step b7 e7
  have e5 : Below w5.heap.size w5 w10 := below_step b6 e6
  have e4 : Below w4.heap.size w4 w10 := below_step b5 e5
  have e3 : Below w3.heap.size w3 w10 := below_step b4 e4
  have e2 : Below w2.heap.size w2 w10 := below_step b3 e3
  have e1 : Below w1.heap.size w1 w10 := below_step b2 e2
  have e0 : Below w.heap.size w w10 := below_step b1 e1
  have o1 : Ob w10 (w.heap.size) 23 #[.int .i64 3, .string ⟨#[111, 119, 110, 101, 114]⟩, .bool true] := made10 (h1 ▸ e1) (by omega)
  have o2 : Ob w10 (w.heap.size + 1) 27 #[.int .i64 3, .string ⟨#[111, 119, 110, 101, 114]⟩, .bool true, .int .i64 1, .int .i64 5, .int .i64 0, .string ⟨#[97, 110, 110]⟩] := made10 (h2 ▸ e2) (by omega)
  have o3 : Ob w10 (w.heap.size + 1 + 1) 27 #[.int .i64 3, .string ⟨#[111, 119, 110, 101, 114]⟩, .bool true, .int .i64 1, .int .i64 2, .int .i64 1, .string ⟨#[]⟩] := made10 (h3 ▸ e3) (by omega)
  have o4 : Ob w10 (w.heap.size + 1 + 1 + 1) 28 #[.slice (some ⟨w.heap.size + 1, 0, none⟩) 1 1, .slice (some ⟨w.heap.size + 1 + 1, 0, none⟩) 1 1] := made10 (h4 ▸ e4) (by omega)
  have o5 : Ob w10 (w.heap.size + 1 + 1 + 1 + 1) 29 #[.slice (some ⟨w.heap.size + 1 + 1 + 1, 0, none⟩) 2 2] := made10 (h5 ▸ e5) (by omega)
  have o6 : Ob w10 (w.heap.size + 1 + 1 + 1 + 1 + 1) 33 #[.int .i64 1, .int .i64 1, .int .i64 1, .string ⟨#[]⟩, .int .i64 0, .string ⟨#[]⟩, .bool false, .int .i64 11, .int .i64 0, .int .i64 0, .string ⟨#[]⟩, .int .i64 0, .string ⟨#[]⟩, .bool false] := made10 (h6 ▸ e6) (by omega)
  have o7 : Ob w10 (w.heap.size + 1 + 1 + 1 + 1 + 1 + 1) 37 #[.string ⟨#[114]⟩, .bool true, .slice (some ⟨w.heap.size + 1 + 1 + 1 + 1, 0, none⟩) 1 1, .slice (some ⟨w.heap.size + 1 + 1 + 1 + 1 + 1, 0, none⟩) 2 2, .slice none 0 0] := made10 (h7 ▸ e7) (by omega)
  have o8 : Ob w10 (w.heap.size + 1 + 1 + 1 + 1 + 1 + 1 + 1) 37 #[.string ⟨#[114]⟩, .bool true, .slice (some ⟨w.heap.size + 1 + 1 + 1 + 1, 0, none⟩) 1 1, .slice (some ⟨w.heap.size + 1 + 1 + 1 + 1 + 1, 0, none⟩) 2 2, .slice none 0 0] := made10 (h8 ▸ e8) (by omega)
  have o9 : Ob w10 (w.heap.size + 1 + 1 + 1 + 1 + 1 + 1 + 1 + 1) 40 #[.int .i64 1, .int .i64 1, .string ⟨#[120]⟩] := made10 (h9 ▸ e9) (by omega)
  have o10 : Ob w10 (w.heap.size + 1 + 1 + 1 + 1 + 1 + 1 + 1 + 1 + 1) 43 #[.string ⟨#[112]⟩, .bool false, .int .i64 1, .slice none 0 0, .slice (some ⟨w.heap.size + 1 + 1 + 1 + 1 + 1 + 1 + 1, 0, none⟩) 1 1, .slice none 0 0, .slice (some ⟨w.heap.size + 1 + 1 + 1 + 1 + 1 + 1 + 1 + 1, 0, none⟩) 1 1] := by
    have hh := Ob.made w9 43 #[.string ⟨#[112]⟩, .bool false, .int .i64 1, .slice none 0 0, .slice (some ⟨w.heap.size + 1 + 1 + 1 + 1 + 1 + 1 + 1, 0, none⟩) 1 1, .slice none 0 0, .slice (some ⟨w.heap.size + 1 + 1 + 1 + 1 + 1 + 1 + 1 + 1, 0, none⟩) 1 1]
    rw [← h10, show w9.heap.size = w.heap.size + 1 + 1 + 1 + 1 + 1 + 1 + 1 + 1 + 1 by omega] at hh
    exact hh
  have m1 := ob_ms (m := sM1) o2 (by decide +kernel)
  have m2 := ob_ms (m := sM2) o3 (by decide +kernel)
  have al := ob_als o4 ⟨_, _, _, rfl, m1⟩ ⟨_, _, _, rfl, m2⟩
  have tg := ob_tg o5 ⟨_, _, _, rfl, al⟩
  have nd := ob_nds (x := sN1) (y := sN2) o6 (by decide +kernel) (by decide +kernel)
  have ru := ob_rus (r := sR) o8 (by decide +kernel) ⟨_, _, _, rfl, tg⟩ ⟨_, _, _, rfl, nd⟩ ⟨_, _, _, rfl, Rw.nil_ _ _ _ _⟩
  have du := ob_dus (o := sD) o9 (by decide +kernel)
  exact ⟨e0, o10, ⟨by decide +kernel, by decide +kernel⟩, Rw.nil_ _ _ _ _, ru, ⟨1, Rw.nil_ _ _ _ _⟩, du⟩

set_option maxHeartbeats 3200000 in
set_option maxRecDepth 100000 in
theorem runs10_any (w : World) (ht : Tbl w) : Calls Tryd.prog 3 #[] w fun e w' => e = .returned (.bool true) ∧ Below w.heap.size w w' := by
  obtain ⟨hb, ob, hin⟩ := runs10_in w
  have HC := Lib.hid (show_pol hin (ht.then_ hb))
  rw [sP_text] at HC
  have HB := Lib.hid hb
  have c0 := ob.cell 0
  have c1 := ob.cell 1
  have c2 := ob.cell 2
  have c3 := ob.cell 3
  have c4 := ob.cell 4
  have c5 := ob.cell 5
  have c6 := ob.cell 6
  clear hb ob hin ht
  go_enter Tryd.func3, Tryd.ntmps3
  go_wp2_with (go_at_call 5; refine HC.out.mono ?_; rintro e w1 ⟨rfl, hb1⟩; have B1 := Lib.hid (HB.out.trans (hb1.mono HB.out.size)))
  go_ret
  exact ⟨rfl, B1.out⟩
theorem showRuns_walk (w : World) (ht : Tbl w) : Calls Tryd.prog 3 #[] w fun e w' => e = .returned (.bool true) ∧ Below w.heap.size w w' := runs10_any w ht
end Go.Proofs.YtdbnaaddocahpaaDoor
/- bailiffkeep: how much of a target may be gone through. -/
namespace Go.Proofs.YtdbnaaddocahpaaDoor
set_option linter.unusedVariables false
open Go.RowKit

theorem takes1_any {w : World} {g m n : Nat} (hl : Lf w g m) (hm : m ≤ 3000) (hn : n < maxLen) :
    Calls Tryd.prog 26 #[.pointer (some ⟨g, 0, none⟩), .int .i64 (1 + (n : Int))] w fun e w' => e = .returned (.bool (decide (1 + n ≤ m))) ∧ Only g w w' ∧ (1 + n ≤ m → Lf w' g (m - (1 + n))) := by
  have := takes_any (n := 1 + n) hl hm (by omega)
  unfold Taking at this
  rwa [show ((1 + n : Nat) : Int) = 1 + (n : Int) by omega] at this

set_option maxRecDepth 100000 in
set_option maxHeartbeats 1600000 in
theorem ktarget_any {w : World} {R : Nat → Prop} {g m n c : Nat} {A : Option Addr} {l : Tgt} (hl : Lf w g m) (hm : m ≤ 3000) (hR : ∀ b, R b → b ≠ g) (h : Tg w R A n c l) :
    Taking 28 #[.pointer (some ⟨g, 0, none⟩), .slice A n c] w g m (tgC l) := by
  have hle := Rw.le h
  have hcap := Rw.cap h
  have HL := Lib.hid (Rw.len h)
  have hbig := Rw.big h
  have HT := Lib.hid (takes1_any (n := n) hl hm (by unfold maxLen; omega))
  have H := Lib.hid h
  have HR := Lib.hid hR
  have HM := Lib.hid hm
  unfold maxLen at hcap
  unfold Taking
  have HC : Hid (tgC l = 1 + n + sumC anyC l) := by show tgC l = _; unfold tgC; rw [HL.out]
  generalize hcc : tgC l = cc at *
  clear hcc h hl hR hm
  by_cases h1 : 1 + n ≤ m
  · rw [decide_eq_true h1] at HT
    have H1 := Lib.hid h1
    clear h1
    go_enter Tryd.func28, Tryd.ntmps28
    go_wp2_with (go_at_call 26; refine HT.out.mono ?_; rintro e w1 ⟨rfl, hb, hw⟩; have B1 := Lib.hid hb; have W1 := Lib.hid (hw H1.out); clear hb hw)
    go_loopw [19] (fun i wr => ∃ k mk : Nat, k ≤ n ∧ i = .int .i64 k ∧ sumC anyC (l.take k) + mk = m - (1 + n) ∧ Lf wr g mk ∧ Only g w wr) (fun i _ => n - (intOf i).toNat)
    case atStart => exact ⟨0, m - (1 + n), Nat.zero_le _, rfl, by rw [sumC_zero]; omega, W1.out, B1.out⟩
    case round =>
      obtain ⟨wo, hwo⟩ : ∃ wo, wo = wr := ⟨wr, rfl⟩
      subst hwo
      obtain ⟨k, mk, hk, rfl, hs, hlf, hb⟩ := hrel
      have HS := Lib.hid hs
      have HB := Lib.hid hb
      have HF := Lib.hid hlf
      clear hs hb hlf
      by_cases hlt : k < n
      · obtain ⟨b, o, x, A', n', c', rfl, hRb, hbl, hx, c0, hin⟩ := (H.out.keep (HB.out.kept HR.out) (fun _ h _ => h)).at_ hlt
        have HX := Lib.hid hx
        have hle' := Rw.le hin
        have hcap' := Rw.cap hin
        have hbig' := Rw.big hin
        have HL' := Lib.hid (Rw.len hin)
        have HIN := Lib.hid hin
        have hsx := sumC_le (f := anyC) hx
        have hex : anyC x = 1 + n' + sumC allC x := by unfold anyC; rw [Rw.len hin]
        have HSX := Lib.hid hsx
        have HEX := Lib.hid hex
        clear hx hin hsx hex
        by_cases h2 : 1 + n' ≤ mk
        · have HT2 := Lib.hid (takes1_any (n := n') HF.out (by have := HS.out; have := HM.out; omega) (by unfold maxLen; omega))
          rw [decide_eq_true h2] at HT2
          unfold maxLen at hcap'
          have H2 := Lib.hid h2
          clear h2
          go_wp2_with (go_at_call 26; refine HT2.out.mono ?_; rintro e w2 ⟨rfl, hb, hw⟩; have B2 := Lib.hid hb; have W2 := Lib.hid (hw H2.out); clear hb hw)
          go_loopw [31] (fun i wq => ∃ k2 m2 : Nat, k2 ≤ n' ∧ i = .int .i64 k2 ∧ sumC allC (x.take k2) + m2 = mk - (1 + n') ∧ Lf wq g m2 ∧ Only g wo wq) (fun i _ => n' - (intOf i).toNat)
          case atStart => exact ⟨0, mk - (1 + n'), Nat.zero_le _, rfl, by rw [sumC_zero]; omega, W2.out, B2.out⟩
          case round =>
            obtain ⟨wq, hwq⟩ : ∃ wq, wq = wr := ⟨wr, rfl⟩
            subst hwq
            obtain ⟨k2, m2, hk2, rfl, hs, hlf, hb⟩ := hrel
            have HS2 := Lib.hid hs
            have HB2 := Lib.hid hb
            have HF2 := Lib.hid hlf
            clear hs hb hlf
            by_cases hlt2 : k2 < n'
            · obtain ⟨b2, o2, y, A2, n2, c2, rfl, hRb2, hbl2, hy, d0, hin2⟩ := (HIN.out.keep (HB2.out.kept HR.out) (fun _ h _ => h)).at_ hlt2
              have HY := Lib.hid hy
              have hle2 := Rw.le hin2
              have hcap2 := Rw.cap hin2
              have hbig2 := Rw.big hin2
              have HL2 := Lib.hid (Rw.len hin2)
              have HIN2 := Lib.hid hin2
              have hsy := sumC_le (f := allC) hy
              have hey : allC y = 1 + n2 + sumC matC y := by unfold allC; rw [Rw.len hin2]
              have HSY := Lib.hid hsy
              have HEY := Lib.hid hey
              clear hy hin2 hsy hey
              by_cases h3 : 1 + n2 ≤ m2
              · have HT3 := Lib.hid (takes1_any (n := n2) HF2.out (by have := HS2.out; have := HS.out; have := HM.out; omega) (by unfold maxLen; omega))
                rw [decide_eq_true h3] at HT3
                unfold maxLen at hcap2
                have H3 := Lib.hid h3
                clear h3
                go_wp2_with (go_at_call 26; refine HT3.out.mono ?_; rintro e w3 ⟨rfl, hb, hw⟩; have B3 := Lib.hid hb; have W3 := Lib.hid (hw H3.out); clear hb hw)
                go_loopw [43] (fun i wz => ∃ k3 m3 : Nat, k3 ≤ n2 ∧ i = .int .i64 k3 ∧ sumC matC (y.take k3) + m3 = m2 - (1 + n2) ∧ Lf wz g m3 ∧ Only g wq wz) (fun i _ => n2 - (intOf i).toNat)
                case atStart => exact ⟨0, m2 - (1 + n2), Nat.zero_le _, rfl, by rw [sumC_zero]; omega, W3.out, B3.out⟩
                case round =>
                  obtain ⟨wz, hwz⟩ : ∃ wz, wz = wr := ⟨wr, rfl⟩
                  subst hwz
                  obtain ⟨k3, m3, hk3, rfl, hs, hlf, hb⟩ := hrel
                  have HS3 := Lib.hid hs
                  have HB3 := Lib.hid hb
                  have HF3 := Lib.hid hlf
                  clear hs hb hlf
                  by_cases hlt3 : k3 < n2
                  · obtain ⟨b3, o3, z, rfl, hRb3, hbl3, hz, hok, f0, f1, f2, f3, f4, f5, f6⟩ := (HIN2.out.keep (HB3.out.kept HR.out) (fun _ h _ => h)).at_ hlt3
                    have HZ := Lib.hid hz
                    have HSZ := Lib.hid (sumC_le (f := matC) hz)
                    have HEZ : Hid (matC z = textC z.a.name + textC z.v.s) := rfl
                    have HXT := Lib.hid (ktext_any z.a.name (HF3.out.alloc (.cells #[.int .i64 z.a.cat, .string z.a.name, .bool z.a.must, .int .i64 z.op, .int .i64 z.v.k, .int .i64 z.v.n, .string z.v.s] 27)) (by have := HS3.out; have := HS2.out; have := HS.out; have := HM.out; omega) hok.1.2)
                    unfold Taking at HXT
                    have HOK := Lib.hid hok
                    have HLT : Hid (g < wz.heap.size) := HF3.out.lt
                    clear hz hok
                    by_cases h4 : textC z.a.name ≤ m3
                    · rw [decide_eq_true h4] at HXT
                      have H4 := Lib.hid h4
                      have hne : wz.heap.size ≠ g := by have := HLT.out; omega
                      clear h4
                      by_cases h5 : textC z.v.s ≤ m3 - textC z.a.name
                      · have H5 := Lib.hid h5
                        have d5 := decide_eq_true h5
                        clear h5
                        go_wp2_with (first
                          | (go_at_call 27; (with_reducible refine HXT.out.mono ?_); rintro e w4 ⟨rfl, hb, hw⟩; have B4 := Lib.hid hb; have W4 := Lib.hid (hw H4.out); have BX := Lib.hid ((Ob.made wz 27 #[.int .i64 z.a.cat, .string z.a.name, .bool z.a.must, .int .i64 z.op, .int .i64 z.v.k, .int .i64 z.v.n, .string z.v.s]).keep (hb.heap (by simp) hne)); have g6 := BX.out.cell 6; have HXT2 := Lib.hid (ktext_any z.v.s W4.out (by have := HS3.out; have := HS2.out; have := HS.out; have := HM.out; omega) HOK.out.2.2.2.2); unfold Taking at HXT2; rw [d5] at HXT2; clear hb hw)
                          | (go_at_call 27; (with_reducible refine HXT2.out.mono ?_); rintro e w5 ⟨rfl, hb, hw⟩; have B5 := Lib.hid hb; have W5 := Lib.hid (hw H5.out); clear hb hw))
                        go_roundw
                        case rel => exact ⟨k3 + 1, m3 - textC z.a.name - textC z.v.s, by omega, by go_num, by rw [sumC_take HZ.out, HEZ.out]; have := HS3.out; have := H4.out; have := H5.out; omega, W5.out, HB3.out.trans ((Only.alloc _ _ _).trans (B4.out.trans B5.out))⟩
                        case measure => simp [intOf]; omega
                      · have H5 := Lib.hid h5
                        have d5 := decide_eq_false h5
                        clear h5
                        go_wp2_with (first
                          | (go_at_call 27; (with_reducible refine HXT.out.mono ?_); rintro e w4 ⟨rfl, hb, hw⟩; have B4 := Lib.hid hb; have W4 := Lib.hid (hw H4.out); have BX := Lib.hid ((Ob.made wz 27 #[.int .i64 z.a.cat, .string z.a.name, .bool z.a.must, .int .i64 z.op, .int .i64 z.v.k, .int .i64 z.v.n, .string z.v.s]).keep (hb.heap (by simp) hne)); have g6 := BX.out.cell 6; have HXT2 := Lib.hid (ktext_any z.v.s W4.out (by have := HS3.out; have := HS2.out; have := HS.out; have := HM.out; omega) HOK.out.2.2.2.2); unfold Taking at HXT2; rw [d5] at HXT2; clear hb hw)
                          | (go_at_call 27; (with_reducible refine HXT2.out.mono ?_); rintro e w5 ⟨rfl, hb, hw⟩; have B5 := Lib.hid hb; clear hb hw))
                        go_ret
                        have hbad : ¬ cc ≤ m := by
                          have := HC.out; have := HS.out; have := H1.out; have := HSX.out; have := HEX.out; have := HS2.out; have := H2.out; have := HSY.out; have := HEY.out; have := HS3.out; have := H3.out; have := HSZ.out; have := HEZ.out; have := H4.out; have := H5.out
                          omega
                        exact ⟨ret_bool (decide_eq_false hbad).symm, HB.out.trans (HB2.out.trans (HB3.out.trans ((Only.alloc _ _ _).trans (B4.out.trans B5.out)))), fun h => absurd h hbad⟩
                    · rw [decide_eq_false h4] at HXT
                      have H4 := Lib.hid h4
                      clear h4
                      go_wp2_with (go_at_call 27; refine HXT.out.mono ?_; rintro e w4 ⟨rfl, hb, hw⟩; have B4 := Lib.hid hb; clear hb hw)
                      go_ret
                      have hbad : ¬ cc ≤ m := by
                        have := HC.out; have := HS.out; have := H1.out; have := HSX.out; have := HEX.out; have := HS2.out; have := H2.out; have := HSY.out; have := HEY.out; have := HS3.out; have := H3.out; have := HSZ.out; have := HEZ.out; have := H4.out
                        omega
                      exact ⟨ret_bool (decide_eq_false hbad).symm, HB.out.trans (HB2.out.trans (HB3.out.trans ((Only.alloc _ _ _).trans B4.out))), fun h => absurd h hbad⟩
                  · obtain rfl : k3 = n2 := by omega
                    go_wp2
                    go_roundw
                    case rel =>
                      have hs := HS3.out
                      rw [sumC_all HL2.out] at hs
                      exact ⟨k2 + 1, m3, by omega, by go_num, by rw [sumC_take HY.out, HEY.out]; have := HS2.out; have := H3.out; omega, HF3.out, HB2.out.trans HB3.out⟩
                    case measure => simp [intOf]; omega
              · have HT3 := Lib.hid (takes1_any (n := n2) HF2.out (by have := HS2.out; have := HS.out; have := HM.out; omega) (by unfold maxLen; omega))
                rw [decide_eq_false h3] at HT3
                unfold maxLen at hcap2
                have H3 := Lib.hid h3
                clear h3
                go_wp2_with (go_at_call 26; refine HT3.out.mono ?_; rintro e w3 ⟨rfl, hb, hw⟩; have B3 := Lib.hid hb; clear hb hw)
                go_ret
                have hbad : ¬ cc ≤ m := by
                  have := HC.out; have := HS.out; have := H1.out; have := HSX.out; have := HEX.out; have := HS2.out; have := H2.out; have := HSY.out; have := HEY.out; have := H3.out
                  omega
                exact ⟨ret_bool (decide_eq_false hbad).symm, HB.out.trans (HB2.out.trans B3.out), fun h => absurd h hbad⟩
            · obtain rfl : k2 = n' := by omega
              go_wp2
              go_roundw
              case rel =>
                have hs := HS2.out
                rw [sumC_all HL'.out] at hs
                exact ⟨k + 1, m2, by omega, by go_num, by rw [sumC_take HX.out, HEX.out]; have := HS.out; have := H2.out; omega, HF2.out, HB.out.trans HB2.out⟩
              case measure => simp [intOf]; omega
        · have HT2 := Lib.hid (takes1_any (n := n') HF.out (by have := HS.out; have := HM.out; omega) (by unfold maxLen; omega))
          rw [decide_eq_false h2] at HT2
          unfold maxLen at hcap'
          have H2 := Lib.hid h2
          clear h2
          go_wp2_with (go_at_call 26; refine HT2.out.mono ?_; rintro e w2 ⟨rfl, hb, hw⟩; have B2 := Lib.hid hb; clear hb hw)
          go_ret
          have hbad : ¬ cc ≤ m := by
            have := HC.out; have := HS.out; have := H1.out; have := HSX.out; have := HEX.out; have := H2.out
            omega
          exact ⟨ret_bool (decide_eq_false hbad).symm, HB.out.trans B2.out, fun h => absurd h hbad⟩
      · obtain rfl : k = n := by omega
        go_wp2
        go_ret
        have hs := HS.out
        rw [sumC_all HL.out] at hs
        have := HC.out
        have := H1.out
        exact ⟨ret_bool (decide_eq_true (by omega)).symm, HB.out, fun _ => by rw [show m - cc = mk by omega]; exact HF.out⟩
  · rw [decide_eq_false h1] at HT
    have H1 := Lib.hid h1
    clear h1
    go_enter Tryd.func28, Tryd.ntmps28
    go_wp2_with (go_at_call 26; refine HT.out.mono ?_; rintro e w1 ⟨rfl, hb, hw⟩; have B1 := Lib.hid hb; clear hb hw)
    go_ret
    have hbad : ¬ cc ≤ m := by have := HC.out; have := H1.out; omega
    exact ⟨ret_bool (decide_eq_false hbad).symm, B1.out, fun h => absurd h hbad⟩
end Go.Proofs.YtdbnaaddocahpaaDoor
