/- Several texts in one: ShowLeaf, ShowRow, ShowTexts, ShowNode. -/
import Derived.Test.YtmoglaknmlhpgaaGreatDoorOnlf
import Derived.Laws.StructEq
import Derived.Laws.Tables
import Derived.Laws.Cover2
import Derived.Lib.QuietBelow
import Derived.Deep.CutRange
import Derived.Test.YtmoglaknmlhpgaaGreatDoorOnlM
import Derived.Test.YtmoglaknmlhpgaaGreatDoorOnlH
import Derived.Test.YtmoglaknmlhpgaaGreatDoorShelf
import Derived.Test.YtmoglaknmlhpgaaGreatDoorOnle
/- A match's text; a duty's. -/
namespace Go.Proofs.YtmoglaknmlhpgaaGreatDoor
set_option linter.unusedVariables false
open Go.RowKit Go.Sort

theorem right_small {v : Vl} (h : v.right) : v.s.size ≤ 1000000 := by
 have hr := h
 unfold Vl.right RightV at hr
 have e : v.s.size = v.l.length := rfl
 rw [e]
 rcases hr with ⟨_, h, _⟩ | ⟨_, h⟩ | ⟨_, _, h⟩ | ⟨_, h, _⟩ | ⟨_, _, h, _⟩
 ·rw [h]; simp
 ·rw [h]; simp
 ·omega
 ·rw [h]; simp
 ·omega
theorem al9' (w : World) (o : Obj) : Below w.heap.size w (w.alloc o) := (Below.refl _ _).alloc (Nat.le_refl _) _

set_option maxHeartbeats 800000 in
theorem show_match (m : Mat) (hok : m.ok) (hm : matE m = 0) (w : World) (ht : Tbl w) :
  Calls Tryz.prog 137 #[.agg #[.int .i64 m.a.cat, .string m.a.name, .bool m.a.must, .int .i64 m.op, .int .i64 m.v.k, .int .i64 m.v.n, .string m.v.s]] w fun e w' => e = .returned (.string ⟨(matT m).toArray⟩) ∧ Below w.heap.size w w' := by
 obtain ⟨ha, ho, hv⟩ := matE_all hm
 have hal := attr_len ha
 have hvl := val_len hv hok.2.2.2.1
 have hsz := hok.2.2.2.2
 obtain ⟨x, hx⟩ : ∃ x : ByteArray, x = ⟨(attrS m.a).toArray⟩ := ⟨_, rfl⟩
 obtain ⟨y, hy⟩ : ∃ x : ByteArray, x = ⟨(cmpW m.op).toArray⟩ := ⟨_, rfl⟩
 obtain ⟨z, hz⟩ : ∃ x : ByteArray, x = ⟨(showB m.v).toArray⟩ := ⟨_, rfl⟩
 have hxs : x.size ≤ 25 := by rw [hx]; exact word_size hal
 have hys : y.size ≤ 1 := by rw [hy]; exact word_size (cmpW_len _)
 have hzs : z.size ≤ 400 := by rw [hz]; exact word_size hvl
 have hs64 : m.v.s.size ≤ 1000000 := by
  have h := right_small hv
  exact h
 have HT : Hid (∀ W, Below w.heap.size w W → Tbl W) := fun W hb => ht.then_ hb
 have QA : ∀ W, Below w.heap.size w W → ∀ d os, Calls Tryz.prog 139 #[.agg #[.int .i64 m.a.cat, .string m.a.name, .bool m.a.must]] (grow (redrawn W d) os) fun e w'' => e = .returned (.string x) ∧ ∃ p : Regrown, w'' = grow (redrawn W p.d) p.os := fun W hb d os => by
  rw [hx]; exact Calls.regrown_of (show_attr m.a hok.1 _ (HT.out _ (hb.trans ((below_regrown W d os).mono hb.size))))
 have QV : ∀ W, Below w.heap.size w W → ∀ d os, Calls Tryz.prog 138 #[.agg #[.int .i64 m.v.k, .int .i64 m.v.n, .string m.v.s]] (grow (redrawn W d) os) fun e w'' => e = .returned (.string z) ∧ ∃ p : Regrown, w'' = grow (redrawn W p.d) p.os := fun W hb d os => by
  rw [hz]; exact Calls.regrown_of (vtext_any m.v.k m.v.n m.v.s hok.2.2.2.1 hs64 _ (HT.out _ (hb.trans ((below_regrown W d os).mono hb.size))).tab)
 have hG : ∀ W, Below w.heap.size w W → ∀ d os, (grow (redrawn W d) os).cell? ⟨4, m.op.toNat, none⟩ = some (.string y) := fun W hb d os => by
  rw [hy]; exact (HT.out _ (hb.trans ((below_regrown W d os).mono hb.size))).cmp (by omega) (by omega)
 have HQA := Lib.hid QA
 have HQV := Lib.hid QV
 have HG := Lib.hid hG
 have HE : Hid (bl x ++ 32 :: (bl y ++ 32 :: bl z) = matT m) := by rw [hx, hy, hz]; rfl
 generalize matT m = r at *
 obtain ⟨⟨ac, an, am⟩, op, ⟨vk, vn, vs⟩⟩ := m
 simp only at ho HQA HQV HG ⊢
 have hi : 0 ≤ op ∧ op < 4 := by omega
 clear QA QV hG hx hy hz ht hok hm ha hv hal hvl ho hsz hs64
 go_enter Tryz.func137, Tryz.ntmps137
 go_wp2_with fail
 have C1 := Lib.hid (Ob.made w 116 #[.int .i64 ac, .string an, .bool am, .int .i64 op, .int .i64 vk, .int .i64 vn, .string vs])
 have B0 := Lib.hid (al9' w (.cells #[.int .i64 ac, .string an, .bool am, .int .i64 op, .int .i64 vk, .int .i64 vn, .string vs] 116))
 have Q1 := Lib.hid (HQA.out _ B0.out)
 have Q2 := Lib.hid (HQV.out _ B0.out)
 have g1 := HG.out _ B0.out
 have x0 := fun d os => cell_regrown (C1.out.cell 0) d os
 have x1 := fun d os => cell_regrown (C1.out.cell 1) d os
 have x2 := fun d os => cell_regrown (C1.out.cell 2) d os
 have x3 := fun d os => cell_regrown (C1.out.cell 3) d os
 have x4 := fun d os => cell_regrown (C1.out.cell 4) d os
 have x5 := fun d os => cell_regrown (C1.out.cell 5) d os
 have x6 := fun d os => cell_regrown (C1.out.cell 6) d os
 refine wp_region_quiet_below (by kernel_rfl) (by kernel_rfl) ?_
 repeat (go_big_quiet_step (first
  | (go_at_call 139; exact Q1.out _ _)
  | (go_at_call 138; exact Q2.out _ _)))
 refine wpQuiet_nil ?_
 intro _ hw'
 obtain ⟨⟨dq, osq⟩, hw''⟩ := hw'
 subst hw''
 have BQ := Lib.hid (below_regrown (w.alloc (.cells #[.int .i64 ac, .string an, .bool am, .int .i64 op, .int .i64 vk, .int .i64 vn, .string vs] 116)) dq osq)
 generalize grow (redrawn _ dq) osq = w2 at *
 go_wp2_with fail
 go_ret
 refine ⟨ret_text ?_, B0.out.trans (BQ.out.mono B0.out.size)⟩
 rw [← HE.out]
 simp [bl_app, bl_mka]

set_option maxHeartbeats 800000 in
theorem show_duty (m : Dut) (hok : m.ok) (hm : dutE m = 0) (w : World) (ht : Tbl w) :
  Calls Tryz.prog 44 #[.agg #[.int .i64 m.on, .int .i64 m.kind, .string m.arg]] w fun e w' => e = .returned (.string ⟨(dutT m).toArray⟩) ∧ Below w.heap.size w w' := by
 obtain ⟨ho, hk, hn⟩ := dutE_all hm
 have hzs : m.arg.size ≤ 16 := hn.1.2
 obtain ⟨b, hb⟩ : ∃ b : Bool, b = decide (m.on = 2) := ⟨_, rfl⟩
 obtain ⟨x, hx⟩ : ∃ x : ByteArray, x = ⟨(effW b).toArray⟩ := ⟨_, rfl⟩
 obtain ⟨y, hy⟩ : ∃ x : ByteArray, x = ⟨(doW m.kind).toArray⟩ := ⟨_, rfl⟩
 have hxs : x.size ≤ 6 := by rw [hx]; exact word_size (effW_len b)
 have hys : y.size ≤ 6 := by rw [hy]; exact word_size (doW_len _)
 have h2 : (m.on == 2) = b := by rw [hb]; rfl
 have HT : Hid (∀ W, Below w.heap.size w W → Tbl W) := fun W hb => ht.then_ hb
 have QA : ∀ W, Below w.heap.size w W → ∀ d os, Calls Tryz.prog 71 #[.bool b] (grow (redrawn W d) os) fun e w'' => e = .returned (.string x) ∧ ∃ p : Regrown, w'' = grow (redrawn W p.d) p.os := fun W hb d os => by
  rw [hx]; exact Calls.regrown_of ((show_effect b _).mono fun e w' h => ⟨h.1, by rw [h.2]; exact Below.refl _ _⟩)
 have hG : ∀ W, Below w.heap.size w W → ∀ d os, (grow (redrawn W d) os).cell? ⟨1, m.kind.toNat, none⟩ = some (.string y) := fun W hb d os => by
  rw [hy]; exact (HT.out _ (hb.trans ((below_regrown W d os).mono hb.size))).do (by omega) (by omega)
 have HQA := Lib.hid QA
 have HG := Lib.hid hG
 have HE : Hid ([111, 110, 32] ++ (bl x ++ 32 :: (bl y ++ 32 :: bl m.arg)) = dutT m) := by rw [hx, hy, hb]; rfl
 generalize dutT m = r at *
 obtain ⟨on, kd, nm⟩ := m
 simp only at ho hk hzs h2 HQA HG ⊢
 have hi : 0 ≤ kd ∧ kd < 5 := by omega
 clear QA hG hx hy hb ht hok hm hn ho hk
 go_enter Tryz.func44, Tryz.ntmps44
 go_wp2_with fail
 have C1 := Lib.hid (Ob.made w 65 #[.int .i64 on, .int .i64 kd, .string nm])
 have B0 := Lib.hid (al9' w (.cells #[.int .i64 on, .int .i64 kd, .string nm] 65))
 have Q1 := Lib.hid (HQA.out _ B0.out)
 have g1 := HG.out _ B0.out
 have x0 := fun d os => cell_regrown (C1.out.cell 0) d os
 have x1 := fun d os => cell_regrown (C1.out.cell 1) d os
 have x2 := fun d os => cell_regrown (C1.out.cell 2) d os
 refine wp_region_quiet_below (by kernel_rfl) (by kernel_rfl) ?_
 repeat (go_big_quiet_step ((go_at_call 71; exact Q1.out _ _)))
 refine wpQuiet_nil ?_
 intro _ hw'
 obtain ⟨⟨dq, osq⟩, hw''⟩ := hw'
 subst hw''
 have BQ := Lib.hid (below_regrown (w.alloc (.cells #[.int .i64 on, .int .i64 kd, .string nm] 65)) dq osq)
 generalize grow (redrawn _ dq) osq = w2 at *
 go_wp2_with fail
 go_ret
 refine ⟨ret_text ?_, B0.out.trans (BQ.out.mono B0.out.size)⟩
 rw [← HE.out]
 simp [bl_app, bl_mka]
end Go.Proofs.YtmoglaknmlhpgaaGreatDoor
/- Rows of texts: one more, many more, all of them joined. -/
namespace Go.Proofs.YtmoglaknmlhpgaaGreatDoor
set_option linter.unusedVariables false
open Go.RowKit

def tv (xs : List (List UInt8)) : List Value := xs.map fun l => Value.string ⟨l.toArray⟩
theorem tv_len (xs : List (List UInt8)) : (tv xs).length = xs.length := List.length_map ..
theorem tv_app (a b : List (List UInt8)) : tv (a ++ b) = tv a ++ tv b := List.map_append
theorem tv_one (x : List UInt8) : tv [x] = [.string ⟨x.toArray⟩] := rfl
theorem tv_cell (xs : List (List UInt8)) : ∀ v ∈ tv xs, v.oneCell' = true := by
 intro v hv
 obtain ⟨l, _, rfl⟩ := List.mem_map.1 hv
 rfl
theorem strinfo : (Tryz.prog.info? 9).map (fun i => (i.zero, i.size, i.bytes)) = some (some (.string ⟨#[]⟩), 1, 16) := by kernel_rfl
def TR (w : World) (base : Nat) (A : Option Addr) (n c : Nat) (xs : List (List UInt8)) : Prop := w.ownsRow base 9 1 (.slice A n c) n (tv xs)
section
variable {w w' : World} {base n c : Nat} {A : Option Addr} {xs : List (List UInt8)}
theorem TR.len (h : TR w base A n c xs) : xs.length = n := by
 have := h.1
 rwa [tv_len, Nat.mul_one] at this
theorem TR.nil (w : World) (base : Nat) : TR w base none 0 0 [] := ⟨rfl, .inl ⟨rfl, rfl⟩⟩
theorem TR.sl (h : TR w base A n c xs) : Sl w w.heap.size A n c (tv xs) := Sl.of_own h
theorem TR.lt (h : TR w base A n c xs) : ∀ b, (Value.slice A n c).ownBlock = some b → base ≤ b ∧ b < w.heap.size := World.ownsRow.lt h
theorem TR.below (h : TR w base A n c xs) (hb : Below w.heap.size w w') : TR w' base A n c xs := by
 have hg : w.grownBy w' none := ⟨hb.os, hb.tape, hb.output, hb.size, fun k hk _ => hb.block k hk⟩
 refine World.ownsRow.kept h hg ?_
 cases hv : (Value.slice A n c).ownBlock with
 | none => exact .inl rfl
 | some b => exact .inr (by simp)
theorem TR.less (h : TR w base A n c xs) {b2 : Nat} (hb : b2 ≤ base) : TR w b2 A n c xs := by
 obtain ⟨h1, h2⟩ := h
 refine ⟨h1, ?_⟩
 rcases h2 with h2 | ⟨g, cap, cur, hv, hg, r⟩
 ·exact .inl h2
 ·exact .inr ⟨g, cap, cur, hv, Nat.le_trans hb hg, r⟩
theorem TR.take (h : TR w base A n c xs) {m : Nat} (hm : m ≤ n) : TR w base A m c (xs.take m) := by
 have hl := h.len
 obtain ⟨h1, h2⟩ := h
 refine ⟨by rw [tv_len, List.length_take]; omega, ?_⟩
 rcases h2 with ⟨hv, hn⟩ | ⟨g, cap, cur, hv, hg, hh, hnc, hcm, hs, ht⟩
 ·injection hv with e1 e2 e3
  exact .inl ⟨by rw [e1, e3, show m = 0 by omega], by omega⟩
 ·injection hv with e1 e2 e3
  refine .inr ⟨g, cap, cur, by rw [e1, e3], hg, hh, by omega, hcm, hs, ?_⟩
  rw [Nat.mul_one] at ht ⊢
  unfold tv at ht ⊢
  rw [List.map_take, ← ht, List.take_take, Nat.min_eq_left hm]
theorem TR.push (h : TR w base A n c xs) (x : ByteArray) (hn : n ≤ 1000000) (hbase : base ≤ w.heap.size) (ty : Nat) :
  ∃ A' c' w', (Builtin.append_ #[68, 68] ty #[.slice A n c, .slice (some ⟨w.heap.size, 0, none⟩) 1 1]).run Tryz.prog (w.alloc (.cells #[.string x] 9)) = .ok (.slice A' (n + 1) c') w' ∧
   TR w' base A' (n + 1) c' (xs ++ [bl x]) ∧ Below base w w' := by
 obtain ⟨i, hi, hz, hs, hb⟩ := info_of strinfo
 obtain ⟨A', c', w', r, o, b⟩ := append_cell (ty := ty) (x := .string x) Tryz.underlying68 hi hz rfl hs hb (by omega) rfl h hn hbase
 refine ⟨A', c', w', r, ?_, b⟩
 unfold TR
 rw [tv_app, tv_one, bl_toArray]
 exact o
theorem TR.app {B m c2 : Nat} {A2 : Option Addr} {ys : List (List UInt8)} (h : TR w base A n c xs) (hy : Sl w B A2 m c2 (tv ys)) (hn : n + m ≤ 1000000) (hbase : base ≤ w.heap.size) (ty : Nat) :
  ∃ A' c' w', (Builtin.append_ #[68, 68] ty #[.slice A n c, .slice A2 m c2]).run Tryz.prog w = .ok (.slice A' (n + m) c') w' ∧
   TR w' base A' (n + m) c' (xs ++ ys) ∧ Below base w w' := by
 obtain ⟨i, hi, hz, hs, hb⟩ := info_of strinfo
 obtain ⟨A', c', w', r, o, b, _, _⟩ := append_cells (ty := ty) Tryz.underlying68 hi hz rfl hs hb (by omega) h hy (tv_cell ys) hn hbase
 refine ⟨A', c', w', r, ?_, b⟩
 unfold TR
 rw [tv_app]
 exact o
theorem TR.lit (w : World) (xs : List ByteArray) {n : Nat} (hn : xs.length = n) (h : n ≤ 1000) : TR (w.alloc (.cells (xs.map Value.string).toArray 9)) w.heap.size (some ⟨w.heap.size, 0, none⟩) n n (xs.map bl) := by
 have e : tv (xs.map bl) = xs.map Value.string := by
  unfold tv
  rw [List.map_map]
  refine List.map_congr_left fun x _ => ?_
  show Value.string ⟨(bl x).toArray⟩ = .string x
  rw [bl_toArray]
 unfold TR
 rw [e]
 refine ⟨by simp; omega, .inr ⟨w.heap.size, n, _, rfl, Nat.le_refl _, heap_alloc_new w _, Nat.le_refl _, by unfold maxLen; omega, by simp; omega, ?_⟩⟩
 rw [Nat.mul_one, ← hn]
 show List.take xs.length (xs.map Value.string) = _
 rw [List.take_of_length_le (by simp)]
end
theorem join_row {w : World} {B n c : Nat} {A : Option Addr} {xs : List (List UInt8)} (h : Sl w B A n c (tv xs)) (hB : B ≤ w.heap.size) (hN : n ≤ 1000000) (sep : ByteArray) (hlen : (Lib.join xs (bl sep)).length ≤ 140737488355328) :
  Calls Tryz.prog 21 #[.slice A n c, .string sep] w fun e w' => e = .returned (.string ⟨(Lib.join xs (bl sep)).toArray⟩) ∧ Below w.heap.size w w' := by
 have hl : xs.length = n := by have := h.len; rwa [tv_len] at this
 have hc := h.cap
 unfold maxLen at hc
 rcases h.2.2.2 with h0 | ⟨b, o, e, hb, hcell⟩
 ·subst h0
  obtain rfl : xs = [] := List.eq_nil_of_length_eq_zero hl
  exact (Tryz.strings_Join_none A c sep w).mono fun e w' hh => ⟨by rw [hh.1]; rfl, by rw [hh.2]; exact Below.refl _ _⟩
 ·subst e
  have e2 : (xs.map fun l => (⟨l.toArray⟩ : ByteArray)).map (fun s => s.data.toList) = xs := by rw [List.map_map]; exact List.map_id' xs
  have := Tryz.strings_Join b o c (xs.map fun l => (⟨l.toArray⟩ : ByteArray)) sep w (fun j x hx => hcell j _ (by
   rw [List.getElem?_map, Option.map_eq_some_iff] at hx
   obtain ⟨l, h1, rfl⟩ := hx
   unfold tv
   rw [List.getElem?_map, h1]
   rfl)) (by omega) (by rw [List.length_map]; have := h.le; omega) (by rw [List.length_map]; have := h.le; omega) (by rw [e2]; exact hlen)
  rw [e2, List.length_map, hl] at this
  exact this
end Go.Proofs.YtmoglaknmlhpgaaGreatDoor
/- The texts of a list's elements: the project's texts, over matches, AllOfs, AnyOfs, duties; a target's words by it. -/
namespace Go.Proofs.YtmoglaknmlhpgaaGreatDoor
set_option linter.unusedVariables false
open Go.RowKit Go.Sort

theorem tail_take {α : Type} {f : α → List UInt8} {l : List α} {k : Nat} {x : α} (hx : l[k]? = some x) : (l.take (k + 1)).map f = (l.take k).map f ++ [f x] := by
 rw [take_next hx, List.map_append]
 rfl

set_option maxHeartbeats 1600000 in
theorem texts_match {w : World} {R : Nat → Prop} {A : Option Addr} {n c : Nat} {l : List Mat} (h : Ms w R A n c l) (hn : n ≤ 1000) (hf : ∀ x ∈ l, matE x = 0) (ht : Tbl w) :
    Calls Tryz.prog 136 #[.slice A n c, .func (.func 137) #[] #[]] w fun e w' => ∃ A' c', e = .returned (.slice A' n c') ∧ TR w' w.heap.size A' n c' (l.map matT) ∧ Below w.heap.size w w' := by
  have hle := Rw.le h
  have hcap := Rw.cap h
  have HL := Lib.hid (Rw.len h)
  unfold maxLen at hcap
  have H := Lib.hid h
  have HF := Lib.hid hf
  have HT := Lib.hid ht
  clear h hf ht
  go_enter Tryz.func136, Tryz.ntmps136
  go_wp2
  go_loopw [5, 10] (fun o i wr => ∃ (k : Nat) (B : Option Addr) (d : Nat), k ≤ n ∧ o = .slice B k d ∧ i = .int .i64 k ∧ TR wr w.heap.size B k d ((l.take k).map matT) ∧ Below w.heap.size w wr) (fun _ i _ => n - (intOf i).toNat)
  case atStart => exact ⟨0, none, 0, Nat.zero_le _, rfl, rfl, TR.nil _ _, Below.refl _ _⟩
  case round =>
    obtain ⟨k, B, d, hk, rfl, rfl, hr, hb⟩ := hrel
    have HR := Lib.hid hr
    have HB := Lib.hid hb
    clear hr hb
    by_cases hlt : k < n
    · obtain ⟨b, o, x, rfl, hRb, hbl, hx, hok, c0, c1, c2, c3, c4, c5, c6⟩ := (H.out.keep (Kept.all HB.out R) (fun _ h _ => h)).at_ hlt
      have HX := Lib.hid hx
      have HC := Lib.hid (fun W (hb : Below wr.heap.size wr W) => show_match x hok (HF.out x (List.mem_of_getElem? hx)) W (HT.out.then_ (below_step HB.out hb)))
      clear hx
      go_wp2_with (first
        | (go_at_call 137
           refine (HC.out _ (by first | exact al9' _ _ | exact Below.refl _ _)).mono ?_
           rintro e w1 ⟨rfl, hb1⟩
           have HB1 := Lib.hid (below_step HB.out (by first | exact Below.lit hb1 | exact hb1))
           obtain ⟨B', d', w2, hap, hr2, hb2⟩ := (HR.out.below (show Below wr.heap.size wr w1 by first | exact Below.lit hb1 | exact hb1)).push ⟨(matT x).toArray⟩ (by omega) HB1.out.size 68
           have HAP := Lib.hid hap
           have HR2 := Lib.hid hr2
           have HB2 := Lib.hid (HB1.out.trans hb2)
           clear hap hr2 hb2 hb1)
        | (at_builtin; refine wpList_append_run rfl _ _ _ _ rfl rfl rfl HAP.out ?_))
      go_roundw
      case rel => exact ⟨k + 1, B', d', by omega, rfl, by go_num, by rw [tail_take HX.out]; exact HR2.out, HB2.out⟩
      case measure => simp [intOf]; omega
    · obtain rfl : k = n := by omega
      go_wp2
      go_ret
      exact ⟨B, d, rfl, by have := HR.out; rwa [List.take_of_length_le (by rw [HL.out]; exact Nat.le_refl _)] at this, HB.out⟩

set_option maxHeartbeats 1600000 in
theorem texts_duty {w : World} {R : Nat → Prop} {A : Option Addr} {n c : Nat} {l : List Dut} (h : Dus w R A n c l) (hn : n ≤ 1000) (hf : ∀ x ∈ l, dutE x = 0) (ht : Tbl w) :
    Calls Tryz.prog 43 #[.slice A n c, .func (.func 44) #[] #[]] w fun e w' => ∃ A' c', e = .returned (.slice A' n c') ∧ TR w' w.heap.size A' n c' (l.map dutT) ∧ Below w.heap.size w w' := by
  have hle := Rw.le h
  have hcap := Rw.cap h
  have HL := Lib.hid (Rw.len h)
  unfold maxLen at hcap
  have H := Lib.hid h
  have HF := Lib.hid hf
  have HT := Lib.hid ht
  clear h hf ht
  go_enter Tryz.func43, Tryz.ntmps43
  go_wp2
  go_loopw [5, 10] (fun o i wr => ∃ (k : Nat) (B : Option Addr) (d : Nat), k ≤ n ∧ o = .slice B k d ∧ i = .int .i64 k ∧ TR wr w.heap.size B k d ((l.take k).map dutT) ∧ Below w.heap.size w wr) (fun _ i _ => n - (intOf i).toNat)
  case atStart => exact ⟨0, none, 0, Nat.zero_le _, rfl, rfl, TR.nil _ _, Below.refl _ _⟩
  case round =>
    obtain ⟨k, B, d, hk, rfl, rfl, hr, hb⟩ := hrel
    have HR := Lib.hid hr
    have HB := Lib.hid hb
    clear hr hb
    by_cases hlt : k < n
    · obtain ⟨b, o, x, rfl, hRb, hbl, hx, hok, c0, c1, c2⟩ := (H.out.keep (Kept.all HB.out R) (fun _ h _ => h)).at_ hlt
      have HX := Lib.hid hx
      have HC := Lib.hid (fun W (hb : Below wr.heap.size wr W) => show_duty x hok (HF.out x (List.mem_of_getElem? hx)) W (HT.out.then_ (below_step HB.out hb)))
      clear hx
      go_wp2_with (first
        | (go_at_call 44
           refine (HC.out _ (by first | exact al9' _ _ | exact Below.refl _ _)).mono ?_
           rintro e w1 ⟨rfl, hb1⟩
           have HB1 := Lib.hid (below_step HB.out (by first | exact Below.lit hb1 | exact hb1))
           obtain ⟨B', d', w2, hap, hr2, hb2⟩ := (HR.out.below (show Below wr.heap.size wr w1 by first | exact Below.lit hb1 | exact hb1)).push ⟨(dutT x).toArray⟩ (by omega) HB1.out.size 68
           have HAP := Lib.hid hap
           have HR2 := Lib.hid hr2
           have HB2 := Lib.hid (HB1.out.trans hb2)
           clear hap hr2 hb2 hb1)
        | (at_builtin; refine wpList_append_run rfl _ _ _ _ rfl rfl rfl HAP.out ?_))
      go_roundw
      case rel => exact ⟨k + 1, B', d', by omega, rfl, by go_num, by rw [tail_take HX.out]; exact HR2.out, HB2.out⟩
      case measure => simp [intOf]; omega
    · obtain rfl : k = n := by omega
      go_wp2
      go_ret
      exact ⟨B, d, rfl, by have := HR.out; rwa [List.take_of_length_le (by rw [HL.out]; exact Nat.le_refl _)] at this, HB.out⟩

theorem show_allOf {R : Nat → Prop} {A : Option Addr} {n c : Nat} {l : List Mat} (w : World) (h : Ms w R A n c l) (hf : allE l = 0) (ht : Tbl w) :
  Calls Tryz.prog 107 #[.slice A n c] w fun e w' => e = .returned (.string ⟨(allT l).toArray⟩) ∧ Below w.heap.size w w' := by
 have hn := Rw.len h
 have h8 := (allE_all hf).1.2
 have hl8 := all_len hf (Rw.all h)
 have HC := Lib.hid (texts_match h (by omega) (allE_all hf).2 ht)
 have HN := Lib.hid (show n ≤ 1000 by omega)
 have HL : Hid ((Lib.join (l.map matT) (bl ⟨#[44, 32]⟩)).length ≤ 140737488355328) := Nat.le_trans hl8 (by omega)
 have HE : Hid (allT l = Lib.join (l.map matT) (bl ⟨#[44, 32]⟩)) := rfl
 clear h hn h8 hl8 hf ht
 go_enter Tryz.func107, Tryz.ntmps107
 go_wp2_with (first
  | (go_at_call 136; refine HC.out.mono ?_; rintro e w1 ⟨B, d, rfl, hr, hb1⟩; have B1 := Lib.hid hb1; have HJ := Lib.hid (join_row hr.sl (Nat.le_refl _) (by have := HN.out; omega) ⟨#[44, 32]⟩ HL.out); clear hr hb1)
  | (go_at_call 21; refine HJ.out.mono ?_; rintro e w2 ⟨rfl, hb2⟩; have B2 := Lib.hid hb2))
 go_ret
 exact ⟨rfl, below_step B1.out B2.out⟩

set_option maxHeartbeats 1600000 in
theorem texts_allOf {w : World} {R : Nat → Prop} {A : Option Addr} {n c : Nat} {l : List (List Mat)} (h : Als w R A n c l) (hn : n ≤ 1000) (hf : ∀ x ∈ l, allE x = 0) (ht : Tbl w) :
    Calls Tryz.prog 106 #[.slice A n c, .func (.func 107) #[] #[]] w fun e w' => ∃ A' c', e = .returned (.slice A' n c') ∧ TR w' w.heap.size A' n c' (l.map allT) ∧ Below w.heap.size w w' := by
  have hle := Rw.le h
  have hcap := Rw.cap h
  have HL := Lib.hid (Rw.len h)
  unfold maxLen at hcap
  have H := Lib.hid h
  have HF := Lib.hid hf
  have HT := Lib.hid ht
  clear h hf ht
  go_enter Tryz.func106, Tryz.ntmps106
  go_wp2
  go_loopw [5, 10] (fun o i wr => ∃ (k : Nat) (B : Option Addr) (d : Nat), k ≤ n ∧ o = .slice B k d ∧ i = .int .i64 k ∧ TR wr w.heap.size B k d ((l.take k).map allT) ∧ Below w.heap.size w wr) (fun _ i _ => n - (intOf i).toNat)
  case atStart => exact ⟨0, none, 0, Nat.zero_le _, rfl, rfl, TR.nil _ _, Below.refl _ _⟩
  case round =>
    obtain ⟨k, B, d, hk, rfl, rfl, hr, hb⟩ := hrel
    have HR := Lib.hid hr
    have HB := Lib.hid hb
    clear hr hb
    by_cases hlt : k < n
    · obtain ⟨b, o, x, A1, n1, c1, rfl, hRb, hbl, hx, c0, hin⟩ := (H.out.keep (Kept.all HB.out R) (fun _ h _ => h)).at_ hlt
      have HX := Lib.hid hx
      have hinK := fun W (hb : Below wr.heap.size wr W) => Ms.keep hin (Kept.all hb R) (fun _ h _ => h)
      have HC := Lib.hid (fun W (hb : Below wr.heap.size wr W) => show_allOf W (hinK W hb) (HF.out x (List.mem_of_getElem? hx)) (HT.out.then_ (below_step HB.out hb)))
      clear hx
      go_wp2_with (first
        | (go_at_call 107
           refine (HC.out _ (by first | exact al9' _ _ | exact Below.refl _ _)).mono ?_
           rintro e w1 ⟨rfl, hb1⟩
           have HB1 := Lib.hid (below_step HB.out (by first | exact Below.lit hb1 | exact hb1))
           obtain ⟨B', d', w2, hap, hr2, hb2⟩ := (HR.out.below (show Below wr.heap.size wr w1 by first | exact Below.lit hb1 | exact hb1)).push ⟨(allT x).toArray⟩ (by omega) HB1.out.size 68
           have HAP := Lib.hid hap
           have HR2 := Lib.hid hr2
           have HB2 := Lib.hid (HB1.out.trans hb2)
           clear hap hr2 hb2 hb1)
        | (at_builtin; refine wpList_append_run rfl _ _ _ _ rfl rfl rfl HAP.out ?_))
      go_roundw
      case rel => exact ⟨k + 1, B', d', by omega, rfl, by go_num, by rw [tail_take HX.out]; exact HR2.out, HB2.out⟩
      case measure => simp [intOf]; omega
    · obtain rfl : k = n := by omega
      go_wp2
      go_ret
      exact ⟨B, d, rfl, by have := HR.out; rwa [List.take_of_length_le (by rw [HL.out]; exact Nat.le_refl _)] at this, HB.out⟩

theorem Als.oks {w : World} {R : Nat → Prop} {A : Option Addr} {n c : Nat} {l : List (List Mat)} (h : Als w R A n c l) : ∀ a ∈ l, ∀ m ∈ a, m.ok := by
 intro a ha
 obtain ⟨j, hj, rfl⟩ := List.getElem_of_mem ha
 obtain ⟨b, o, x, A1, n1, c1, _, _, _, hx, _, hin⟩ := h.at_ (j := j) (by have := Rw.len h; omega)
 rw [List.getElem?_eq_getElem hj] at hx
 injection hx with hx
 rw [hx]
 exact Rw.all hin
theorem Tg.oks' {w : World} {R : Nat → Prop} {A : Option Addr} {n c : Nat} {l : Tgt} (h : Tg w R A n c l) : Tgt.oks l := by
 intro a ha
 obtain ⟨j, hj, rfl⟩ := List.getElem_of_mem ha
 obtain ⟨b, o, x, A1, n1, c1, _, _, _, hx, _, hin⟩ := h.at_ (j := j) (by have := Rw.len h; omega)
 rw [List.getElem?_eq_getElem hj] at hx
 injection hx with hx
 rw [hx]
 exact Als.oks hin
theorem show_anyOf {R : Nat → Prop} {A : Option Addr} {n c : Nat} {l : List (List Mat)} (w : World) (h : Als w R A n c l) (hf : anyE l = 0) (ht : Tbl w) :
  Calls Tryz.prog 70 #[.slice A n c] w fun e w' => e = .returned (.string ⟨(anyT l).toArray⟩) ∧ Below w.heap.size w w' := by
 have hn := Rw.len h
 have h8 := (anyE_all hf).1.2
 have hl8 := any_len hf (Als.oks h)
 have HC := Lib.hid (texts_allOf h (by omega) (anyE_all hf).2 ht)
 have HN := Lib.hid (show n ≤ 1000 by omega)
 obtain ⟨x, hx⟩ : ∃ x : ByteArray, x = ⟨(Lib.join (l.map allT) (bl ⟨#[32, 111, 114, 32]⟩)).toArray⟩ := ⟨_, rfl⟩
 have HE : Hid (anyT l = 40 :: (bl x ++ [41])) := by rw [hx]; rfl
 have hsz : x.size ≤ 41000 := by
  rw [HE.out] at hl8
  simp only [List.length_cons, List.length_append, List.length_nil] at hl8
  show (bl x).length ≤ 41000
  omega
 have HJL : Hid ((Lib.join (l.map allT) (bl ⟨#[32, 111, 114, 32]⟩)).length ≤ 140737488355328) := by
  have e : (Lib.join (l.map allT) (bl ⟨#[32, 111, 114, 32]⟩)).length = x.size := by rw [hx]; rfl
  show _ ≤ _
  rw [e]
  exact Nat.le_trans hsz (by omega)
 have HJE := Lib.hid hx
 clear h hn h8 hl8 hf ht hx
 go_enter Tryz.func70, Tryz.ntmps70
 go_wp2_with (first
  | (go_at_call 106; refine HC.out.mono ?_; rintro e w1 ⟨B, d, rfl, hr, hb1⟩; have B1 := Lib.hid hb1; have HJ := Lib.hid (join_row hr.sl (Nat.le_refl _) (by have := HN.out; omega) ⟨#[32, 111, 114, 32]⟩ HJL.out); rw [← HJE.out] at HJ; clear hr hb1)
  | (go_at_call 21; refine HJ.out.mono ?_; rintro e w2 ⟨rfl, hb2⟩; have B2 := Lib.hid hb2))
 go_ret
 refine ⟨ret_text ?_, below_step B1.out B2.out⟩
 rw [HE.out]
 simp [bl_app, bl_mka]

set_option maxHeartbeats 1600000 in
theorem texts_anyOf {w : World} {R : Nat → Prop} {A : Option Addr} {n c : Nat} {l : List (List (List Mat))} (h : Tg w R A n c l) (hn : n ≤ 1000) (hf : ∀ x ∈ l, anyE x = 0) (ht : Tbl w) :
    Calls Tryz.prog 69 #[.slice A n c, .func (.func 70) #[] #[]] w fun e w' => ∃ A' c', e = .returned (.slice A' n c') ∧ TR w' w.heap.size A' n c' (l.map anyT) ∧ Below w.heap.size w w' := by
  have hle := Rw.le h
  have hcap := Rw.cap h
  have HL := Lib.hid (Rw.len h)
  unfold maxLen at hcap
  have H := Lib.hid h
  have HF := Lib.hid hf
  have HT := Lib.hid ht
  clear h hf ht
  go_enter Tryz.func69, Tryz.ntmps69
  go_wp2
  go_loopw [5, 10] (fun o i wr => ∃ (k : Nat) (B : Option Addr) (d : Nat), k ≤ n ∧ o = .slice B k d ∧ i = .int .i64 k ∧ TR wr w.heap.size B k d ((l.take k).map anyT) ∧ Below w.heap.size w wr) (fun _ i _ => n - (intOf i).toNat)
  case atStart => exact ⟨0, none, 0, Nat.zero_le _, rfl, rfl, TR.nil _ _, Below.refl _ _⟩
  case round =>
    obtain ⟨k, B, d, hk, rfl, rfl, hr, hb⟩ := hrel
    have HR := Lib.hid hr
    have HB := Lib.hid hb
    clear hr hb
    by_cases hlt : k < n
    · obtain ⟨b, o, x, A1, n1, c1, rfl, hRb, hbl, hx, c0, hin⟩ := (H.out.keep (Kept.all HB.out R) (fun _ h _ => h)).at_ hlt
      have HX := Lib.hid hx
      have hinK := fun W (hb : Below wr.heap.size wr W) => Als.keep hin (Kept.all hb R) (fun _ h _ => h)
      have HC := Lib.hid (fun W (hb : Below wr.heap.size wr W) => show_anyOf W (hinK W hb) (HF.out x (List.mem_of_getElem? hx)) (HT.out.then_ (below_step HB.out hb)))
      clear hx
      go_wp2_with (first
        | (go_at_call 70
           refine (HC.out _ (by first | exact al9' _ _ | exact Below.refl _ _)).mono ?_
           rintro e w1 ⟨rfl, hb1⟩
           have HB1 := Lib.hid (below_step HB.out (by first | exact Below.lit hb1 | exact hb1))
           obtain ⟨B', d', w2, hap, hr2, hb2⟩ := (HR.out.below (show Below wr.heap.size wr w1 by first | exact Below.lit hb1 | exact hb1)).push ⟨(anyT x).toArray⟩ (by omega) HB1.out.size 68
           have HAP := Lib.hid hap
           have HR2 := Lib.hid hr2
           have HB2 := Lib.hid (HB1.out.trans hb2)
           clear hap hr2 hb2 hb1)
        | (at_builtin; refine wpList_append_run rfl _ _ _ _ rfl rfl rfl HAP.out ?_))
      go_roundw
      case rel => exact ⟨k + 1, B', d', by omega, rfl, by go_num, by rw [tail_take HX.out]; exact HR2.out, HB2.out⟩
      case measure => simp [intOf]; omega
    · obtain rfl : k = n := by omega
      go_wp2
      go_ret
      exact ⟨B, d, rfl, by have := HR.out; rwa [List.take_of_length_le (by rw [HL.out]; exact Nat.le_refl _)] at this, HB.out⟩

end Go.Proofs.YtmoglaknmlhpgaaGreatDoor
/- A node's text; a target's words. -/
namespace Go.Proofs.YtmoglaknmlhpgaaGreatDoor
set_option linter.unusedVariables false
open Go.RowKit Go.Sort

set_option maxHeartbeats 1600000 in
theorem show_node (n : Nod) (hok : n.ok) (hh : holdsB n = true) (h13 : 1 ≤ n.op ∧ n.op ≤ 13) {B m c : Nat} {A : Option Addr} {ps : List (List UInt8)} (w : World) (hp : Sl w B A m c (tv ps)) (hB : B ≤ w.heap.size) (hm : m ≤ 1000) (hl : (nodeT n ps).length ≤ 14000) (ht : Tbl w) :
  Calls Tryz.prog 109 #[.agg #[.int .i64 n.op, .int .i64 n.v.k, .int .i64 n.v.n, .string n.v.s, .int .i64 n.a.cat, .string n.a.name, .bool n.a.must], .slice A m c] w fun e w' => e = .returned (.string ⟨(nodeT n ps).toArray⟩) ∧ Below w.heap.size w w' := by
 have HT : Hid (∀ W, Below w.heap.size w W → Tbl W) := fun W hb => ht.then_ hb
 by_cases h1 : n.op = 1
 ·obtain ⟨hr, he⟩ := holds_lit hh h1
  have hs := right_small hr
  have HC : Hid (∀ W, Below w.heap.size w W → Calls Tryz.prog 138 #[.agg #[.int .i64 n.v.k, .int .i64 n.v.n, .string n.v.s]] W fun e w' => e = .returned (.string ⟨(nodeT n ps).toArray⟩) ∧ Below W.heap.size W w') := fun W hb => by
   have e : nodeT n ps = showB n.v := by unfold nodeT; rw [if_pos h1]
   rw [e]
   exact vtext_any n.v.k n.v.n n.v.s hok.2.1.2.1 hs W (HT.out _ hb).tab
  generalize nodeT n ps = r at *
  obtain ⟨op, ⟨k, nn, s⟩, ⟨ca, nm, mu⟩⟩ := n
  simp only at h1 HC ⊢
  subst h1
  clear hok hh h13 hp hB hm hl ht hr he hs
  go_enter Tryz.func109, Tryz.ntmps109
  have C1 := Lib.hid (Ob.made w 81 #[.int .i64 1, .int .i64 k, .int .i64 nn, .string s, .int .i64 ca, .string nm, .bool mu])
  have B0 := Lib.hid (al9' w (.cells #[.int .i64 1, .int .i64 k, .int .i64 nn, .string s, .int .i64 ca, .string nm, .bool mu] 81))
  go_wp2_with (go_at_call 138; refine (HC.out _ B0.out).mono ?_; rintro e w1 ⟨rfl, hb1⟩; have B1 := Lib.hid (B0.out.trans (hb1.mono B0.out.size)))
  go_ret
  exact ⟨rfl, B1.out⟩
 ·by_cases h2 : n.op = 2
  ·obtain ⟨hr, he⟩ := holds_att hh h2
   have HC : Hid (∀ W, Below w.heap.size w W → Calls Tryz.prog 139 #[.agg #[.int .i64 n.a.cat, .string n.a.name, .bool n.a.must]] W fun e w' => e = .returned (.string ⟨(nodeT n ps).toArray⟩) ∧ Below W.heap.size W w') := fun W hb => by
    have e : nodeT n ps = attrS n.a := by unfold nodeT; rw [if_neg h1, if_pos h2]
    rw [e]
    exact show_attr n.a hok.2.2 W (HT.out _ hb)
   generalize nodeT n ps = r at *
   obtain ⟨op, ⟨k, nn, s⟩, ⟨ca, nm, mu⟩⟩ := n
   simp only at h2 HC ⊢
   subst h2
   clear hok hh h13 hp hB hm hl ht hr he h1
   go_enter Tryz.func109, Tryz.ntmps109
   have C1 := Lib.hid (Ob.made w 81 #[.int .i64 2, .int .i64 k, .int .i64 nn, .string s, .int .i64 ca, .string nm, .bool mu])
   have B0 := Lib.hid (al9' w (.cells #[.int .i64 2, .int .i64 k, .int .i64 nn, .string s, .int .i64 ca, .string nm, .bool mu] 81))
   go_wp2_with (go_at_call 139; refine (HC.out _ B0.out).mono ?_; rintro e w1 ⟨rfl, hb1⟩; have B1 := Lib.hid (B0.out.trans (hb1.mono B0.out.size)))
   go_ret
   exact ⟨rfl, B1.out⟩
  ·have hE : nodeT n ps = 40 :: (fnW n.op ++ 32 :: (Lib.join ps (bl ⟨#[32]⟩) ++ [41])) := nodeT_fun h1 h2 ps
   obtain ⟨x, hx⟩ : ∃ x : ByteArray, x = ⟨(fnW n.op).toArray⟩ := ⟨_, rfl⟩
   obtain ⟨y, hy⟩ : ∃ x : ByteArray, x = ⟨(Lib.join ps (bl ⟨#[32]⟩)).toArray⟩ := ⟨_, rfl⟩
   have hxs : x.size ≤ 4 := by rw [hx]; exact word_size (fnW_len _)
   have hys : y.size ≤ 14000 := by
    rw [hE] at hl
    simp only [List.length_cons, List.length_append, List.length_nil] at hl
    rw [hy]
    exact word_size (by omega)
   have HE : Hid (nodeT n ps = 40 :: (bl x ++ 32 :: (bl y ++ [41]))) := by
    show nodeT n ps = _
    rw [hE, hx, hy]; rfl
   have QJ : ∀ W, Below w.heap.size w W → ∀ d os, Calls Tryz.prog 21 #[.slice A m c, .string ⟨#[32]⟩] (grow (redrawn W d) os) fun e w'' => e = .returned (.string y) ∧ ∃ p : Regrown, w'' = grow (redrawn W p.d) p.os := fun W hb d os => by
    have hb2 := hb.trans ((below_regrown W d os).mono hb.size)
    rw [hy]
    exact Calls.regrown_of (join_row (hp.below (hb2.mono hB)) (Nat.le_trans hB hb2.size) (by omega) ⟨#[32]⟩ (by
     have e : (Lib.join ps (bl ⟨#[32]⟩)).length = y.size := by rw [hy]; rfl
     rw [e]; exact Nat.le_trans hys (by omega)))
   have hG : ∀ W, Below w.heap.size w W → ∀ d os, (grow (redrawn W d) os).cell? ⟨3, n.op.toNat, none⟩ = some (.string x) := fun W hb d os => by
    rw [hx]; exact (HT.out _ (hb.trans ((below_regrown W d os).mono hb.size))).fn (by omega) (by omega)
   have HQJ := Lib.hid QJ
   have HG := Lib.hid hG
   generalize nodeT n ps = r at *
   obtain ⟨op, ⟨k, nn, s⟩, ⟨ca, nm, mu⟩⟩ := n
   simp only at h1 h2 h13 HG ⊢
   have hi : 0 ≤ op ∧ op < 14 := by omega
   have e1 : (op == 1) = false := by rw [beq_eq_false_iff_ne]; exact h1
   have e2 : (op == 2) = false := by rw [beq_eq_false_iff_ne]; exact h2
   clear hok hh hp hB hm hl ht hE hx hy QJ hG h13
   go_enter Tryz.func109, Tryz.ntmps109
   go_wp2_with fail
   have C1 := Lib.hid (Ob.made w 81 #[.int .i64 op, .int .i64 k, .int .i64 nn, .string s, .int .i64 ca, .string nm, .bool mu])
   have B0 := Lib.hid (al9' w (.cells #[.int .i64 op, .int .i64 k, .int .i64 nn, .string s, .int .i64 ca, .string nm, .bool mu] 81))
   have Q1 := Lib.hid (HQJ.out _ B0.out)
   have g1 := HG.out _ B0.out
   have x0 := fun d os => cell_regrown (C1.out.cell 0) d os
   refine wp_region_quiet_below (by kernel_rfl) (by kernel_rfl) ?_
   repeat (go_big_quiet_step ((go_at_call 21; exact Q1.out _ _)))
   refine wpQuiet_nil ?_
   intro _ hw'
   obtain ⟨⟨dq, osq⟩, hw''⟩ := hw'
   subst hw''
   have BQ := Lib.hid (below_regrown (w.alloc (.cells #[.int .i64 op, .int .i64 k, .int .i64 nn, .string s, .int .i64 ca, .string nm, .bool mu] 81)) dq osq)
   generalize grow (redrawn _ dq) osq = w2 at *
   go_wp2_with fail
   go_ret
   refine ⟨ret_text ?_, B0.out.trans (BQ.out.mono B0.out.size)⟩
   rw [HE.out]
   simp [bl_app, bl_mka]

theorem tg_ne {t : Tgt} (h : t ≠ []) : tgW t = [[119, 104, 101, 110], tgT t] := by unfold tgW; rw [if_neg h]
theorem show_target {R : Nat → Prop} {A : Option Addr} {n c : Nat} {t : Tgt} (w : World) (h : Tg w R A n c t) (hf : tgE t = 0) (ht : Tbl w) :
  Calls Tryz.prog 41 #[.slice A n c] w fun e w' => ∃ A' m c', e = .returned (.slice A' m c') ∧ m ≤ 2 ∧ TR w' w.heap.size A' m c' (tgW t) ∧ Below w.heap.size w w' := by
 have hn := Rw.len h
 have h8 := (tgE_all hf).1
 by_cases h0 : n = 0
 ·subst h0
  obtain rfl : t = [] := List.eq_nil_of_length_eq_zero hn
  clear hn h8 h ht hf
  go_enter Tryz.func41, Tryz.ntmps41
  go_wp2_with fail
  go_ret
  exact ⟨none, 0, 0, rfl, by omega, TR.nil _ _, Below.refl _ _⟩
 ·have hne : t ≠ [] := by rintro rfl; simp at hn; omega
  have hl8 := tg_len hf (Tg.oks' h)
  have HC := Lib.hid (texts_anyOf h (by omega) (tgE_all hf).2 ht)
  have HN := Lib.hid (show n ≤ 1000 by omega)
  have hz : ((n : Int) == 0) = false := by rw [beq_eq_false_iff_ne]; omega
  obtain ⟨x, hx⟩ : ∃ x : ByteArray, x = ⟨(Lib.join (t.map anyT) (bl ⟨#[32, 97, 110, 100, 32]⟩)).toArray⟩ := ⟨_, rfl⟩
  have HE : Hid (tgW t = [⟨#[119, 104, 101, 110]⟩, x].map bl) := by
   show tgW t = _
   rw [tg_ne hne, hx]; rfl
  have HJL : Hid ((Lib.join (t.map anyT) (bl ⟨#[32, 97, 110, 100, 32]⟩)).length ≤ 140737488355328) := Nat.le_trans hl8 (by omega)
  have HJE := Lib.hid hx
  clear h hn h8 hl8 hf ht hx h0 hne
  go_enter Tryz.func41, Tryz.ntmps41
  go_wp2_with (first
   | (go_at_call 69; refine HC.out.mono ?_; rintro e w1 ⟨B, d, rfl, hr, hb1⟩; have B1 := Lib.hid hb1; have HJ := Lib.hid (join_row hr.sl (Nat.le_refl _) (by have := HN.out; omega) ⟨#[32, 97, 110, 100, 32]⟩ HJL.out); rw [← HJE.out] at HJ; clear hr hb1)
   | (go_at_call 21; refine HJ.out.mono ?_; rintro e w2 ⟨rfl, hb2⟩; have B2 := Lib.hid (below_step B1.out hb2); clear hb2))
  go_ret
  refine ⟨_, 2, 2, rfl, by omega, ?_, B2.out.alloc B2.out.size _⟩
  rw [HE.out]
  exact (TR.lit w2 [⟨#[119, 104, 101, 110]⟩, x] (n := 2) rfl (by omega)).less B2.out.size
end Go.Proofs.YtmoglaknmlhpgaaGreatDoor
