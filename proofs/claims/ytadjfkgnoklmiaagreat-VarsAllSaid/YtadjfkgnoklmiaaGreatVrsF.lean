/- Several texts in one: LexAll, Parse11, ParIn, VarsRuns, VApp, AskMem, VBoxPut, AskCopied, AskPlace, AskGet, TgtW, TgtMet, ExprMem, FunNum, FunCall, ExprSmall, ExprLaws, ExprDec, FunJudge, FunCalls. -/
import Derived.Test.YtadjfkgnoklmiaaGreatVrsE
import Derived.Test.YtadjfkgnoklmiaaGreatVrsC
import Derived.Test.YtadjfkgnoklmiaaGreatVrsB
import Derived.Test.YtadjfkgnoklmiaaGreatVrsA
import Derived.Deep.RegionLaw
import Derived.Laws.OwnMore
import Derived.Lib.MinMax
import Derived.Laws.ResultCell
/- lex.All: what it answers. -/
namespace Go.Proofs.YtadjfkgnoklmiaaGreat
set_option linter.unusedVariables false
open Go.RowKit

theorem blankPass (s : ByteArray) (W : World) (hs : s.size ≤ 4096) (a : Act) (wr : World) (hJ : JBlank s W a wr) : blankCode.wp Tryz.prog (exitsTo (fun l' a' w' => JAll s W l' a' w' ∧ muAll s l' a' w' < muAll s 0 a wr) (allQ s W)) a wr := by
  obtain ⟨R, h, hw⟩ := blankPass' s W hs a wr hJ
  unfold blankCode
  rw [h]
  exact hw
theorem pass0 (s : ByteArray) (W : World) (hs : s.size ≤ 4096) (a : Act) (wr : World) (hJ : JBlank s W a wr) : ∃ R, findLabel allCode 0 = some R ∧ R.wp Tryz.prog (exitsTo (fun l' a' w' => JAll s W l' a' w' ∧ muAll s l' a' w' < muAll s 0 a wr) (allQ s W)) a wr := by
  refine ⟨.seq .skip blankCode, rfl, ?_⟩
  have h := Lib.hid (blankPass s W hs a wr hJ)
  clear hJ
  go_wp2_with fail
  exact h.out
theorem goes_le (b : UInt8) : 1 ≤ goesTo b ∧ goesTo b ≤ 6 := by
  unfold goesTo
  split
  · omega
  · split
    · omega
    · split
      · omega
      · split
        · omega
        · split <;> omega
theorem passes (s : ByteArray) (W : World) (hs : s.size ≤ 4096) (l : Nat) (a : Act) (wr : World) (hJ : JAll s W l a wr) : ∃ R, findLabel allCode l = some R ∧ R.wp Tryz.prog (exitsTo (fun l' a' w' => JAll s W l' a' w' ∧ muAll s l' a' w' < muAll s l a wr) (allQ s W)) a wr := by
  unfold JAll at hJ
  split at hJ
  · rename_i h; subst h; exact pass0 s W hs a wr hJ
  · split at hJ
    · rename_i h; subst h; exact pass7 s W hs a wr hJ
    · have hl : l = 1 ∨ l = 2 ∨ l = 3 ∨ l = 4 ∨ l = 5 ∨ l = 6 := by
        obtain ⟨_, _, _, _, _, b, _, _, _, _, _, _, _, hg, _⟩ := hJ
        have := goes_le b
        omega
      rcases hl with rfl | rfl | rfl | rfl | rfl | rfl
      · exact pass1 s W hs a wr hJ
      · exact pass2 s W hs a wr hJ
      · exact pass3 s W hs a wr hJ
      · exact pass4 s W hs a wr hJ
      · exact pass5 s W hs a wr hJ
      · exact pass6 s W hs a wr hJ

set_option maxRecDepth 100000 in
set_option maxHeartbeats 800000 in
theorem all_any (s : ByteArray) (hs : s.size ≤ 4096) (W : World) : Calls Tryz.prog 45 #[.string s] W fun e w' => AllP W (lexB s.data.toList 0) e w' := by
  have ht := Tb.made W 0 0 0 ⟨#[]⟩
  have HT := Lib.hid ht
  have HB : Hid (ABase s W [] none 0 0 0 (W.alloc (.cells #[.int .i64 0, .int .i64 0, .int .i64 0, .string ⟨#[]⟩] 139))) :=
    Lib.hid ⟨⟨rfl, .inl ⟨rfl, rfl⟩⟩, (Below.refl _ _).alloc (Nat.le_refl _) _, by rw [size_al]; exact Nat.le_refl _, Nat.le_refl _, Nat.zero_le _, by rw [List.drop_zero, cat_nil]⟩
  clear ht
  go_enter Tryz.func45, Tryz.ntmps45
  go_wp2_with fail
  refine wp_scope_labels (JAll s W) (muAll s) (fun l a wr hJ => passes s W hs l a wr hJ) ?_
  go_wp2_with fail
  go_step3
  go_step
  go_step
  refine wp_mono (blankPass s W hs _ _ ⟨[], none, 0, 0, 0, _, _, _, 0, 0, 0, ⟨#[]⟩, Fr_mk, HB.out, HT.out⟩) ?_
  intro e2 a2 w3 hq
  cases e2 with
  | goto l => exact hq.1
  | _ => exact hq
set_option maxRecDepth 100000 in
set_option maxHeartbeats 800000 in
theorem all_big (s : ByteArray) (hs : 4096 < s.size) (hm : s.size ≤ maxLen) (w : World) : Calls Tryz.prog 45 #[.string s] w fun e w' => e = .returned (.tuple #[.slice none 0 0, .int .i64 6, .int .i64 4096]) ∧ w' = w := by
  unfold maxLen at hm
  go_enter Tryz.func45, Tryz.ntmps45
  go_wp2_with fail
  go_step3
  go_wp2_with fail
  try rw [Exit.noGoto_ret]
  go_ret3
  exact ⟨rfl, rfl⟩
end Go.Proofs.YtadjfkgnoklmiaaGreat
/- The parser: a policy from a text. -/
namespace Go.Proofs.YtadjfkgnoklmiaaGreat
set_option linter.unusedVariables false
open Go.RowKit

theorem results_cell_tmp2 {fn : Func} {p u v : Tmp} {ty : TypeId} (h : fn.results = #[.cell p ty, .tmp u, .tmp v]) (tmps : Array Value) (P : Program) (w : World) :
    (results fn tmps).run P w =
      ((asAddr (tmps.getD p undef)).run P w).andThen fun a w₁ => ((loadVar ty a).run P w₁).andThen fun x w₂ => .ok (.tuple #[x, tmps.getD u undef, tmps.getD v undef]) w₂ := by
  simp only [results, h]
  simp [Sem.run_bind, Result.andThen]
theorem policy_ret3 {fn : Func} {t u1 u2 : Tmp} {tmps : Array Value} {w : World} {g : Nat} {cs : Array Value} {a b : Value} (h : fn.results = #[.cell t 28, .tmp u1, .tmp u2]) (hp : tmps.getD t undef = .pointer (some ⟨g, 0, none⟩)) (h1 : tmps.getD u1 undef = a) (h2 : tmps.getD u2 undef = b) (hg : Ob w g 28 cs) (h3 : cs.size = 7) :
    (results fn tmps).run Tryz.prog w = .ok (.tuple #[.agg cs, a, b]) w := by
  rw [results_cell_tmp2 h, hp, h1, h2]
  have hl := run_loadVar_row (P := Tryz.prog) w g 28 _ _ (0, 0) _ hg Tryz.underlying28 rfl (by rw [h3]; kernel_rfl)
  simp [asAddr, hl, Result.andThen]
theorem noPol_of (w w' : World) : PolOf w w' 5 noPol (.agg #[.string ⟨#[]⟩, .bool false, .int .i64 0, .slice none 0 0, .slice none 0 0, .slice none 0 0, .slice none 0 0]) :=
  ⟨none, 0, 0, none, 0, 0, none, 0, 0, none, 0, 0, rfl, none, 0, 0, none, 0, 0, none, 0, 0, none, 0, 0, rfl, Nat.zero_le _, by unfold InI; exact ⟨by show (-9223372036854775808 : Int) ≤ 0; omega, by show (0 : Int) ≤ 9223372036854775807; omega⟩, Rw.nil_ _ _ _ _, Rw.nil_ _ _ _ _, Rw.nil_ _ _ _ _, Rw.nil_ _ _ _ _⟩
theorem Rd.start {L : Nat} {w : World} {A : Option Addr} {n c : Nat} {ts : List Tk} (h : Ts w w.heap.size A n c ts) (hok : (⟨ts, 0, 0, 0⟩ : Pz).ok L) : Rd L (w.alloc (.cells #[.slice A n c, .int .i64 0, .int .i64 0, .int .i64 0] 117)) w.heap.size ⟨ts, 0, 0, 0⟩ := by
  have h' := h.below ((Below.refl _ w).alloc (Nat.le_refl _) (.cells #[.slice A n c, .int .i64 0, .int .i64 0, .int .i64 0] 117))
  have hp : 1 ≤ ts.length := hok.pos
  obtain ⟨h1, h2, h3, h4⟩ := h'
  rcases h4 with h4 | ⟨b, o, e, hb, hc⟩
  · omega
  · subst e
    exact ⟨b, o, n, c, Ob.made _ _ _, hok, ⟨h1, h2, h3⟩, hb, hc⟩
theorem Ob.drew9 {w : World} {g : Nat} {t : TypeId} {cs : Array Value} (h : Ob w g t cs) : Ob w.drew g t cs := h
section
variable {w : World}
def ParseP (s : ByteArray) (w : World) (x : Ending) (w' : World) : Prop := ∃ y, x = .returned (.tuple #[y, .int .i64 (parseR s).2.1, .int .i64 (parseR s).2.2]) ∧ Below w.heap.size w w' ∧ PolOf w w' 5 (parseR s).1 y

set_option maxHeartbeats 1600000 in
theorem parse_big (s : ByteArray) (hs : 4096 < s.size) (hm : s.size ≤ maxLen) : Calls Tryz.prog 29 #[.string s] w (ParseP s w) := by
  have HC := Lib.hid (all_big s hs hm (w.alloc (.cells #[.string ⟨#[]⟩, .bool false, .int .i64 0, .slice none 0 0, .slice none 0 0, .slice none 0 0, .slice none 0 0] 28)))
  have OB := Lib.hid (Ob.made w 28 #[.string ⟨#[]⟩, .bool false, .int .i64 0, .slice none 0 0, .slice none 0 0, .slice none 0 0, .slice none 0 0])
  unfold ParseP
  rw [parseR_big hs]
  simp only
  go_enter Tryz.func29, Tryz.ntmps29
  go_wp2_with fail
  go_at_call 45
  refine HC.out.mono ?_
  rintro x w1 ⟨rfl, hw⟩
  have HB : Hid (Below w.heap.size w w1) := Lib.hid (by rw [hw]; exact (Below.refl _ w).alloc (Nat.le_refl _) _)
  have O1 : Hid (Ob w1 w.heap.size 28 #[.string ⟨#[]⟩, .bool false, .int .i64 0, .slice none 0 0, .slice none 0 0, .slice none 0 0, .slice none 0 0]) := Lib.hid (by rw [hw]; exact OB.out)
  clear hw
  have zc0 := O1.out.cell 0
  have zf0 := O1.out.frozen 0
  have OZ1 : Hid (Ob (w1.setCell ⟨w.heap.size, 0, none⟩ (.string ⟨#[]⟩)) (w.heap.size) 28 #[.string ⟨#[]⟩, .bool false, .int .i64 0, .slice none 0 0, .slice none 0 0, .slice none 0 0, .slice none 0 0]) := Lib.hid (by have := O1.out.put 0 (.string ⟨#[]⟩); simpa using this)
  have BZ1 := Lib.hid (HB.out.setCell (p := ⟨w.heap.size, 0, none⟩) (Nat.le_refl _) (.string ⟨#[]⟩))
  have zc1 := OZ1.out.cell 1
  have zf1 := OZ1.out.frozen 1
  have OZ2 : Hid (Ob ((w1.setCell ⟨w.heap.size, 0, none⟩ (.string ⟨#[]⟩)).setCell ⟨w.heap.size, 1, none⟩ (.bool false)) (w.heap.size) 28 #[.string ⟨#[]⟩, .bool false, .int .i64 0, .slice none 0 0, .slice none 0 0, .slice none 0 0, .slice none 0 0]) := Lib.hid (by have := OZ1.out.put 1 (.bool false); simpa using this)
  have BZ2 := Lib.hid (BZ1.out.setCell (p := ⟨w.heap.size, 1, none⟩) (Nat.le_refl _) (.bool false))
  have zc2 := OZ2.out.cell 2
  have zf2 := OZ2.out.frozen 2
  have OZ3 : Hid (Ob (((w1.setCell ⟨w.heap.size, 0, none⟩ (.string ⟨#[]⟩)).setCell ⟨w.heap.size, 1, none⟩ (.bool false)).setCell ⟨w.heap.size, 2, none⟩ (.int .i64 0)) (w.heap.size) 28 #[.string ⟨#[]⟩, .bool false, .int .i64 0, .slice none 0 0, .slice none 0 0, .slice none 0 0, .slice none 0 0]) := Lib.hid (by have := OZ2.out.put 2 (.int .i64 0); simpa using this)
  have BZ3 := Lib.hid (BZ2.out.setCell (p := ⟨w.heap.size, 2, none⟩) (Nat.le_refl _) (.int .i64 0))
  have zc3 := OZ3.out.cell 3
  have zf3 := OZ3.out.frozen 3
  have OZ4 : Hid (Ob ((((w1.setCell ⟨w.heap.size, 0, none⟩ (.string ⟨#[]⟩)).setCell ⟨w.heap.size, 1, none⟩ (.bool false)).setCell ⟨w.heap.size, 2, none⟩ (.int .i64 0)).setCell ⟨w.heap.size, 3, none⟩ (.slice none 0 0)) (w.heap.size) 28 #[.string ⟨#[]⟩, .bool false, .int .i64 0, .slice none 0 0, .slice none 0 0, .slice none 0 0, .slice none 0 0]) := Lib.hid (by have := OZ3.out.put 3 (.slice none 0 0); simpa using this)
  have BZ4 := Lib.hid (BZ3.out.setCell (p := ⟨w.heap.size, 3, none⟩) (Nat.le_refl _) (.slice none 0 0))
  have zc4 := OZ4.out.cell 4
  have zf4 := OZ4.out.frozen 4
  have OZ5 : Hid (Ob (((((w1.setCell ⟨w.heap.size, 0, none⟩ (.string ⟨#[]⟩)).setCell ⟨w.heap.size, 1, none⟩ (.bool false)).setCell ⟨w.heap.size, 2, none⟩ (.int .i64 0)).setCell ⟨w.heap.size, 3, none⟩ (.slice none 0 0)).setCell ⟨w.heap.size, 4, none⟩ (.slice none 0 0)) (w.heap.size) 28 #[.string ⟨#[]⟩, .bool false, .int .i64 0, .slice none 0 0, .slice none 0 0, .slice none 0 0, .slice none 0 0]) := Lib.hid (by have := OZ4.out.put 4 (.slice none 0 0); simpa using this)
  have BZ5 := Lib.hid (BZ4.out.setCell (p := ⟨w.heap.size, 4, none⟩) (Nat.le_refl _) (.slice none 0 0))
  have zc5 := OZ5.out.cell 5
  have zf5 := OZ5.out.frozen 5
  have OZ6 : Hid (Ob ((((((w1.setCell ⟨w.heap.size, 0, none⟩ (.string ⟨#[]⟩)).setCell ⟨w.heap.size, 1, none⟩ (.bool false)).setCell ⟨w.heap.size, 2, none⟩ (.int .i64 0)).setCell ⟨w.heap.size, 3, none⟩ (.slice none 0 0)).setCell ⟨w.heap.size, 4, none⟩ (.slice none 0 0)).setCell ⟨w.heap.size, 5, none⟩ (.slice none 0 0)) (w.heap.size) 28 #[.string ⟨#[]⟩, .bool false, .int .i64 0, .slice none 0 0, .slice none 0 0, .slice none 0 0, .slice none 0 0]) := Lib.hid (by have := OZ5.out.put 5 (.slice none 0 0); simpa using this)
  have BZ6 := Lib.hid (BZ5.out.setCell (p := ⟨w.heap.size, 5, none⟩) (Nat.le_refl _) (.slice none 0 0))
  have zc6 := OZ6.out.cell 6
  have zf6 := OZ6.out.frozen 6
  have OZ7 : Hid (Ob (((((((w1.setCell ⟨w.heap.size, 0, none⟩ (.string ⟨#[]⟩)).setCell ⟨w.heap.size, 1, none⟩ (.bool false)).setCell ⟨w.heap.size, 2, none⟩ (.int .i64 0)).setCell ⟨w.heap.size, 3, none⟩ (.slice none 0 0)).setCell ⟨w.heap.size, 4, none⟩ (.slice none 0 0)).setCell ⟨w.heap.size, 5, none⟩ (.slice none 0 0)).setCell ⟨w.heap.size, 6, none⟩ (.slice none 0 0)) (w.heap.size) 28 #[.string ⟨#[]⟩, .bool false, .int .i64 0, .slice none 0 0, .slice none 0 0, .slice none 0 0, .slice none 0 0]) := Lib.hid (by have := OZ6.out.put 6 (.slice none 0 0); simpa using this)
  have BZ7 := Lib.hid (BZ6.out.setCell (p := ⟨w.heap.size, 6, none⟩) (Nat.le_refl _) (.slice none 0 0))
  go_wp2_with fail
  try simp only [Exit.inBlock, Exit.then]
  refine bodyPost_ret (policy_ret3 rfl rfl rfl rfl OZ7.out rfl) rfl ?_
  exact ⟨_, rfl, BZ7.out, noPol_of _ _⟩
set_option maxHeartbeats 1600000 in
theorem parse_bad (s : ByteArray) {p : Nat} (hs : s.size ≤ 4096) (hl : lexB s.data.toList 0 = .error p) : Calls Tryz.prog 29 #[.string s] w (ParseP s w) := by
  have HC := Lib.hid (all_any s hs (w.alloc (.cells #[.string ⟨#[]⟩, .bool false, .int .i64 0, .slice none 0 0, .slice none 0 0, .slice none 0 0, .slice none 0 0] 28)))
  have OB := Lib.hid (Ob.made w 28 #[.string ⟨#[]⟩, .bool false, .int .i64 0, .slice none 0 0, .slice none 0 0, .slice none 0 0, .slice none 0 0])
  unfold ParseP
  rw [parseR_bad hs hl]
  simp only
  rw [hl] at HC
  clear hl
  go_enter Tryz.func29, Tryz.ntmps29
  go_wp2_with fail
  go_at_call 45
  refine HC.out.mono ?_
  rintro x w1 ⟨rfl, hb⟩
  have HB := Lib.hid (Below.lit hb)
  have O1 := Lib.hid (OB.out.below hb OB.out.lt)
  clear hb
  have zc0 := O1.out.cell 0
  have zf0 := O1.out.frozen 0
  have OZ1 : Hid (Ob (w1.setCell ⟨w.heap.size, 0, none⟩ (.string ⟨#[]⟩)) (w.heap.size) 28 #[.string ⟨#[]⟩, .bool false, .int .i64 0, .slice none 0 0, .slice none 0 0, .slice none 0 0, .slice none 0 0]) := Lib.hid (by have := O1.out.put 0 (.string ⟨#[]⟩); simpa using this)
  have BZ1 := Lib.hid (HB.out.setCell (p := ⟨w.heap.size, 0, none⟩) (Nat.le_refl _) (.string ⟨#[]⟩))
  have zc1 := OZ1.out.cell 1
  have zf1 := OZ1.out.frozen 1
  have OZ2 : Hid (Ob ((w1.setCell ⟨w.heap.size, 0, none⟩ (.string ⟨#[]⟩)).setCell ⟨w.heap.size, 1, none⟩ (.bool false)) (w.heap.size) 28 #[.string ⟨#[]⟩, .bool false, .int .i64 0, .slice none 0 0, .slice none 0 0, .slice none 0 0, .slice none 0 0]) := Lib.hid (by have := OZ1.out.put 1 (.bool false); simpa using this)
  have BZ2 := Lib.hid (BZ1.out.setCell (p := ⟨w.heap.size, 1, none⟩) (Nat.le_refl _) (.bool false))
  have zc2 := OZ2.out.cell 2
  have zf2 := OZ2.out.frozen 2
  have OZ3 : Hid (Ob (((w1.setCell ⟨w.heap.size, 0, none⟩ (.string ⟨#[]⟩)).setCell ⟨w.heap.size, 1, none⟩ (.bool false)).setCell ⟨w.heap.size, 2, none⟩ (.int .i64 0)) (w.heap.size) 28 #[.string ⟨#[]⟩, .bool false, .int .i64 0, .slice none 0 0, .slice none 0 0, .slice none 0 0, .slice none 0 0]) := Lib.hid (by have := OZ2.out.put 2 (.int .i64 0); simpa using this)
  have BZ3 := Lib.hid (BZ2.out.setCell (p := ⟨w.heap.size, 2, none⟩) (Nat.le_refl _) (.int .i64 0))
  have zc3 := OZ3.out.cell 3
  have zf3 := OZ3.out.frozen 3
  have OZ4 : Hid (Ob ((((w1.setCell ⟨w.heap.size, 0, none⟩ (.string ⟨#[]⟩)).setCell ⟨w.heap.size, 1, none⟩ (.bool false)).setCell ⟨w.heap.size, 2, none⟩ (.int .i64 0)).setCell ⟨w.heap.size, 3, none⟩ (.slice none 0 0)) (w.heap.size) 28 #[.string ⟨#[]⟩, .bool false, .int .i64 0, .slice none 0 0, .slice none 0 0, .slice none 0 0, .slice none 0 0]) := Lib.hid (by have := OZ3.out.put 3 (.slice none 0 0); simpa using this)
  have BZ4 := Lib.hid (BZ3.out.setCell (p := ⟨w.heap.size, 3, none⟩) (Nat.le_refl _) (.slice none 0 0))
  have zc4 := OZ4.out.cell 4
  have zf4 := OZ4.out.frozen 4
  have OZ5 : Hid (Ob (((((w1.setCell ⟨w.heap.size, 0, none⟩ (.string ⟨#[]⟩)).setCell ⟨w.heap.size, 1, none⟩ (.bool false)).setCell ⟨w.heap.size, 2, none⟩ (.int .i64 0)).setCell ⟨w.heap.size, 3, none⟩ (.slice none 0 0)).setCell ⟨w.heap.size, 4, none⟩ (.slice none 0 0)) (w.heap.size) 28 #[.string ⟨#[]⟩, .bool false, .int .i64 0, .slice none 0 0, .slice none 0 0, .slice none 0 0, .slice none 0 0]) := Lib.hid (by have := OZ4.out.put 4 (.slice none 0 0); simpa using this)
  have BZ5 := Lib.hid (BZ4.out.setCell (p := ⟨w.heap.size, 4, none⟩) (Nat.le_refl _) (.slice none 0 0))
  have zc5 := OZ5.out.cell 5
  have zf5 := OZ5.out.frozen 5
  have OZ6 : Hid (Ob ((((((w1.setCell ⟨w.heap.size, 0, none⟩ (.string ⟨#[]⟩)).setCell ⟨w.heap.size, 1, none⟩ (.bool false)).setCell ⟨w.heap.size, 2, none⟩ (.int .i64 0)).setCell ⟨w.heap.size, 3, none⟩ (.slice none 0 0)).setCell ⟨w.heap.size, 4, none⟩ (.slice none 0 0)).setCell ⟨w.heap.size, 5, none⟩ (.slice none 0 0)) (w.heap.size) 28 #[.string ⟨#[]⟩, .bool false, .int .i64 0, .slice none 0 0, .slice none 0 0, .slice none 0 0, .slice none 0 0]) := Lib.hid (by have := OZ5.out.put 5 (.slice none 0 0); simpa using this)
  have BZ6 := Lib.hid (BZ5.out.setCell (p := ⟨w.heap.size, 5, none⟩) (Nat.le_refl _) (.slice none 0 0))
  have zc6 := OZ6.out.cell 6
  have zf6 := OZ6.out.frozen 6
  have OZ7 : Hid (Ob (((((((w1.setCell ⟨w.heap.size, 0, none⟩ (.string ⟨#[]⟩)).setCell ⟨w.heap.size, 1, none⟩ (.bool false)).setCell ⟨w.heap.size, 2, none⟩ (.int .i64 0)).setCell ⟨w.heap.size, 3, none⟩ (.slice none 0 0)).setCell ⟨w.heap.size, 4, none⟩ (.slice none 0 0)).setCell ⟨w.heap.size, 5, none⟩ (.slice none 0 0)).setCell ⟨w.heap.size, 6, none⟩ (.slice none 0 0)) (w.heap.size) 28 #[.string ⟨#[]⟩, .bool false, .int .i64 0, .slice none 0 0, .slice none 0 0, .slice none 0 0, .slice none 0 0]) := Lib.hid (by have := OZ6.out.put 6 (.slice none 0 0); simpa using this)
  have BZ7 := Lib.hid (BZ6.out.setCell (p := ⟨w.heap.size, 6, none⟩) (Nat.le_refl _) (.slice none 0 0))
  go_wp2_with fail
  try simp only [Exit.inBlock, Exit.then]
  refine bodyPost_ret (policy_ret3 rfl rfl rfl rfl OZ7.out rfl) rfl ?_
  exact ⟨_, rfl, BZ7.out, noPol_of _ _⟩
theorem Only.down {g B : Nat} {w w' : World} (h : Only g w w') (hB : B ≤ g) (hw : g < w.heap.size) : Below B w w' := ⟨h.os, h.tape, h.output, h.size, fun k hk => h.heap (by omega) (by omega)⟩
set_option maxHeartbeats 3200000 in
theorem parse_ok (s : ByteArray) {ts : List Tk} (hs : s.size ≤ 4096) (hl : lexB s.data.toList 0 = .ok ts) : Calls Tryz.prog 29 #[.string s] w (ParseP s w) := by
  have HC := Lib.hid (all_any s hs (w.alloc (.cells #[.string ⟨#[]⟩, .bool false, .int .i64 0, .slice none 0 0, .slice none 0 0, .slice none 0 0, .slice none 0 0] 28)))
  have OB := Lib.hid (Ob.made w 28 #[.string ⟨#[]⟩, .bool false, .int .i64 0, .slice none 0 0, .slice none 0 0, .slice none 0 0, .slice none 0 0])
  unfold ParseP
  obtain ⟨h0, hlen⟩ := start_ok hs hl
  obtain ⟨q, s1, hq⟩ := pair_eq (polR 5 ⟨ts, 0, 0, 0⟩)
  obtain ⟨z, hz⟩ : ∃ z, endR s1 = z := ⟨_, rfl⟩
  obtain ⟨res, hres⟩ : ∃ r, (if z.err = 0 then (if rightE q = 0 then (q, 0, 0) else (noPol, 5, (s.size : Int))) else (noPol, z.err, z.at_) : Pol × Int × Int) = r := ⟨_, rfl⟩
  rw [parseR_ok hs hl hq hz, hres]
  have HRES := Lib.hid hres
  clear hres
  rw [hl] at HC
  have H0 := Lib.hid h0
  have HSUM : Hid ((⟨ts, 0, 0, 0⟩ : Pz).met + (⟨ts, 0, 0, 0⟩ : Pz).rest.length ≤ 5990) := by show 0 + ts.length ≤ 5990; omega
  have HQ := Lib.hid hq
  have HZ := Lib.hid hz
  have HS := Lib.hid hs
  clear hl hq hz h0 hlen hs
  go_enter Tryz.func29, Tryz.ntmps29
  go_wp2_with fail
  go_at_call 45
  refine HC.out.mono ?_
  rintro x w1 ⟨A, n, c, rfl, hown, hb⟩
  have HB := Lib.hid (Below.lit hb)
  have O1 := Lib.hid (OB.out.below hb OB.out.lt)
  have HG : Hid (w.heap.size < w1.heap.size) := O1.out.lt
  have HR := Lib.hid (Rd.start (Ts.of_own hown) H0.out)
  have O2 := Lib.hid (O1.out.keep (Below.heap_alloc w1 (.cells #[.slice A n c, .int .i64 0, .int .i64 0, .int .i64 0] 117) _ O1.out.lt))
  have HB2 := Lib.hid (HB.out.trans ((Below.refl w.heap.size w1).alloc HB.out.size (.cells #[.slice A n c, .int .i64 0, .int .i64 0, .int .i64 0] 117)))
  clear hb hown
  go_wp2_with fail
  go_at_call 46
  refine (pol_read_all 4 (Nat.le_refl _) _ ⟨ts, 0, 0, 0⟩ 1 (by omega) (Nat.le_refl _) HR.out HSUM.out).mono ?_
  rintro x w3 ⟨y, rfl, ho, hr, hp⟩
  change Rd _ _ _ (polR 5 _).2 at hr
  change PolOf _ _ 5 (polR 5 _).1 _ at hp
  rw [HQ.out] at hr hp
  obtain ⟨A1, n1, c1, A2, n2, c2, A3, n3, c3, A4, n4, c4, rfl, hp⟩ := hp
  have HS3 : Hid (w1.heap.size < w3.heap.size) := hr.lt
  have O3 := Lib.hid (O2.out.keep (ho.heap O2.out.lt (by have := HG.out; omega)))
  have HB3 := Lib.hid (HB2.out.trans (ho.down (by have := HG.out; omega) (by rw [size_al]; omega)))
  have O4 := Lib.hid (O3.out.keep (Below.heap_alloc w3 (.cells #[.string q.id, .bool q.set, .int .i64 q.alg, .slice A1 n1 c1, .slice A2 n2 c2, .slice A3 n3 c3, .slice A4 n4 c4] 28) _ O3.out.lt))
  have P4 := Lib.hid (Ob.made w3 28 #[.string q.id, .bool q.set, .int .i64 q.alg, .slice A1 n1 c1, .slice A2 n2 c2, .slice A3 n3 c3, .slice A4 n4 c4])
  have HB4 := Lib.hid (HB3.out.trans ((Below.refl w.heap.size w3).alloc HB3.out.size (.cells #[.string q.id, .bool q.set, .int .i64 q.alg, .slice A1 n1 c1, .slice A2 n2 c2, .slice A3 n3 c3, .slice A4 n4 c4] 28)))
  have HR4 := Lib.hid (hr.alloc (.cells #[.string q.id, .bool q.set, .int .i64 q.alg, .slice A1 n1 c1, .slice A2 n2 c2, .slice A3 n3 c3, .slice A4 n4 c4] 28))
  have HP4 := Lib.hid (PolAt.keep (Kept.all ((Below.refl w3.heap.size w3).alloc (Nat.le_refl _) (.cells #[.string q.id, .bool q.set, .int .i64 q.alg, .slice A1 n1 c1, .slice A2 n2 c2, .slice A3 n3 c3, .slice A4 n4 c4] 28)) _) (fun _ h _ => h) hp)
  clear ho hr hp
  go_wp2_with fail
  go_at_call 47
  refine (pend_any HR4.out).mono ?_
  rintro x w4 ⟨rfl, ho, hr⟩
  rw [HZ.out] at hr
  have HS4 : Hid (w3.heap.size < w4.heap.size) := by have := ho.size; rw [size_al] at this; show _ < _; omega
  have O5 := Lib.hid (O4.out.keep (ho.heap O4.out.lt (by have := HG.out; omega)))
  have P5 := Lib.hid (P4.out.keep (ho.heap P4.out.lt (by have := HS3.out; omega)))
  have HB5 := Lib.hid (HB4.out.trans (ho.down (by have := HG.out; omega) HR4.out.lt))
  have HP5 := Lib.hid (PolAt.keep (w' := w4) ⟨ho.size, fun b hb hlt => ho.heap hlt (by have hb : (w1.alloc (.cells #[.slice A n c, .int .i64 0, .int .i64 0, .int .i64 0] 117)).heap.size ≤ b := hb; rw [size_al] at hb; omega)⟩ (fun _ h _ => h) HP4.out)
  obtain ⟨b0, o0, n0, c0, hob, hok, _, _, _, _⟩ := hr.at_
  have q2 := hob.cell 2
  have q3 := hob.cell 3
  have R5 := Lib.hid hob
  clear ho hr hob hok
  by_cases hz : z.err = 0
  · rw [hz] at q2
    have HZ0 := Lib.hid hz
    clear hz
    have HIN : Hid (PolIn w4 (fun b => (w1.alloc (.cells #[.slice A n c, .int .i64 0, .int .i64 0, .int .i64 0] 117)).heap.size ≤ b) q A1 n1 c1 A2 n2 c2 A3 n3 c3 A4 n4 c4) := by
      obtain ⟨B1, m1, d1, B2, m2, d2, B3, m3, d3, B4, m4, d4, e, h0, h00, h1, h2, h3, h4⟩ := HP5.out
      simp at e
      obtain ⟨⟨rfl, rfl, rfl⟩, ⟨rfl, rfl, rfl⟩, ⟨rfl, rfl, rfl⟩, ⟨rfl, rfl, rfl⟩⟩ := e
      exact ⟨⟨h0, h00⟩, h1, h2, ⟨4, h3⟩, h4⟩
    have pc0 := P5.out.cell 0
    have pc1 := P5.out.cell 1
    have pc2 := P5.out.cell 2
    have pc3 := P5.out.cell 3
    have pc4 := P5.out.cell 4
    have pc5 := P5.out.cell 5
    have pc6 := P5.out.cell 6
    go_wp2_with fail
    go_at_call 19
    refine (right_pol HIN.out).mono ?_
    rintro x w5 ⟨rfl, hb⟩
    have O6 := Lib.hid (O5.out.below hb O5.out.lt)
    have P6 := Lib.hid (P5.out.below hb P5.out.lt)
    have HB6 := Lib.hid (HB5.out.trans (hb.mono HB5.out.size))
    have HP6 := Lib.hid (PolAt.keep (Kept.all hb _) (fun _ h _ => h) HP5.out)
    clear hb
    by_cases hE : rightE q = 0
    · rw [hE]
      have HF := Lib.hid (show (q, 0, 0) = res from by have := HRES.out; rwa [if_pos HZ0.out, if_pos hE] at this)
      have pd0 := P6.out.cell 0
      have pd1 := P6.out.cell 1
      have pd2 := P6.out.cell 2
      have pd3 := P6.out.cell 3
      have pd4 := P6.out.cell 4
      have pd5 := P6.out.cell 5
      have pd6 := P6.out.cell 6
      have zc0 := O6.out.cell 0
      have zf0 := O6.out.frozen 0
      have OZ1 : Hid (Ob (w5.setCell ⟨w.heap.size, 0, none⟩ (.string q.id)) (w.heap.size) 28 #[.string q.id, .bool false, .int .i64 0, .slice none 0 0, .slice none 0 0, .slice none 0 0, .slice none 0 0]) := Lib.hid (by have := O6.out.put 0 (.string q.id); simpa using this)
      have BZ1 := Lib.hid (HB6.out.setCell (p := ⟨w.heap.size, 0, none⟩) (Nat.le_refl _) (.string q.id))
      have zc1 := OZ1.out.cell 1
      have zf1 := OZ1.out.frozen 1
      have OZ2 : Hid (Ob ((w5.setCell ⟨w.heap.size, 0, none⟩ (.string q.id)).setCell ⟨w.heap.size, 1, none⟩ (.bool q.set)) (w.heap.size) 28 #[.string q.id, .bool q.set, .int .i64 0, .slice none 0 0, .slice none 0 0, .slice none 0 0, .slice none 0 0]) := Lib.hid (by have := OZ1.out.put 1 (.bool q.set); simpa using this)
      have BZ2 := Lib.hid (BZ1.out.setCell (p := ⟨w.heap.size, 1, none⟩) (Nat.le_refl _) (.bool q.set))
      have zc2 := OZ2.out.cell 2
      have zf2 := OZ2.out.frozen 2
      have OZ3 : Hid (Ob (((w5.setCell ⟨w.heap.size, 0, none⟩ (.string q.id)).setCell ⟨w.heap.size, 1, none⟩ (.bool q.set)).setCell ⟨w.heap.size, 2, none⟩ (.int .i64 q.alg)) (w.heap.size) 28 #[.string q.id, .bool q.set, .int .i64 q.alg, .slice none 0 0, .slice none 0 0, .slice none 0 0, .slice none 0 0]) := Lib.hid (by have := OZ2.out.put 2 (.int .i64 q.alg); simpa using this)
      have BZ3 := Lib.hid (BZ2.out.setCell (p := ⟨w.heap.size, 2, none⟩) (Nat.le_refl _) (.int .i64 q.alg))
      have zc3 := OZ3.out.cell 3
      have zf3 := OZ3.out.frozen 3
      have OZ4 : Hid (Ob ((((w5.setCell ⟨w.heap.size, 0, none⟩ (.string q.id)).setCell ⟨w.heap.size, 1, none⟩ (.bool q.set)).setCell ⟨w.heap.size, 2, none⟩ (.int .i64 q.alg)).setCell ⟨w.heap.size, 3, none⟩ (.slice A1 n1 c1)) (w.heap.size) 28 #[.string q.id, .bool q.set, .int .i64 q.alg, .slice A1 n1 c1, .slice none 0 0, .slice none 0 0, .slice none 0 0]) := Lib.hid (by have := OZ3.out.put 3 (.slice A1 n1 c1); simpa using this)
      have BZ4 := Lib.hid (BZ3.out.setCell (p := ⟨w.heap.size, 3, none⟩) (Nat.le_refl _) (.slice A1 n1 c1))
      have zc4 := OZ4.out.cell 4
      have zf4 := OZ4.out.frozen 4
      have OZ5 : Hid (Ob (((((w5.setCell ⟨w.heap.size, 0, none⟩ (.string q.id)).setCell ⟨w.heap.size, 1, none⟩ (.bool q.set)).setCell ⟨w.heap.size, 2, none⟩ (.int .i64 q.alg)).setCell ⟨w.heap.size, 3, none⟩ (.slice A1 n1 c1)).setCell ⟨w.heap.size, 4, none⟩ (.slice A2 n2 c2)) (w.heap.size) 28 #[.string q.id, .bool q.set, .int .i64 q.alg, .slice A1 n1 c1, .slice A2 n2 c2, .slice none 0 0, .slice none 0 0]) := Lib.hid (by have := OZ4.out.put 4 (.slice A2 n2 c2); simpa using this)
      have BZ5 := Lib.hid (BZ4.out.setCell (p := ⟨w.heap.size, 4, none⟩) (Nat.le_refl _) (.slice A2 n2 c2))
      have zc5 := OZ5.out.cell 5
      have zf5 := OZ5.out.frozen 5
      have OZ6 : Hid (Ob ((((((w5.setCell ⟨w.heap.size, 0, none⟩ (.string q.id)).setCell ⟨w.heap.size, 1, none⟩ (.bool q.set)).setCell ⟨w.heap.size, 2, none⟩ (.int .i64 q.alg)).setCell ⟨w.heap.size, 3, none⟩ (.slice A1 n1 c1)).setCell ⟨w.heap.size, 4, none⟩ (.slice A2 n2 c2)).setCell ⟨w.heap.size, 5, none⟩ (.slice A3 n3 c3)) (w.heap.size) 28 #[.string q.id, .bool q.set, .int .i64 q.alg, .slice A1 n1 c1, .slice A2 n2 c2, .slice A3 n3 c3, .slice none 0 0]) := Lib.hid (by have := OZ5.out.put 5 (.slice A3 n3 c3); simpa using this)
      have BZ6 := Lib.hid (BZ5.out.setCell (p := ⟨w.heap.size, 5, none⟩) (Nat.le_refl _) (.slice A3 n3 c3))
      have zc6 := OZ6.out.cell 6
      have zf6 := OZ6.out.frozen 6
      have OZ7 : Hid (Ob (((((((w5.setCell ⟨w.heap.size, 0, none⟩ (.string q.id)).setCell ⟨w.heap.size, 1, none⟩ (.bool q.set)).setCell ⟨w.heap.size, 2, none⟩ (.int .i64 q.alg)).setCell ⟨w.heap.size, 3, none⟩ (.slice A1 n1 c1)).setCell ⟨w.heap.size, 4, none⟩ (.slice A2 n2 c2)).setCell ⟨w.heap.size, 5, none⟩ (.slice A3 n3 c3)).setCell ⟨w.heap.size, 6, none⟩ (.slice A4 n4 c4)) (w.heap.size) 28 #[.string q.id, .bool q.set, .int .i64 q.alg, .slice A1 n1 c1, .slice A2 n2 c2, .slice A3 n3 c3, .slice A4 n4 c4]) := Lib.hid (by have := OZ6.out.put 6 (.slice A4 n4 c4); simpa using this)
      have BZ7 := Lib.hid (BZ6.out.setCell (p := ⟨w.heap.size, 6, none⟩) (Nat.le_refl _) (.slice A4 n4 c4))
      have KQ : Hid (Kept (fun b => (w1.alloc (.cells #[.slice A n c, .int .i64 0, .int .i64 0, .int .i64 0] 117)).heap.size ≤ b) w5 (((((((w5.setCell ⟨w.heap.size, 0, none⟩ (.string q.id)).setCell ⟨w.heap.size, 1, none⟩ (.bool q.set)).setCell ⟨w.heap.size, 2, none⟩ (.int .i64 q.alg)).setCell ⟨w.heap.size, 3, none⟩ (.slice A1 n1 c1)).setCell ⟨w.heap.size, 4, none⟩ (.slice A2 n2 c2)).setCell ⟨w.heap.size, 5, none⟩ (.slice A3 n3 c3)).setCell ⟨w.heap.size, 6, none⟩ (.slice A4 n4 c4))) := Lib.hid (Only.kept9 ((((((((Only.refl (r := w.heap.size) (w := w5)).at_g 0 (.string q.id)).at_g 1 (.bool q.set)).at_g 2 (.int .i64 q.alg)).at_g 3 (.slice A1 n1 c1)).at_g 4 (.slice A2 n2 c2)).at_g 5 (.slice A3 n3 c3)).at_g 6 (.slice A4 n4 c4)) (fun b hb => by have hb : (w1.alloc (.cells #[.slice A n c, .int .i64 0, .int .i64 0, .int .i64 0] 117)).heap.size ≤ b := hb; rw [size_al] at hb; have := HG.out; omega))
      go_wp2_with fail
      try simp only [Exit.inBlock, Exit.then]
      refine bodyPost_ret (policy_ret3 rfl rfl rfl rfl OZ7.out rfl) rfl ?_
      rw [← HF.out]
      exact ⟨_, rfl, BZ7.out, A1, n1, c1, A2, n2, c2, A3, n3, c3, A4, n4, c4, rfl, PolAt.keep (w' := (((((((w5.setCell ⟨w.heap.size, 0, none⟩ (.string q.id)).setCell ⟨w.heap.size, 1, none⟩ (.bool q.set)).setCell ⟨w.heap.size, 2, none⟩ (.int .i64 q.alg)).setCell ⟨w.heap.size, 3, none⟩ (.slice A1 n1 c1)).setCell ⟨w.heap.size, 4, none⟩ (.slice A2 n2 c2)).setCell ⟨w.heap.size, 5, none⟩ (.slice A3 n3 c3)).setCell ⟨w.heap.size, 6, none⟩ (.slice A4 n4 c4))) (KQ.out) (fun b hb _ => by have hb : (w1.alloc (.cells #[.slice A n c, .int .i64 0, .int .i64 0, .int .i64 0] 117)).heap.size ≤ b := hb; rw [size_al] at hb; have := HG.out; show w.heap.size ≤ b; omega) HP6.out⟩
    · have HF := Lib.hid (show (noPol, 5, (s.size : Int)) = res from by have := HRES.out; rwa [if_pos HZ0.out, if_neg hE] at this)
      have hE2 : (rightE q != 0) = true := by rw [bne_iff_ne]; exact hE
      have HE := Lib.hid hE
      clear hE
      generalize rightE q = rq at *
      have zc0 := O6.out.cell 0
      have zf0 := O6.out.frozen 0
      have OZ1 : Hid (Ob (w5.setCell ⟨w.heap.size, 0, none⟩ (.string ⟨#[]⟩)) (w.heap.size) 28 #[.string ⟨#[]⟩, .bool false, .int .i64 0, .slice none 0 0, .slice none 0 0, .slice none 0 0, .slice none 0 0]) := Lib.hid (by have := O6.out.put 0 (.string ⟨#[]⟩); simpa using this)
      have BZ1 := Lib.hid (HB6.out.setCell (p := ⟨w.heap.size, 0, none⟩) (Nat.le_refl _) (.string ⟨#[]⟩))
      have zc1 := OZ1.out.cell 1
      have zf1 := OZ1.out.frozen 1
      have OZ2 : Hid (Ob ((w5.setCell ⟨w.heap.size, 0, none⟩ (.string ⟨#[]⟩)).setCell ⟨w.heap.size, 1, none⟩ (.bool false)) (w.heap.size) 28 #[.string ⟨#[]⟩, .bool false, .int .i64 0, .slice none 0 0, .slice none 0 0, .slice none 0 0, .slice none 0 0]) := Lib.hid (by have := OZ1.out.put 1 (.bool false); simpa using this)
      have BZ2 := Lib.hid (BZ1.out.setCell (p := ⟨w.heap.size, 1, none⟩) (Nat.le_refl _) (.bool false))
      have zc2 := OZ2.out.cell 2
      have zf2 := OZ2.out.frozen 2
      have OZ3 : Hid (Ob (((w5.setCell ⟨w.heap.size, 0, none⟩ (.string ⟨#[]⟩)).setCell ⟨w.heap.size, 1, none⟩ (.bool false)).setCell ⟨w.heap.size, 2, none⟩ (.int .i64 0)) (w.heap.size) 28 #[.string ⟨#[]⟩, .bool false, .int .i64 0, .slice none 0 0, .slice none 0 0, .slice none 0 0, .slice none 0 0]) := Lib.hid (by have := OZ2.out.put 2 (.int .i64 0); simpa using this)
      have BZ3 := Lib.hid (BZ2.out.setCell (p := ⟨w.heap.size, 2, none⟩) (Nat.le_refl _) (.int .i64 0))
      have zc3 := OZ3.out.cell 3
      have zf3 := OZ3.out.frozen 3
      have OZ4 : Hid (Ob ((((w5.setCell ⟨w.heap.size, 0, none⟩ (.string ⟨#[]⟩)).setCell ⟨w.heap.size, 1, none⟩ (.bool false)).setCell ⟨w.heap.size, 2, none⟩ (.int .i64 0)).setCell ⟨w.heap.size, 3, none⟩ (.slice none 0 0)) (w.heap.size) 28 #[.string ⟨#[]⟩, .bool false, .int .i64 0, .slice none 0 0, .slice none 0 0, .slice none 0 0, .slice none 0 0]) := Lib.hid (by have := OZ3.out.put 3 (.slice none 0 0); simpa using this)
      have BZ4 := Lib.hid (BZ3.out.setCell (p := ⟨w.heap.size, 3, none⟩) (Nat.le_refl _) (.slice none 0 0))
      have zc4 := OZ4.out.cell 4
      have zf4 := OZ4.out.frozen 4
      have OZ5 : Hid (Ob (((((w5.setCell ⟨w.heap.size, 0, none⟩ (.string ⟨#[]⟩)).setCell ⟨w.heap.size, 1, none⟩ (.bool false)).setCell ⟨w.heap.size, 2, none⟩ (.int .i64 0)).setCell ⟨w.heap.size, 3, none⟩ (.slice none 0 0)).setCell ⟨w.heap.size, 4, none⟩ (.slice none 0 0)) (w.heap.size) 28 #[.string ⟨#[]⟩, .bool false, .int .i64 0, .slice none 0 0, .slice none 0 0, .slice none 0 0, .slice none 0 0]) := Lib.hid (by have := OZ4.out.put 4 (.slice none 0 0); simpa using this)
      have BZ5 := Lib.hid (BZ4.out.setCell (p := ⟨w.heap.size, 4, none⟩) (Nat.le_refl _) (.slice none 0 0))
      have zc5 := OZ5.out.cell 5
      have zf5 := OZ5.out.frozen 5
      have OZ6 : Hid (Ob ((((((w5.setCell ⟨w.heap.size, 0, none⟩ (.string ⟨#[]⟩)).setCell ⟨w.heap.size, 1, none⟩ (.bool false)).setCell ⟨w.heap.size, 2, none⟩ (.int .i64 0)).setCell ⟨w.heap.size, 3, none⟩ (.slice none 0 0)).setCell ⟨w.heap.size, 4, none⟩ (.slice none 0 0)).setCell ⟨w.heap.size, 5, none⟩ (.slice none 0 0)) (w.heap.size) 28 #[.string ⟨#[]⟩, .bool false, .int .i64 0, .slice none 0 0, .slice none 0 0, .slice none 0 0, .slice none 0 0]) := Lib.hid (by have := OZ5.out.put 5 (.slice none 0 0); simpa using this)
      have BZ6 := Lib.hid (BZ5.out.setCell (p := ⟨w.heap.size, 5, none⟩) (Nat.le_refl _) (.slice none 0 0))
      have zc6 := OZ6.out.cell 6
      have zf6 := OZ6.out.frozen 6
      have OZ7 : Hid (Ob (((((((w5.setCell ⟨w.heap.size, 0, none⟩ (.string ⟨#[]⟩)).setCell ⟨w.heap.size, 1, none⟩ (.bool false)).setCell ⟨w.heap.size, 2, none⟩ (.int .i64 0)).setCell ⟨w.heap.size, 3, none⟩ (.slice none 0 0)).setCell ⟨w.heap.size, 4, none⟩ (.slice none 0 0)).setCell ⟨w.heap.size, 5, none⟩ (.slice none 0 0)).setCell ⟨w.heap.size, 6, none⟩ (.slice none 0 0)) (w.heap.size) 28 #[.string ⟨#[]⟩, .bool false, .int .i64 0, .slice none 0 0, .slice none 0 0, .slice none 0 0, .slice none 0 0]) := Lib.hid (by have := OZ6.out.put 6 (.slice none 0 0); simpa using this)
      have BZ7 := Lib.hid (BZ6.out.setCell (p := ⟨w.heap.size, 6, none⟩) (Nat.le_refl _) (.slice none 0 0))
      go_wp2_with fail
      try simp only [Exit.inBlock, Exit.then]
      refine bodyPost_ret (policy_ret3 rfl rfl rfl rfl OZ7.out rfl) rfl ?_
      rw [← HF.out]
      exact ⟨_, rfl, BZ7.out, noPol_of _ _⟩
  · have HF := Lib.hid (show (noPol, z.err, z.at_) = res from by have := HRES.out; rwa [if_neg hz] at this)
    have hz2 : (z.err != 0) = true := by rw [bne_iff_ne]; exact hz
    clear hz
    go_wp2_with fail
    have zc0 := O5.out.cell 0
    have zf0 := O5.out.frozen 0
    have OZ1 : Hid (Ob (w4.setCell ⟨w.heap.size, 0, none⟩ (.string ⟨#[]⟩)) (w.heap.size) 28 #[.string ⟨#[]⟩, .bool false, .int .i64 0, .slice none 0 0, .slice none 0 0, .slice none 0 0, .slice none 0 0]) := Lib.hid (by have := O5.out.put 0 (.string ⟨#[]⟩); simpa using this)
    have BZ1 := Lib.hid (HB5.out.setCell (p := ⟨w.heap.size, 0, none⟩) (Nat.le_refl _) (.string ⟨#[]⟩))
    have zc1 := OZ1.out.cell 1
    have zf1 := OZ1.out.frozen 1
    have OZ2 : Hid (Ob ((w4.setCell ⟨w.heap.size, 0, none⟩ (.string ⟨#[]⟩)).setCell ⟨w.heap.size, 1, none⟩ (.bool false)) (w.heap.size) 28 #[.string ⟨#[]⟩, .bool false, .int .i64 0, .slice none 0 0, .slice none 0 0, .slice none 0 0, .slice none 0 0]) := Lib.hid (by have := OZ1.out.put 1 (.bool false); simpa using this)
    have BZ2 := Lib.hid (BZ1.out.setCell (p := ⟨w.heap.size, 1, none⟩) (Nat.le_refl _) (.bool false))
    have zc2 := OZ2.out.cell 2
    have zf2 := OZ2.out.frozen 2
    have OZ3 : Hid (Ob (((w4.setCell ⟨w.heap.size, 0, none⟩ (.string ⟨#[]⟩)).setCell ⟨w.heap.size, 1, none⟩ (.bool false)).setCell ⟨w.heap.size, 2, none⟩ (.int .i64 0)) (w.heap.size) 28 #[.string ⟨#[]⟩, .bool false, .int .i64 0, .slice none 0 0, .slice none 0 0, .slice none 0 0, .slice none 0 0]) := Lib.hid (by have := OZ2.out.put 2 (.int .i64 0); simpa using this)
    have BZ3 := Lib.hid (BZ2.out.setCell (p := ⟨w.heap.size, 2, none⟩) (Nat.le_refl _) (.int .i64 0))
    have zc3 := OZ3.out.cell 3
    have zf3 := OZ3.out.frozen 3
    have OZ4 : Hid (Ob ((((w4.setCell ⟨w.heap.size, 0, none⟩ (.string ⟨#[]⟩)).setCell ⟨w.heap.size, 1, none⟩ (.bool false)).setCell ⟨w.heap.size, 2, none⟩ (.int .i64 0)).setCell ⟨w.heap.size, 3, none⟩ (.slice none 0 0)) (w.heap.size) 28 #[.string ⟨#[]⟩, .bool false, .int .i64 0, .slice none 0 0, .slice none 0 0, .slice none 0 0, .slice none 0 0]) := Lib.hid (by have := OZ3.out.put 3 (.slice none 0 0); simpa using this)
    have BZ4 := Lib.hid (BZ3.out.setCell (p := ⟨w.heap.size, 3, none⟩) (Nat.le_refl _) (.slice none 0 0))
    have zc4 := OZ4.out.cell 4
    have zf4 := OZ4.out.frozen 4
    have OZ5 : Hid (Ob (((((w4.setCell ⟨w.heap.size, 0, none⟩ (.string ⟨#[]⟩)).setCell ⟨w.heap.size, 1, none⟩ (.bool false)).setCell ⟨w.heap.size, 2, none⟩ (.int .i64 0)).setCell ⟨w.heap.size, 3, none⟩ (.slice none 0 0)).setCell ⟨w.heap.size, 4, none⟩ (.slice none 0 0)) (w.heap.size) 28 #[.string ⟨#[]⟩, .bool false, .int .i64 0, .slice none 0 0, .slice none 0 0, .slice none 0 0, .slice none 0 0]) := Lib.hid (by have := OZ4.out.put 4 (.slice none 0 0); simpa using this)
    have BZ5 := Lib.hid (BZ4.out.setCell (p := ⟨w.heap.size, 4, none⟩) (Nat.le_refl _) (.slice none 0 0))
    have zc5 := OZ5.out.cell 5
    have zf5 := OZ5.out.frozen 5
    have OZ6 : Hid (Ob ((((((w4.setCell ⟨w.heap.size, 0, none⟩ (.string ⟨#[]⟩)).setCell ⟨w.heap.size, 1, none⟩ (.bool false)).setCell ⟨w.heap.size, 2, none⟩ (.int .i64 0)).setCell ⟨w.heap.size, 3, none⟩ (.slice none 0 0)).setCell ⟨w.heap.size, 4, none⟩ (.slice none 0 0)).setCell ⟨w.heap.size, 5, none⟩ (.slice none 0 0)) (w.heap.size) 28 #[.string ⟨#[]⟩, .bool false, .int .i64 0, .slice none 0 0, .slice none 0 0, .slice none 0 0, .slice none 0 0]) := Lib.hid (by have := OZ5.out.put 5 (.slice none 0 0); simpa using this)
    have BZ6 := Lib.hid (BZ5.out.setCell (p := ⟨w.heap.size, 5, none⟩) (Nat.le_refl _) (.slice none 0 0))
    have zc6 := OZ6.out.cell 6
    have zf6 := OZ6.out.frozen 6
    have OZ7 : Hid (Ob (((((((w4.setCell ⟨w.heap.size, 0, none⟩ (.string ⟨#[]⟩)).setCell ⟨w.heap.size, 1, none⟩ (.bool false)).setCell ⟨w.heap.size, 2, none⟩ (.int .i64 0)).setCell ⟨w.heap.size, 3, none⟩ (.slice none 0 0)).setCell ⟨w.heap.size, 4, none⟩ (.slice none 0 0)).setCell ⟨w.heap.size, 5, none⟩ (.slice none 0 0)).setCell ⟨w.heap.size, 6, none⟩ (.slice none 0 0)) (w.heap.size) 28 #[.string ⟨#[]⟩, .bool false, .int .i64 0, .slice none 0 0, .slice none 0 0, .slice none 0 0, .slice none 0 0]) := Lib.hid (by have := OZ6.out.put 6 (.slice none 0 0); simpa using this)
    have BZ7 := Lib.hid (BZ6.out.setCell (p := ⟨w.heap.size, 6, none⟩) (Nat.le_refl _) (.slice none 0 0))
    have RZ1 := Lib.hid (R5.out.keep (Below.heap_setCell w4 ⟨w.heap.size, 0, none⟩ (.string ⟨#[]⟩) _ (by show w1.heap.size ≠ w.heap.size; have := HG.out; omega)))
    have RZ2 := Lib.hid (RZ1.out.keep (Below.heap_setCell (w4.setCell ⟨w.heap.size, 0, none⟩ (.string ⟨#[]⟩)) ⟨w.heap.size, 1, none⟩ (.bool false) _ (by show w1.heap.size ≠ w.heap.size; have := HG.out; omega)))
    have RZ3 := Lib.hid (RZ2.out.keep (Below.heap_setCell ((w4.setCell ⟨w.heap.size, 0, none⟩ (.string ⟨#[]⟩)).setCell ⟨w.heap.size, 1, none⟩ (.bool false)) ⟨w.heap.size, 2, none⟩ (.int .i64 0) _ (by show w1.heap.size ≠ w.heap.size; have := HG.out; omega)))
    have RZ4 := Lib.hid (RZ3.out.keep (Below.heap_setCell (((w4.setCell ⟨w.heap.size, 0, none⟩ (.string ⟨#[]⟩)).setCell ⟨w.heap.size, 1, none⟩ (.bool false)).setCell ⟨w.heap.size, 2, none⟩ (.int .i64 0)) ⟨w.heap.size, 3, none⟩ (.slice none 0 0) _ (by show w1.heap.size ≠ w.heap.size; have := HG.out; omega)))
    have RZ5 := Lib.hid (RZ4.out.keep (Below.heap_setCell ((((w4.setCell ⟨w.heap.size, 0, none⟩ (.string ⟨#[]⟩)).setCell ⟨w.heap.size, 1, none⟩ (.bool false)).setCell ⟨w.heap.size, 2, none⟩ (.int .i64 0)).setCell ⟨w.heap.size, 3, none⟩ (.slice none 0 0)) ⟨w.heap.size, 4, none⟩ (.slice none 0 0) _ (by show w1.heap.size ≠ w.heap.size; have := HG.out; omega)))
    have RZ6 := Lib.hid (RZ5.out.keep (Below.heap_setCell (((((w4.setCell ⟨w.heap.size, 0, none⟩ (.string ⟨#[]⟩)).setCell ⟨w.heap.size, 1, none⟩ (.bool false)).setCell ⟨w.heap.size, 2, none⟩ (.int .i64 0)).setCell ⟨w.heap.size, 3, none⟩ (.slice none 0 0)).setCell ⟨w.heap.size, 4, none⟩ (.slice none 0 0)) ⟨w.heap.size, 5, none⟩ (.slice none 0 0) _ (by show w1.heap.size ≠ w.heap.size; have := HG.out; omega)))
    have RZ7 := Lib.hid (RZ6.out.keep (Below.heap_setCell ((((((w4.setCell ⟨w.heap.size, 0, none⟩ (.string ⟨#[]⟩)).setCell ⟨w.heap.size, 1, none⟩ (.bool false)).setCell ⟨w.heap.size, 2, none⟩ (.int .i64 0)).setCell ⟨w.heap.size, 3, none⟩ (.slice none 0 0)).setCell ⟨w.heap.size, 4, none⟩ (.slice none 0 0)).setCell ⟨w.heap.size, 5, none⟩ (.slice none 0 0)) ⟨w.heap.size, 6, none⟩ (.slice none 0 0) _ (by show w1.heap.size ≠ w.heap.size; have := HG.out; omega)))
    have RZc2 := RZ7.out.cell 2
    have RZc3 := RZ7.out.cell 3
    have OD0 : Hid (Ob w4.drew w.heap.size 28 #[.string ⟨#[]⟩, .bool false, .int .i64 0, .slice none 0 0, .slice none 0 0, .slice none 0 0, .slice none 0 0]) := Lib.hid O5.out
    have BD0 : Hid (Below w.heap.size w w4.drew) := Lib.hid (below_drewN HB5.out 1)
    have yc0 := OD0.out.cell 0
    have yf0 := OD0.out.frozen 0
    have OY1 : Hid (Ob (w4.drew.setCell ⟨w.heap.size, 0, none⟩ (.string ⟨#[]⟩)) (w.heap.size) 28 #[.string ⟨#[]⟩, .bool false, .int .i64 0, .slice none 0 0, .slice none 0 0, .slice none 0 0, .slice none 0 0]) := Lib.hid (by have := OD0.out.put 0 (.string ⟨#[]⟩); simpa using this)
    have BY1 := Lib.hid (BD0.out.setCell (p := ⟨w.heap.size, 0, none⟩) (Nat.le_refl _) (.string ⟨#[]⟩))
    have yc1 := OY1.out.cell 1
    have yf1 := OY1.out.frozen 1
    have OY2 : Hid (Ob ((w4.drew.setCell ⟨w.heap.size, 0, none⟩ (.string ⟨#[]⟩)).setCell ⟨w.heap.size, 1, none⟩ (.bool false)) (w.heap.size) 28 #[.string ⟨#[]⟩, .bool false, .int .i64 0, .slice none 0 0, .slice none 0 0, .slice none 0 0, .slice none 0 0]) := Lib.hid (by have := OY1.out.put 1 (.bool false); simpa using this)
    have BY2 := Lib.hid (BY1.out.setCell (p := ⟨w.heap.size, 1, none⟩) (Nat.le_refl _) (.bool false))
    have yc2 := OY2.out.cell 2
    have yf2 := OY2.out.frozen 2
    have OY3 : Hid (Ob (((w4.drew.setCell ⟨w.heap.size, 0, none⟩ (.string ⟨#[]⟩)).setCell ⟨w.heap.size, 1, none⟩ (.bool false)).setCell ⟨w.heap.size, 2, none⟩ (.int .i64 0)) (w.heap.size) 28 #[.string ⟨#[]⟩, .bool false, .int .i64 0, .slice none 0 0, .slice none 0 0, .slice none 0 0, .slice none 0 0]) := Lib.hid (by have := OY2.out.put 2 (.int .i64 0); simpa using this)
    have BY3 := Lib.hid (BY2.out.setCell (p := ⟨w.heap.size, 2, none⟩) (Nat.le_refl _) (.int .i64 0))
    have yc3 := OY3.out.cell 3
    have yf3 := OY3.out.frozen 3
    have OY4 : Hid (Ob ((((w4.drew.setCell ⟨w.heap.size, 0, none⟩ (.string ⟨#[]⟩)).setCell ⟨w.heap.size, 1, none⟩ (.bool false)).setCell ⟨w.heap.size, 2, none⟩ (.int .i64 0)).setCell ⟨w.heap.size, 3, none⟩ (.slice none 0 0)) (w.heap.size) 28 #[.string ⟨#[]⟩, .bool false, .int .i64 0, .slice none 0 0, .slice none 0 0, .slice none 0 0, .slice none 0 0]) := Lib.hid (by have := OY3.out.put 3 (.slice none 0 0); simpa using this)
    have BY4 := Lib.hid (BY3.out.setCell (p := ⟨w.heap.size, 3, none⟩) (Nat.le_refl _) (.slice none 0 0))
    have yc4 := OY4.out.cell 4
    have yf4 := OY4.out.frozen 4
    have OY5 : Hid (Ob (((((w4.drew.setCell ⟨w.heap.size, 0, none⟩ (.string ⟨#[]⟩)).setCell ⟨w.heap.size, 1, none⟩ (.bool false)).setCell ⟨w.heap.size, 2, none⟩ (.int .i64 0)).setCell ⟨w.heap.size, 3, none⟩ (.slice none 0 0)).setCell ⟨w.heap.size, 4, none⟩ (.slice none 0 0)) (w.heap.size) 28 #[.string ⟨#[]⟩, .bool false, .int .i64 0, .slice none 0 0, .slice none 0 0, .slice none 0 0, .slice none 0 0]) := Lib.hid (by have := OY4.out.put 4 (.slice none 0 0); simpa using this)
    have BY5 := Lib.hid (BY4.out.setCell (p := ⟨w.heap.size, 4, none⟩) (Nat.le_refl _) (.slice none 0 0))
    have yc5 := OY5.out.cell 5
    have yf5 := OY5.out.frozen 5
    have OY6 : Hid (Ob ((((((w4.drew.setCell ⟨w.heap.size, 0, none⟩ (.string ⟨#[]⟩)).setCell ⟨w.heap.size, 1, none⟩ (.bool false)).setCell ⟨w.heap.size, 2, none⟩ (.int .i64 0)).setCell ⟨w.heap.size, 3, none⟩ (.slice none 0 0)).setCell ⟨w.heap.size, 4, none⟩ (.slice none 0 0)).setCell ⟨w.heap.size, 5, none⟩ (.slice none 0 0)) (w.heap.size) 28 #[.string ⟨#[]⟩, .bool false, .int .i64 0, .slice none 0 0, .slice none 0 0, .slice none 0 0, .slice none 0 0]) := Lib.hid (by have := OY5.out.put 5 (.slice none 0 0); simpa using this)
    have BY6 := Lib.hid (BY5.out.setCell (p := ⟨w.heap.size, 5, none⟩) (Nat.le_refl _) (.slice none 0 0))
    have yc6 := OY6.out.cell 6
    have yf6 := OY6.out.frozen 6
    have OY7 : Hid (Ob (((((((w4.drew.setCell ⟨w.heap.size, 0, none⟩ (.string ⟨#[]⟩)).setCell ⟨w.heap.size, 1, none⟩ (.bool false)).setCell ⟨w.heap.size, 2, none⟩ (.int .i64 0)).setCell ⟨w.heap.size, 3, none⟩ (.slice none 0 0)).setCell ⟨w.heap.size, 4, none⟩ (.slice none 0 0)).setCell ⟨w.heap.size, 5, none⟩ (.slice none 0 0)).setCell ⟨w.heap.size, 6, none⟩ (.slice none 0 0)) (w.heap.size) 28 #[.string ⟨#[]⟩, .bool false, .int .i64 0, .slice none 0 0, .slice none 0 0, .slice none 0 0, .slice none 0 0]) := Lib.hid (by have := OY6.out.put 6 (.slice none 0 0); simpa using this)
    have BY7 := Lib.hid (BY6.out.setCell (p := ⟨w.heap.size, 6, none⟩) (Nat.le_refl _) (.slice none 0 0))
    have RD0 : Hid (Ob w4.drew w1.heap.size 117 #[.slice (some ⟨b0, o0, none⟩) n0 c0, .int .i64 (z.met : Int), .int .i64 z.err, .int .i64 z.at_]) := Lib.hid R5.out
    have RY1 := Lib.hid (RD0.out.keep (Below.heap_setCell w4.drew ⟨w.heap.size, 0, none⟩ (.string ⟨#[]⟩) _ (by show w1.heap.size ≠ w.heap.size; have := HG.out; omega)))
    have RY2 := Lib.hid (RY1.out.keep (Below.heap_setCell (w4.drew.setCell ⟨w.heap.size, 0, none⟩ (.string ⟨#[]⟩)) ⟨w.heap.size, 1, none⟩ (.bool false) _ (by show w1.heap.size ≠ w.heap.size; have := HG.out; omega)))
    have RY3 := Lib.hid (RY2.out.keep (Below.heap_setCell ((w4.drew.setCell ⟨w.heap.size, 0, none⟩ (.string ⟨#[]⟩)).setCell ⟨w.heap.size, 1, none⟩ (.bool false)) ⟨w.heap.size, 2, none⟩ (.int .i64 0) _ (by show w1.heap.size ≠ w.heap.size; have := HG.out; omega)))
    have RY4 := Lib.hid (RY3.out.keep (Below.heap_setCell (((w4.drew.setCell ⟨w.heap.size, 0, none⟩ (.string ⟨#[]⟩)).setCell ⟨w.heap.size, 1, none⟩ (.bool false)).setCell ⟨w.heap.size, 2, none⟩ (.int .i64 0)) ⟨w.heap.size, 3, none⟩ (.slice none 0 0) _ (by show w1.heap.size ≠ w.heap.size; have := HG.out; omega)))
    have RY5 := Lib.hid (RY4.out.keep (Below.heap_setCell ((((w4.drew.setCell ⟨w.heap.size, 0, none⟩ (.string ⟨#[]⟩)).setCell ⟨w.heap.size, 1, none⟩ (.bool false)).setCell ⟨w.heap.size, 2, none⟩ (.int .i64 0)).setCell ⟨w.heap.size, 3, none⟩ (.slice none 0 0)) ⟨w.heap.size, 4, none⟩ (.slice none 0 0) _ (by show w1.heap.size ≠ w.heap.size; have := HG.out; omega)))
    have RY6 := Lib.hid (RY5.out.keep (Below.heap_setCell (((((w4.drew.setCell ⟨w.heap.size, 0, none⟩ (.string ⟨#[]⟩)).setCell ⟨w.heap.size, 1, none⟩ (.bool false)).setCell ⟨w.heap.size, 2, none⟩ (.int .i64 0)).setCell ⟨w.heap.size, 3, none⟩ (.slice none 0 0)).setCell ⟨w.heap.size, 4, none⟩ (.slice none 0 0)) ⟨w.heap.size, 5, none⟩ (.slice none 0 0) _ (by show w1.heap.size ≠ w.heap.size; have := HG.out; omega)))
    have RY7 := Lib.hid (RY6.out.keep (Below.heap_setCell ((((((w4.drew.setCell ⟨w.heap.size, 0, none⟩ (.string ⟨#[]⟩)).setCell ⟨w.heap.size, 1, none⟩ (.bool false)).setCell ⟨w.heap.size, 2, none⟩ (.int .i64 0)).setCell ⟨w.heap.size, 3, none⟩ (.slice none 0 0)).setCell ⟨w.heap.size, 4, none⟩ (.slice none 0 0)).setCell ⟨w.heap.size, 5, none⟩ (.slice none 0 0)) ⟨w.heap.size, 6, none⟩ (.slice none 0 0) _ (by show w1.heap.size ≠ w.heap.size; have := HG.out; omega)))
    have RYc2 := RY7.out.cell 2
    have RYc3 := RY7.out.cell 3
    have q2d : w4.drew.cell? ⟨w1.heap.size, 2, none⟩ = some (.int .i64 z.err) := q2
    have q3d : w4.drew.cell? ⟨w1.heap.size, 3, none⟩ = some (.int .i64 z.at_) := q3
    go_region
    have OF := Lib.hid (Ob.drew9 OZ7.out)
    have BF : Hid (Below w.heap.size w ((((((((w4.setCell ⟨w.heap.size, 0, none⟩ (.string ⟨#[]⟩)).setCell ⟨w.heap.size, 1, none⟩ (.bool false)).setCell ⟨w.heap.size, 2, none⟩ (.int .i64 0)).setCell ⟨w.heap.size, 3, none⟩ (.slice none 0 0)).setCell ⟨w.heap.size, 4, none⟩ (.slice none 0 0)).setCell ⟨w.heap.size, 5, none⟩ (.slice none 0 0)).setCell ⟨w.heap.size, 6, none⟩ (.slice none 0 0)).drew)) := Lib.hid (below_drewN BZ7.out 1)
    obtain ⟨w9, hw9⟩ : ∃ w9, w9 = (((((((w4.setCell ⟨w.heap.size, 0, none⟩ (.string ⟨#[]⟩)).setCell ⟨w.heap.size, 1, none⟩ (.bool false)).setCell ⟨w.heap.size, 2, none⟩ (.int .i64 0)).setCell ⟨w.heap.size, 3, none⟩ (.slice none 0 0)).setCell ⟨w.heap.size, 4, none⟩ (.slice none 0 0)).setCell ⟨w.heap.size, 5, none⟩ (.slice none 0 0)).setCell ⟨w.heap.size, 6, none⟩ (.slice none 0 0)).drew := ⟨_, rfl⟩
    rw [← hw9] at OF BF ⊢
    clear hw9
    go_wp2_with fail
    try simp only [Exit.inBlock, Exit.then]
    refine bodyPost_ret (policy_ret3 rfl rfl rfl rfl OF.out rfl) rfl ?_
    rw [← HF.out]
    exact ⟨_, rfl, BF.out, noPol_of _ _⟩

theorem parse_any (s : ByteArray) (hs : s.size ≤ maxLen) : Calls Tryz.prog 29 #[.string s] w (ParseP s w) := by
  by_cases h : 4096 < s.size
  · exact parse_big s h hs
  · cases hl : lexB s.data.toList 0 with
    | error p => exact parse_bad s (by omega) hl
    | ok ts => exact parse_ok s (by omega) hl
end
end Go.Proofs.YtadjfkgnoklmiaaGreat
/- What is read of a text, as the laws take it. -/
namespace Go.Proofs.YtadjfkgnoklmiaaGreat
set_option linter.unusedVariables false
open Go.RowKit

theorem parse_is {w : World} {s : ByteArray} {p : Pol} {e i : Int} (h : parseR s = (p, e, i)) (hs : s.size ≤ maxLen) : Calls Tryz.prog 29 #[.string s] w fun x w' => ∃ y, x = .returned (.tuple #[y, .int .i64 e, .int .i64 i]) ∧ Below w.heap.size w w' ∧ PolOf w w' 5 p y := by
  have := parse_any (w := w) s hs
  unfold ParseP at this
  rw [h] at this
  exact this
theorem PolAt.in_ {w : World} {R : Nat → Prop} {d : Nat} {p : Pol} {A1 A2 A3 A4 : Option Addr} {n1 n2 n3 n4 c1 c2 c3 c4 : Nat} (h : PolAt w R (d + 1) [.string p.id, .bool p.set, .int .i64 p.alg, .slice A1 n1 c1, .slice A2 n2 c2, .slice A3 n3 c3, .slice A4 n4 c4] p) : PolIn w R p A1 n1 c1 A2 n2 c2 A3 n3 c3 A4 n4 c4 := by
  obtain ⟨B1, m1, d1, B2, m2, d2, B3, m3, d3, B4, m4, d4, e, h0, h00, h1, h2, h3, h4⟩ := h
  simp at e
  obtain ⟨⟨rfl, rfl, rfl⟩, ⟨rfl, rfl, rfl⟩, ⟨rfl, rfl, rfl⟩, ⟨rfl, rfl, rfl⟩⟩ := e
  exact ⟨⟨h0, h00⟩, h1, h2, ⟨d, h3⟩, h4⟩
end Go.Proofs.YtadjfkgnoklmiaaGreat
/- Chapter 15's runs, walked. -/
namespace Go.Proofs.YtadjfkgnoklmiaaGreat
set_option linter.unusedVariables false
open Go.RowKit

set_option maxRecDepth 100000 in
set_option maxHeartbeats 3200000 in
theorem vread_any {w : World} {s : ByteArray} {p : Pol} {e i : Int} (h : parseR s = (p, e, i)) (hs : s.size ≤ maxLen) :
    Calls Tryz.prog 17 #[.string s] w fun x w' => ∃ A1 n1 c1 A2 n2 c2 A3 n3 c3 A4 n4 c4, x = .returned (.agg #[.string p.id, .bool p.set, .int .i64 p.alg, .slice A1 n1 c1, .slice A2 n2 c2, .slice A3 n3 c3, .slice A4 n4 c4]) ∧ Below w.heap.size w w' ∧
      PolIn w' (fun _ => True) p A1 n1 c1 A2 n2 c2 A3 n3 c3 A4 n4 c4 := by
  have HP := Lib.hid (fun W => parse_is (w := W) h hs)
  have OB := Lib.hid (Ob.made w 28 #[.string ⟨#[]⟩, .bool false, .int .i64 0, .slice none 0 0, .slice none 0 0, .slice none 0 0, .slice none 0 0])
  have D1 := Lib.hid ((Below.refl w.heap.size w).alloc (Nat.le_refl _) (.cells #[.string ⟨#[]⟩, .bool false, .int .i64 0, .slice none 0 0, .slice none 0 0, .slice none 0 0, .slice none 0 0] 28))
  clear h hs
  go_enter Tryz.func17, Tryz.ntmps17
  go_wp2_with fail
  refine (HP.out _).mono ?_
  rintro x w1 ⟨y, rfl, hb, A1, n1, c1, A2, n2, c2, A3, n3, c3, A4, n4, c4, rfl, hp0⟩
  have hp := PolAt.in_ hp0
  clear hp0
  have D2 := below_step D1.out hb
  have OZ := OB.out.below hb OB.out.lt
  have hlt : w.heap.size < w1.heap.size := by have := hb.size; rw [size_al] at this; omega
  clear hb
  have OZ2 := OZ.keep (w' := w1.alloc (.cells #[.string p.id, .bool p.set, .int .i64 p.alg, .slice A1 n1 c1, .slice A2 n2 c2, .slice A3 n3 c3, .slice A4 n4 c4] 28)) (Below.heap_alloc _ _ _ hlt)
  have OP := Ob.made w1 28 #[.string p.id, .bool p.set, .int .i64 p.alg, .slice A1 n1 c1, .slice A2 n2 c2, .slice A3 n3 c3, .slice A4 n4 c4]
  have P7 := put7_ob OZ2 (.string p.id) (.bool p.set) (.int .i64 p.alg) (.slice A1 n1 c1) (.slice A2 n2 c2) (.slice A3 n3 c3) (.slice A4 n4 c4)
  have PO := put7_only (V := w1.alloc (.cells #[.string p.id, .bool p.set, .int .i64 p.alg, .slice A1 n1 c1, .slice A2 n2 c2, .slice A3 n3 c3, .slice A4 n4 c4] 28)) (P := w.heap.size) (.string p.id) (.bool p.set) (.int .i64 p.alg) (.slice A1 n1 c1) (.slice A2 n2 c2) (.slice A3 n3 c3) (.slice A4 n4 c4)
  have DF : Below w.heap.size w (put7W (w1.alloc (.cells #[.string p.id, .bool p.set, .int .i64 p.alg, .slice A1 n1 c1, .slice A2 n2 c2, .slice A3 n3 c3, .slice A4 n4 c4] 28)) w.heap.size (.string p.id) (.bool p.set) (.int .i64 p.alg) (.slice A1 n1 c1) (.slice A2 n2 c2) (.slice A3 n3 c3) (.slice A4 n4 c4)) :=
    (D2.alloc (by omega) _).trans (PO.below (by rw [size_al]; omega) (Nat.le_refl _))
  have HPN : PolIn (w1.alloc (.cells #[.string p.id, .bool p.set, .int .i64 p.alg, .slice A1 n1 c1, .slice A2 n2 c2, .slice A3 n3 c3, .slice A4 n4 c4] 28)) (fun b => b ≠ w.heap.size) p A1 n1 c1 A2 n2 c2 A3 n3 c3 A4 n4 c4 :=
    (hp.then_ ((Below.refl _ _).alloc (Nat.le_refl _) _)).keep (Kept.refl _ _) (fun b hb _ => by have h1 := hb; simp only [size_al] at h1; show b ≠ _; omega)
  have HPF := HPN.keep (R' := fun _ => True) (PO.kept9 (fun b hb => hb)) (fun _ _ _ => trivial)
  simp only [put7W, put1W, put2W, put3W, put4W, put5W, put6W] at P7 PO DF HPF
  have P7' := Lib.hid P7
  have DF' := Lib.hid DF
  have HPF' := Lib.hid HPF
  have q0 := OP.cell 0
  have q1 := OP.cell 1
  have q2 := OP.cell 2
  have q3 := OP.cell 3
  have q4 := OP.cell 4
  have q5 := OP.cell 5
  have q6 := OP.cell 6
  have z0 := OZ2.cell 0
  have z1 := OZ2.cell 1
  have z2 := OZ2.cell 2
  have z3 := OZ2.cell 3
  have z4 := OZ2.cell 4
  have z5 := OZ2.cell 5
  have z6 := OZ2.cell 6
  have f0 := OZ2.frozen 0
  have f1 := OZ2.frozen 1
  have f2 := OZ2.frozen 2
  have f3 := OZ2.frozen 3
  have f4 := OZ2.frozen 4
  have f5 := OZ2.frozen 5
  have f6 := OZ2.frozen 6
  clear OZ OZ2 OP P7 PO DF HPF HPN hp D2 hlt
  go_wp2_with fail
  try simp only [Exit.inBlock, Exit.then]
  refine bodyPost_ret (pol_ret rfl rfl P7'.out) rfl ?_
  exact ⟨A1, n1, c1, A2, n2, c2, A3, n3, c3, A4, n4, c4, rfl, DF'.out, HPF'.out⟩

theorem vr_short : ∀ x ∈ polA vrP, ShortA x := by
  intro x hx
  have h : x ∈ atomsP vrP := mem_atoms.2 hx
  rw [vr_atoms] at h
  simp at h
  rcases h with rfl | rfl
  · exact ⟨⟨by decide, by decide⟩, by decide, fun y hy => by cases hy⟩
  · exact ⟨⟨by decide, by decide⟩, by decide, fun y hy => by simp [conA] at hy; subst hy; exact ⟨by decide, by decide⟩⟩
theorem vr_e : ofE vrP = 0 := by
  unfold ofE
  rw [if_neg (by rw [vr_right]; simp), if_neg]
  rw [atoms_few (by rw [vr_atoms]; decide), vr_atoms]
  decide
theorem vr_l : ofL vrP = [matA vrM, conA [vrN]] := by unfold ofL; rw [if_pos vr_e, vr_atoms]
theorem vrM_ok : vrM.ok := by decide +kernel
theorem vrN_ok : vrN.ok := by decide +kernel
theorem vr_lit {W : World} {g : Nat} (h : Nds W (fun _ => True) (some ⟨g, 0, none⟩) 1 1 [vrN]) :
    Ats (W.alloc (.cells #[.int .i64 3, .string ⟨#[120]⟩, .bool false, .int .i64 1, .int .i64 2, .int .i64 1, .string ⟨#[]⟩, .slice none 0 0, .int .i64 0, .string ⟨#[]⟩, .bool false, .int .i64 0, .int .i64 0, .int .i64 0, .string ⟨#[]⟩, .slice (some ⟨g, 0, none⟩) 1 1] 45)) (fun _ => True) (some ⟨W.heap.size, 0, none⟩) 2 2 [matA vrM, conA [vrN]] := by
  have b1 : Below W.heap.size W (W.alloc (.cells #[.int .i64 3, .string ⟨#[120]⟩, .bool false, .int .i64 1, .int .i64 2, .int .i64 1, .string ⟨#[]⟩, .slice none 0 0, .int .i64 0, .string ⟨#[]⟩, .bool false, .int .i64 0, .int .i64 0, .int .i64 0, .string ⟨#[]⟩, .slice (some ⟨g, 0, none⟩) 1 1] 45)) := (Below.refl _ _).alloc (Nat.le_refl _) _
  have h2 := h.keep (Kept.all b1 _) (fun _ h _ => h)
  have := Rw.lit (k := 8) (P := AtmAt (W.alloc (.cells #[.int .i64 3, .string ⟨#[120]⟩, .bool false, .int .i64 1, .int .i64 2, .int .i64 1, .string ⟨#[]⟩, .slice none 0 0, .int .i64 0, .string ⟨#[]⟩, .bool false, .int .i64 0, .int .i64 0, .int .i64 0, .string ⟨#[]⟩, .slice (some ⟨g, 0, none⟩) 1 1] 45)) (fun _ => True)) (R := fun _ => True) W 45
    (fun a : Atm => [.int .i64 a.m.a.cat, .string a.m.a.name, .bool a.m.a.must, .int .i64 a.m.op, .int .i64 a.m.v.k, .int .i64 a.m.v.n, .string a.m.v.s, match a.c with | [] => .slice none 0 0 | _ => .slice (some ⟨g, 0, none⟩) 1 1]) [matA vrM, conA [vrN]] (n := 2) rfl (by omega) trivial (fun _ _ => rfl) (fun x hx => by
      simp at hx
      rcases hx with rfl | rfl
      · exact ⟨none, 0, 0, rfl, vrM_ok, Rw.nil_ _ _ _ _⟩
      · exact ⟨_, _, _, rfl, zeroM_ok, h2⟩)
  exact this
set_option maxRecDepth 100000 in
set_option maxHeartbeats 3200000 in
theorem vruns_any (w : World) : Calls Tryz.prog 7 #[] w fun e w' => e = .returned (.bool true) ∧ Below w.heap.size w w' := by
  have HRD := Lib.hid (vread_any (w := w) vr_run (by decide +kernel))
  go_enter Tryz.func7, Tryz.ntmps7
  go_wp2_with fail
  refine HRD.out.mono ?_
  rintro x w1 ⟨A1, n1, c1, A2, n2, c2, A3, n3, c3, A4, n4, c4, rfl, hb, hp⟩
  have B1 := Lib.hid hb
  have VO := Lib.hid (vof_any hp vr_short)
  rw [vr_e, vr_l] at VO
  clear hb hp HRD
  go_wp2_with fail
  refine VO.out.mono ?_
  rintro x w2 ⟨A', n', c', rfl, hb, hl⟩
  have B2 := Lib.hid (below_step B1.out hb)
  have OM := Lib.hid (Ob.made w2 42 #[.int .i64 3, .string ⟨#[120]⟩, .bool false, .int .i64 1, .int .i64 2, .int .i64 1, .string ⟨#[]⟩])
  have HL := Lib.hid hl
  clear hb hl VO
  have q := OM.out.c7v
  go_upto_region 4 with fail
  have e3 : (w2.alloc (.cells #[.int .i64 3, .string ⟨#[120]⟩, .bool false, .int .i64 1, .int .i64 2, .int .i64 1, .string ⟨#[]⟩] 42)).heap.size = w2.heap.size + 1 := size_al _ _
  have e4 : ((w2.alloc (.cells #[.int .i64 3, .string ⟨#[120]⟩, .bool false, .int .i64 1, .int .i64 2, .int .i64 1, .string ⟨#[]⟩] 42)).alloc (.cells #[.int .i64 1, .int .i64 1, .int .i64 1, .string ⟨#[]⟩, .int .i64 0, .string ⟨#[]⟩, .bool false] 72)).heap.size = w2.heap.size + 1 + 1 := by rw [size_al, e3]
  have b3 : Below w2.heap.size w2 (w2.alloc (.cells #[.int .i64 3, .string ⟨#[120]⟩, .bool false, .int .i64 1, .int .i64 2, .int .i64 1, .string ⟨#[]⟩] 42)) := (Below.refl _ _).alloc (Nat.le_refl _) _
  have b4 : Below w2.heap.size w2 ((w2.alloc (.cells #[.int .i64 3, .string ⟨#[120]⟩, .bool false, .int .i64 1, .int .i64 2, .int .i64 1, .string ⟨#[]⟩] 42)).alloc (.cells #[.int .i64 1, .int .i64 1, .int .i64 1, .string ⟨#[]⟩, .int .i64 0, .string ⟨#[]⟩, .bool false] 72)) := b3.alloc (by rw [e3]; omega) _
  have k4 : Below (w2.alloc (.cells #[.int .i64 3, .string ⟨#[120]⟩, .bool false, .int .i64 1, .int .i64 2, .int .i64 1, .string ⟨#[]⟩] 42)).heap.size (w2.alloc (.cells #[.int .i64 3, .string ⟨#[120]⟩, .bool false, .int .i64 1, .int .i64 2, .int .i64 1, .string ⟨#[]⟩] 42)) ((w2.alloc (.cells #[.int .i64 3, .string ⟨#[120]⟩, .bool false, .int .i64 1, .int .i64 2, .int .i64 1, .string ⟨#[]⟩] 42)).alloc (.cells #[.int .i64 1, .int .i64 1, .int .i64 1, .string ⟨#[]⟩, .int .i64 0, .string ⟨#[]⟩, .bool false] 72)) := (Below.refl _ _).alloc (Nat.le_refl _) _
  have OM4 := Lib.hid (OM.out.below k4 OM.out.lt)
  have hn : Nds ((w2.alloc (.cells #[.int .i64 3, .string ⟨#[120]⟩, .bool false, .int .i64 1, .int .i64 2, .int .i64 1, .string ⟨#[]⟩] 42)).alloc (.cells #[.int .i64 1, .int .i64 1, .int .i64 1, .string ⟨#[]⟩, .int .i64 0, .string ⟨#[]⟩, .bool false] 72)) (fun _ => True) (some ⟨w2.heap.size + 1, 0, none⟩) 1 1 [vrN] := by
    have := Nds.lit (w2.alloc (.cells #[.int .i64 3, .string ⟨#[120]⟩, .bool false, .int .i64 1, .int .i64 2, .int .i64 1, .string ⟨#[]⟩] 42)) (R := fun _ => True) [vrN] (n := 1) rfl (by omega) trivial (fun y hy => by simp at hy; subst hy; exact vrN_ok)
    rw [e3] at this
    exact this
  have hlit := vr_lit hn
  have k5 : Below ((w2.alloc (.cells #[.int .i64 3, .string ⟨#[120]⟩, .bool false, .int .i64 1, .int .i64 2, .int .i64 1, .string ⟨#[]⟩] 42)).alloc (.cells #[.int .i64 1, .int .i64 1, .int .i64 1, .string ⟨#[]⟩, .int .i64 0, .string ⟨#[]⟩, .bool false] 72)).heap.size ((w2.alloc (.cells #[.int .i64 3, .string ⟨#[120]⟩, .bool false, .int .i64 1, .int .i64 2, .int .i64 1, .string ⟨#[]⟩] 42)).alloc (.cells #[.int .i64 1, .int .i64 1, .int .i64 1, .string ⟨#[]⟩, .int .i64 0, .string ⟨#[]⟩, .bool false] 72)) (((w2.alloc (.cells #[.int .i64 3, .string ⟨#[120]⟩, .bool false, .int .i64 1, .int .i64 2, .int .i64 1, .string ⟨#[]⟩] 42)).alloc (.cells #[.int .i64 1, .int .i64 1, .int .i64 1, .string ⟨#[]⟩, .int .i64 0, .string ⟨#[]⟩, .bool false] 72)).alloc (.cells #[.int .i64 3, .string ⟨#[120]⟩, .bool false, .int .i64 1, .int .i64 2, .int .i64 1, .string ⟨#[]⟩, .slice none 0 0, .int .i64 0, .string ⟨#[]⟩, .bool false, .int .i64 0, .int .i64 0, .int .i64 0, .string ⟨#[]⟩, .slice (some ⟨w2.heap.size + 1, 0, none⟩) 1 1] 45)) := (Below.refl _ _).alloc (Nat.le_refl _) _
  rw [e4] at hlit
  have SA := Lib.hid (vsame_any (HL.out.keep (Kept.all (below_step b4 k5) _) (fun _ h _ => h)) hlit)
  have B5 := Lib.hid (below_step B2.out (below_step b4 k5))
  have cM := OM4.out.c7v
  clear e3 e4 b3 b4 k4 hn hlit k5 OM HL q
  go_wp2_with fail
  refine SA.out.mono ?_
  rintro e w5 ⟨rfl, hb⟩
  have B6 := Lib.hid (below_step B5.out hb)
  clear hb
  go_wp2_with fail
  go_ret
  exact ⟨rfl, B6.out⟩
theorem varsRuns_walk (w : World) : Calls Tryz.prog 7 #[] w fun e w' => e = .returned (.bool true) ∧ Below w.heap.size w w' := vruns_any w
end Go.Proofs.YtadjfkgnoklmiaaGreat
/- Lists of values of the call's own: append. -/
namespace Go.Proofs.YtadjfkgnoklmiaaGreat
set_option linter.unusedVariables false
open Go.RowKit

def cells3 : List Vl → List Value
  | [] => []
  | v :: r => .int .i64 v.k :: .int .i64 v.n :: .string v.s :: cells3 r
theorem cells3_len (l : List Vl) : (cells3 l).length = l.length * 3 := by
  induction l with
  | nil => rfl
  | cons v r ih => simp [cells3, ih]; omega
theorem cells3_app (l m : List Vl) : cells3 (l ++ m) = cells3 l ++ cells3 m := by
  induction l with
  | nil => rfl
  | cons v r ih => simp [cells3, ih]
theorem cells3_one {l : List Vl} : ∀ v ∈ cells3 l, v.oneCell' = true := by
  induction l with
  | nil => intro v hv; cases hv
  | cons x r ih =>
    intro v hv
    simp only [cells3, List.mem_cons] at hv
    rcases hv with rfl | rfl | rfl | hv
    · rfl
    · rfl
    · rfl
    · exact ih v hv
theorem cells3_at {l : List Vl} {j : Nat} {v : Vl} (h : l[j]? = some v) : (cells3 l)[j * 3]? = some (.int .i64 v.k) ∧ (cells3 l)[j * 3 + 1]? = some (.int .i64 v.n) ∧ (cells3 l)[j * 3 + 2]? = some (.string v.s) := by
  induction l generalizing j with
  | nil => simp at h
  | cons x r ih =>
    cases j with
    | zero => simp at h; subst h; exact ⟨rfl, rfl, rfl⟩
    | succ j =>
      simp at h
      obtain ⟨a, b, c⟩ := ih h
      have e : (j + 1) * 3 = j * 3 + 1 + 1 + 1 := by omega
      rw [e]
      exact ⟨by simpa [cells3] using a, by simpa [cells3] using b, by simpa [cells3] using c⟩
theorem cells3_of {l : List Vl} {i : Nat} {u : Value} (h : (cells3 l)[i]? = some u) : ∃ j v, l[j]? = some v ∧ (i = j * 3 ∧ u = .int .i64 v.k ∨ i = j * 3 + 1 ∧ u = .int .i64 v.n ∨ i = j * 3 + 2 ∧ u = .string v.s) := by
  have hi : i < l.length * 3 := by rw [← cells3_len]; exact (List.getElem?_eq_some_iff.1 h).1
  have hj : i / 3 < l.length := by omega
  obtain ⟨a, b, c⟩ := cells3_at (List.getElem?_eq_getElem hj)
  refine ⟨i / 3, l[i / 3], List.getElem?_eq_getElem hj, ?_⟩
  have hm : i = i / 3 * 3 ∨ i = i / 3 * 3 + 1 ∨ i = i / 3 * 3 + 2 := by omega
  rcases hm with e | e | e
  · rw [← e, h] at a; exact .inl ⟨e, Option.some.inj a⟩
  · rw [← e, h] at b; exact .inr (.inl ⟨e, Option.some.inj b⟩)
  · rw [← e, h] at c; exact .inr (.inr ⟨e, Option.some.inj c⟩)

theorem valinfo : (Tryz.prog.info? 40).map (fun i => (i.zero, i.size, i.bytes)) = some (some (.agg #[.int .i64 0, .int .i64 0, .string ⟨#[]⟩]), 3, 32) := by kernel_rfl
theorem val_parts : ∃ i, Tryz.prog.info? 40 = some i ∧ i.zero = some (.agg #[.int .i64 0, .int .i64 0, .string ⟨#[]⟩]) ∧ i.size = 3 ∧ i.bytes = 32 := by
  have h := valinfo
  cases hi : Tryz.prog.info? 40 with
  | none => rw [hi] at h; cases h
  | some i =>
    rw [hi] at h
    simp only [Option.map_some, Option.some.injEq, Prod.mk.injEq] at h
    exact ⟨i, rfl, h.1, h.2.1, h.2.2⟩

theorem Vs.of_own {w : World} {base n c : Nat} {A : Option Addr} {l : List Vl} (h : w.ownsRow base 40 3 (.slice A n c) n (cells3 l)) (hok : ∀ v ∈ l, v.ok) : Vs w w.heap.size A n c l := by
  have hl : l.length = n := by have := h.1; rw [cells3_len] at this; omega
  rcases h.2 with ⟨hv, hn⟩ | ⟨g, cap, cur, hv, hb, hg, hnc, hcm, hcs, ht⟩
  · injection hv with h1 h2 h3
    subst h1 h2 h3
    exact ⟨hl, Nat.le_refl _, by simp [maxLen], .inl rfl, hok⟩
  · injection hv with h1 h2 h3
    subst h1 h3
    refine ⟨hl, hnc, hcm, .inr ⟨g, 0, rfl, ?_, fun j v hv => ?_⟩, hok⟩
    · rcases Nat.lt_or_ge g w.heap.size with hlt | hge
      · exact hlt
      · rw [Array.getElem?_eq_none hge] at hg; cases hg
    · have add : ∀ j : Nat, (⟨g, 0, none⟩ : Addr).add j = ⟨g, 0 + j, none⟩ := fun j => by by_cases hj : j = 0 <;> simp [Addr.add, hj]
      obtain ⟨a, b, c⟩ := cells3_at hv
      have h1 := h.cells (g := g) rfl (j * 3) _ a
      have h2 := h.cells (g := g) rfl (j * 3 + 1) _ b
      have h3 := h.cells (g := g) rfl (j * 3 + 2) _ c
      rw [add] at h1 h2 h3
      exact ⟨h1, h2, h3⟩

theorem append_vals {w : World} {base B n c m c2 ty : Nat} {A A2 : Option Addr} {xs ys : List Vl} (h : w.ownsRow base 40 3 (.slice A n c) n (cells3 xs)) (hy : Vs w B A2 m c2 ys) (hn : n + m ≤ 1000000) (hbase : base ≤ w.heap.size) :
    ∃ A' c' w', (Builtin.append_ #[66, 66] ty #[.slice A n c, .slice A2 m c2]).run Tryz.prog w = .ok (.slice A' (n + m) c') w' ∧
      w'.ownsRow base 40 3 (.slice A' (n + m) c') (n + m) (cells3 (xs ++ ys)) ∧ Below base w w' ∧ w.grownBy w' (Value.slice A n c).ownBlock := by
  obtain ⟨i, hi, hz, hs, hb⟩ := val_parts
  have hlen := hy.1
  have fin : ∀ (ad : Addr), A2 = some ad → (∀ j u, (cells3 ys)[j]? = some u → w.cell? (ad.add j) = some u) → ∃ A' c' w', (Builtin.append_ #[66, 66] ty #[.slice A n c, .slice A2 m c2]).run Tryz.prog w = .ok (.slice A' (n + m) c') w' ∧
      w'.ownsRow base 40 3 (.slice A' (n + m) c') (n + m) (cells3 (xs ++ ys)) ∧ Below base w w' ∧ w.grownBy w' (Value.slice A n c).ownBlock := by
    rintro ad rfl hc
    obtain ⟨v', w', hrun, h2, h3, h4⟩ := run_append_own (P := Tryz.prog) w base 66 ty 40 i _ 3 32 Tryz.underlying66 hi hz hs hb rfl (by omega) (.slice A n c) n (cells3 xs) h
      ad m c2 (cells3 ys) (by rw [cells3_len, hlen]) hc cells3_one (by unfold maxLen; omega) (by omega) hbase
    have hform : ∃ A' c', v' = .slice A' (n + m) c' := by
      rcases h2.2 with ⟨hv, hz⟩ | ⟨g, cap, cur, hv, _⟩
      · exact ⟨_, _, by rw [hv, hz]⟩
      · exact ⟨_, _, hv⟩
    obtain ⟨A', c', rfl⟩ := hform
    exact ⟨A', c', w', hrun, by rw [cells3_app]; exact h2, (Below.refl base w).grown h3 hbase (fun k hk => (h.lt k hk).1), h3⟩
  rcases hy.2.2.2.1 with h0 | ⟨b, o, e, hb', hc⟩
  · subst h0
    obtain rfl : ys = [] := List.eq_nil_of_length_eq_zero hlen
    rcases A2 with _ | ad
    · exact ⟨A, c, w, append_nil_src Tryz.underlying66 hi h, by simpa using h, Below.refl _ _, ⟨rfl, rfl, rfl, Nat.le_refl _, fun _ _ _ => rfl⟩⟩
    · exact fin ad rfl (fun j u hu => by simp [cells3] at hu)
  · refine fin _ e fun j u hu => ?_
    have add : ∀ j : Nat, (⟨b, o, none⟩ : Addr).add j = ⟨b, o + j, none⟩ := fun j => by by_cases hj : j = 0 <;> simp [Addr.add, hj]
    rw [add]
    obtain ⟨i', v, hv, hcase⟩ := cells3_of hu
    obtain ⟨c0, c1, c2⟩ := hc i' v hv
    rcases hcase with ⟨rfl, rfl⟩ | ⟨rfl, rfl⟩ | ⟨rfl, rfl⟩
    · exact c0
    · exact c1
    · exact c2

theorem Vs.keep1 {w w' : World} {B n c b o : Nat} {l : List Vl} (h : Vs w B (some ⟨b, o, none⟩) n c l) (hk : w'.heap[b]? = w.heap[b]?) : Vs w' B (some ⟨b, o, none⟩) n c l := by
  obtain ⟨h1, h2, h3, h4, h5⟩ := h
  refine ⟨h1, h2, h3, ?_, h5⟩
  rcases h4 with h4 | ⟨b', o', e, hb, hc⟩
  · exact .inl h4
  · injection e with e
    injection e with e1 e2
    subst e1 e2
    refine .inr ⟨b, o, rfl, hb, fun j v hv => ?_⟩
    obtain ⟨a1, a2, a3⟩ := hc j v hv
    exact ⟨(World.cell?_of_block hk).trans a1, (World.cell?_of_block hk).trans a2, (World.cell?_of_block hk).trans a3⟩

theorem own_then {w w' : World} {base size n : Nat} {e : TypeId} {v : Value} {xs : List Value} (h : w.ownsRow base e size v n xs) (hb : Below w.heap.size w w') : w'.ownsRow base e size v n xs :=
  h.kept (row := none) ⟨hb.os, hb.tape, hb.output, hb.size, fun k hk _ => hb.block k hk⟩ (by by_cases hv : v.ownBlock = none; exact .inl hv; exact .inr hv)
end Go.Proofs.YtadjfkgnoklmiaaGreat
/- Requests in memory: rows of attributes, each with its bag. -/
namespace Go.Proofs.YtadjfkgnoklmiaaGreat
set_option linter.unusedVariables false
open Go.RowKit

def Vls (w : World) (R : Nat → Prop) := Rw 3 (fun vs (v : Vl) => vs = v.cells ∧ v.ok) w R
def GivAt (w : World) (R : Nat → Prop) (vs : List Value) (g : Giv) : Prop := ∃ A n c, vs = [.int .i64 g.cat, .string g.name, .slice A n c] ∧ g.ok ∧ Vls w R A n c g.bag
def Gvs (w : World) (R : Nat → Prop) := Rw 3 (GivAt w R) w R
section
variable {w w' : World} {R R' : Nat → Prop} {A : Option Addr} {n c : Nat}
theorem Vls.keep {l : List Vl} (h : Vls w R A n c l) (hk : Kept R w w') (hR : ∀ b, R b → b < w.heap.size → R' b) : Vls w' R' A n c l := Rw.keep h hk hR fun _ _ _ h => h
theorem GivAt.keep {vs : List Value} {g : Giv} (h : GivAt w R vs g) (hk : Kept R w w') (hR : ∀ b, R b → b < w.heap.size → R' b) : GivAt w' R' vs g := by
  obtain ⟨A, n, c, e, h0, h1⟩ := h
  exact ⟨A, n, c, e, h0, h1.keep hk hR⟩
theorem Gvs.keep {l : List Giv} (h : Gvs w R A n c l) (hk : Kept R w w') (hR : ∀ b, R b → b < w.heap.size → R' b) : Gvs w' R' A n c l := Rw.keep h hk hR fun _ _ _ h => h.keep hk hR
theorem GivAt.one {w : World} {R : Nat → Prop} (vs : List Value) (g : Giv) (h : GivAt w R vs g) : ∀ v ∈ vs, v.oneCell' = true := by
  obtain ⟨A, n, c, rfl, _⟩ := h
  intro v hv
  simp at hv
  rcases hv with rfl | rfl | rfl <;> rfl
theorem Vl.one (v : Vl) : ∀ x ∈ v.cells, x.oneCell' = true := by
  intro x hx
  simp [Vl.cells] at hx
  rcases hx with rfl | rfl | rfl <;> rfl
theorem Vls.oks {l : List Vl} (h : Vls w R A n c l) : ∀ v ∈ l, v.ok := Rw.all h
theorem Vls.at_ {l : List Vl} (h : Vls w R A n c l) {j : Nat} (hj : j < n) : ∃ b o v, A = some ⟨b, o, none⟩ ∧ R b ∧ b < w.heap.size ∧ l[j]? = some v ∧ v.ok ∧
    (w.cell? ⟨b, o + j * 3, none⟩ = some (.int .i64 v.k) ∧ w.cell? ⟨b, o + j * 3 + 1, none⟩ = some (.int .i64 v.n) ∧ w.cell? ⟨b, o + j * 3 + 2, none⟩ = some (.string v.s)) := by
  obtain ⟨b, o, m, vs, e, hb, hlt, hm, hl, hv, rfl, hok⟩ := Rw.at_ h hj
  exact ⟨b, o, m, e, hb, hlt, hm, hok, hv 0 _ rfl, hv 1 _ rfl, hv 2 _ rfl⟩
theorem Gvs.at_ {l : List Giv} (h : Gvs w R A n c l) {j : Nat} (hj : j < n) : ∃ b o g A' n' c', A = some ⟨b, o, none⟩ ∧ R b ∧ b < w.heap.size ∧ l[j]? = some g ∧ g.ok ∧
    (w.cell? ⟨b, o + j * 3, none⟩ = some (.int .i64 g.cat) ∧ w.cell? ⟨b, o + j * 3 + 1, none⟩ = some (.string g.name) ∧ w.cell? ⟨b, o + j * 3 + 2, none⟩ = some (.slice A' n' c')) ∧ Vls w R A' n' c' g.bag := by
  obtain ⟨b, o, g, vs, e, hb, hlt, hm, hl, hv, A', n', c', rfl, hok, hin⟩ := Rw.at_ h hj
  exact ⟨b, o, g, A', n', c', e, hb, hlt, hm, hok, ⟨hv 0 _ rfl, hv 1 _ rfl, hv 2 _ rfl⟩, hin⟩
theorem Vls.vs {l : List Vl} (h : Vls w R A n c l) : Vs w w.heap.size A n c l := by
  refine ⟨Rw.len h, Rw.le h, Rw.cap h, ?_, h.oks⟩
  by_cases h0 : n = 0
  · exact .inl h0
  · right
    obtain ⟨b, o, v, e, hb, hlt, hv, _, _⟩ := h.at_ (j := 0) (by omega)
    refine ⟨b, o, e, hlt, fun j x hx => ?_⟩
    have hj : j < n := by have := (List.getElem?_eq_some_iff.1 hx).1; have := Rw.len h; omega
    obtain ⟨b', o', v', e', _, _, hv', _, c0, c1, c2⟩ := h.at_ hj
    rw [e] at e'
    injection e' with e'
    injection e' with e1 e2
    subst e1 e2
    rw [hx] at hv'
    injection hv' with hv'
    subst hv'
    exact ⟨c0, c1, c2⟩
theorem Gvs.oks {l : List Giv} (h : Gvs w R A n c l) : ∀ g ∈ l, g.ok ∧ ∀ v ∈ g.bag, v.ok := by
  intro g hg
  obtain ⟨j, hj, rfl⟩ := List.getElem_of_mem hg
  obtain ⟨b, o, x, A', n', c', e, _, _, hx, hok, _, hin⟩ := h.at_ (j := j) (by have := Rw.len h; omega)
  rw [List.getElem?_eq_getElem hj] at hx
  injection hx with hx
  rw [hx]
  exact ⟨hok, hin.oks⟩
end
theorem givinfo : (Tryz.prog.info? 68).map (fun i => (i.zero, i.size, i.bytes)) = some (some (.agg #[.int .i64 0, .string ⟨#[]⟩, .slice none 0 0]), 3, 48) := by kernel_rfl
end Go.Proofs.YtadjfkgnoklmiaaGreat
/- A value stored over another one in its block. -/
namespace Go.Proofs.YtadjfkgnoklmiaaGreat
open Go.RowKit

theorem Bx.put {w : World} {g : Nat} {k n : Int} {s : ByteArray} (h : Bx w g k n s) (k' n' : Int) (s' : ByteArray) : Bx (((w.setCell ⟨g, 0, none⟩ (.int .i64 k')).setCell ⟨g, 1, none⟩ (.int .i64 n')).setCell ⟨g, 2, none⟩ (.string s')) g k' n' s' := by
  unfold Bx
  simpa using ((Ob.put h 0 (.int .i64 k')).put 1 (.int .i64 n')).put 2 (.string s')
theorem below_put {w0 w : World} {g B : Nat} (h : Below B w0 w) (hg : B ≤ g) (a b c : Value) : Below B w0 (((w.setCell ⟨g, 0, none⟩ a).setCell ⟨g, 1, none⟩ b).setCell ⟨g, 2, none⟩ c) :=
  ((h.setCell (p := ⟨g, 0, none⟩) hg a).setCell (p := ⟨g, 1, none⟩) hg b).setCell (p := ⟨g, 2, none⟩) hg c
end Go.Proofs.YtadjfkgnoklmiaaGreat
/- copied: a bag in memory of its own, its texts too. -/
namespace Go.Proofs.YtadjfkgnoklmiaaGreat
set_option linter.unusedVariables false
open Go.RowKit

def Shorts (l : List Vl) : Prop := ∀ v ∈ l, v.s.size ≤ 1000000

theorem take_one {α : Type} {l : List α} {k : Nat} {x : α} (h : l[k]? = some x) : l.take (k + 1) = l.take k ++ [x] := by
  obtain ⟨hk, rfl⟩ := List.getElem?_eq_some_iff.1 h
  rw [List.take_succ_eq_append_getElem hk]
theorem cells3_flat : ∀ l : List Vl, cells3 l = l.flatMap Vl.cells
  | [] => rfl
  | v :: r => by simp [cells3, Vl.cells, cells3_flat r]
theorem push_val {w : World} {base n c : Nat} {A : Option Addr} {l : List Vl} {v : Vl} (h : w.ownsRow base 40 3 (.slice A n c) n (cells3 l)) (hb : base ≤ w.heap.size) (hv : v.ok) (hn : n < 1000000) :
    ∃ A' c' w', (Builtin.append_ #[66, 66] 66 #[.slice A n c, .slice (some ⟨w.heap.size, 0, none⟩) 1 1]).run Tryz.prog (w.alloc (.cells #[.int .i64 v.k, .int .i64 v.n, .string v.s] 40)) = .ok (.slice A' (n + 1) c') w' ∧
      w'.ownsRow base 40 3 (.slice A' (n + 1) c') (n + 1) (cells3 (l ++ [v])) ∧ Below base w w' := by
  have e1 : Below w.heap.size w (w.alloc (.cells #[.int .i64 v.k, .int .i64 v.n, .string v.s] 40)) := (Below.refl _ _).alloc (Nat.le_refl _) _
  obtain ⟨A', c', w', r, o, b, _⟩ := append_vals (ty := 66) (h.alloc (.cells #[.int .i64 v.k, .int .i64 v.n, .string v.s] 40)) (Vs.lit1 w v hv) (by omega) (by rw [size_al]; omega)
  exact ⟨A', c', w', r, o, (e1.mono hb).trans b⟩

set_option maxHeartbeats 1600000 in
theorem copied_any {w : World} {R : Nat → Prop} {A : Option Addr} {n c : Nat} {l : List Vl} (h : Vls w R A n c l) (hs : Shorts l) (hn : n ≤ 100000) :
    Calls Tryz.prog 51 #[.slice A n c] w fun e w' => ∃ A' c', e = .returned (.slice A' n c') ∧ Below w.heap.size w w' ∧ Vls w' (fun b => w.heap.size ≤ b) A' n c' l := by
  have hle := Rw.le h
  have hcap := Rw.cap h
  have HL := Lib.hid (Rw.len h)
  have HOK := Lib.hid h.oks
  unfold maxLen at hcap
  have H := Lib.hid h
  have HS := Lib.hid hs
  clear h hs
  go_enter Tryz.func51, Tryz.ntmps51
  go_wp2
  go_loopw [3, 8] (fun out i wr => ∃ (k : Nat) (A' : Option Addr) (c' : Nat), k ≤ n ∧ i = .int .i64 k ∧ out = .slice A' k c' ∧ wr.ownsRow w.heap.size 40 3 (.slice A' k c') k (cells3 (l.take k)) ∧ Below w.heap.size w wr) (fun out i _ => n - (intOf i).toNat)
  case atStart => exact ⟨0, none, 0, Nat.zero_le _, rfl, rfl, World.ownsRow_nil w w.heap.size 40 3, Below.refl _ _⟩
  case round =>
    obtain ⟨k, A', c', hk, rfl, rfl, ho, hb⟩ := hrel
    have HO := Lib.hid ho
    have HB := Lib.hid hb
    clear ho hb
    by_cases hlt : k < n
    · obtain ⟨b, o, x, rfl, hRb, hbl, hx, hok, ⟨x0, x1, x2⟩⟩ := (H.out.keep (Kept.all HB.out R) (fun _ h _ => h)).at_ hlt
      have HX := Lib.hid hx
      have HK := Lib.hid hok
      have hlim := HS.out x (List.mem_of_getElem? hx)
      have HCL := Lib.hid (fun W => clone_any x.s W hlim)
      obtain ⟨xk, xn, xs⟩ := x
      simp only at x0 x1 x2 HCL hlim
      clear hx hok
      have hbx := Bx.made wr xk xn xs
      have D0 := Lib.hid ((Below.refl wr.heap.size wr).alloc (Nat.le_refl _) (.cells #[.int .i64 xk, .int .i64 xn, .string xs] 40))
      go_wp2_with (first
        | (go_at_call 94; refine (HCL.out _).mono ?_; rintro e w1 ⟨rfl, hb1⟩
           have q1 := hbx.then_ hb1
           have qs := q1.setS xs
           have q3 := q1.c3
           have q4 := q1.fz 2
           have d1 : Below wr.heap.size wr (w1.setCell ⟨wr.heap.size, 2, none⟩ (.string xs)) := (Below.lit hb1).setCell (Nat.le_refl _) _
           obtain ⟨A2, c2, w2, r2, o2, b2⟩ := push_val (v := ⟨xk, xn, xs⟩) (own_then HO.out d1) (Nat.le_trans HB.out.size d1.size) HK.out (by omega)
           have hz : (w1.setCell ⟨wr.heap.size, 2, none⟩ (.string xs)).heap.size = w1.heap.size := by simp [World.setCell]
           rw [hz] at r2
           simp only at r2
           have R2 := Lib.hid r2
           have O2 := Lib.hid o2
           have B2 := Lib.hid (HB.out.trans ((d1.mono HB.out.size).trans b2))
           have Q1 := Lib.hid q1
           clear hz r2 o2 b2 hb1 q1 qs d1)
        | (at_builtin; refine wpList_append_run rfl _ _ _ _ rfl rfl rfl R2.out ?_))
      go_roundw
      case rel => exact ⟨k + 1, A2, c2, by omega, by go_num, rfl, by rw [take_one HX.out]; exact O2.out, B2.out⟩
      case measure => simp [intOf]; omega
    · obtain rfl : k = n := by omega
      go_wp2
      go_ret
      refine ⟨A', c', rfl, HB.out, ?_⟩
      have ho := HO.out
      rw [List.take_of_length_le (by have := HL.out; omega), cells3_flat] at ho
      exact Rw.flat_own ho (by omega) HL.out (fun _ => rfl) HOK.out (fun _ _ h => h)
end Go.Proofs.YtadjfkgnoklmiaaGreat
/- place: the first of a category and a name (by slices.IndexFunc). -/
namespace Go.Proofs.YtadjfkgnoklmiaaGreat
set_option linter.unusedVariables false
open Go.RowKit

theorem isg_any {w : World} {h4 h5 : Nat} {c : Int} {s : ByteArray} (g : Giv) {A : Option Addr} {n k : Nat} (hp : Ob w h4 3 #[.int .i64 c]) (hi : Ob w h5 9 #[.string s]) :
    Calls Tryz.prog 93 #[.agg #[.int .i64 g.cat, .string g.name, .slice A n k], .pointer (some ⟨h4, 0, none⟩), .pointer (some ⟨h5, 0, none⟩)] w fun e w' => e = .returned (.bool (isG c s g)) ∧ Below w.heap.size w w' := by
  have c4 := hp.cell 0
  have c5 := hi.cell 0
  have l4 := hp.lt
  have l5 := hi.lt
  have HE : Hid (isG c s g = (decide (g.cat = c) && (g.name.toList == s.toList))) := by
    show isG c s g = _
    unfold isG
    rw [Bool.eq_iff_iff]
    simp only [Bool.and_eq_true, decide_eq_true_eq, beq_iff_eq]
    rw [show (g.name.toList = s.toList) = (g.name = s) from propext ⟨fun e => text_eq (by show g.name.data.toList = s.data.toList; rw [← ByteArray.toList_eq, ← ByteArray.toList_eq]; exact e), fun e => by rw [e]⟩]
  generalize isG c s g = r at *
  obtain ⟨gc, gn, gb⟩ := g
  simp only at HE ⊢
  clear hp hi
  by_cases h : gc = c
  · have h' : (gc == c) = true := by simpa using h
    have H := Lib.hid h
    clear h
    go_enter Tryz.func93, Tryz.ntmps93
    go_wp2_with fail
    all_goals
      go_ret
      exact ⟨ret_bool (by rw [HE.out, decide_eq_true H.out, Bool.true_and]), (Below.refl _ _).alloc (Nat.le_refl _) _⟩
  · have h' : (gc == c) = false := by simpa using h
    have H := Lib.hid h
    clear h
    go_enter Tryz.func93, Tryz.ntmps93
    go_wp2_with fail
    all_goals
      go_ret
      exact ⟨ret_bool (by rw [HE.out, decide_eq_false H.out, Bool.false_and]), (Below.refl _ _).alloc (Nat.le_refl _) _⟩

set_option maxHeartbeats 800000 in
theorem aindex_any {w : World} {R : Nat → Prop} {A : Option Addr} {n c : Nat} {l : List Giv} {h4 h5 : Nat} {q : Int} {s : ByteArray} (h : Gvs w R A n c l) (hp : Ob w h4 3 #[.int .i64 q]) (hi : Ob w h5 9 #[.string s]) :
    Calls Tryz.prog 92 #[.slice A n c, .func (.func 93) #[] #[.pointer (some ⟨h4, 0, none⟩), .pointer (some ⟨h5, 0, none⟩)]] w fun e w' => e = .returned (.int .i64 (placeI l q s)) ∧ Below w.heap.size w w' := by
  have hle := Rw.le h
  have hcap := Rw.cap h
  have HL := Lib.hid (Rw.len h)
  unfold maxLen at hcap
  have H := Lib.hid h
  have HP := Lib.hid hp
  have HI := Lib.hid hi
  clear h hp hi
  go_enter Tryz.func92, Tryz.ntmps92
  go_wp2
  go_loopw [8] (fun i wr => ∃ k : Nat, k ≤ n ∧ i = .int .i64 k ∧ (∀ (j : Nat) (x : Giv), l[j]? = some x → j < k → isG q s x = false) ∧ Below w.heap.size w wr) (fun i _ => n - (intOf i).toNat)
  case atStart => exact ⟨0, Nat.zero_le _, rfl, fun _ _ _ h => absurd h (Nat.not_lt_zero _), Below.refl _ _⟩
  case round =>
    obtain ⟨k, hk, rfl, hf, hb⟩ := hrel
    have HF := Lib.hid hf
    have HB := Lib.hid hb
    clear hf hb
    by_cases hlt : k < n
    · obtain ⟨b, o, x, A', n', c', rfl, hRb, hbl, hx, hok, ⟨c0, c1, c2⟩, hin⟩ := (H.out.keep (Kept.all HB.out R) (fun _ h _ => h)).at_ hlt
      have HX := Lib.hid hx
      have HC := Lib.hid (isg_any x (A := A') (n := n') (k := c') (HP.out.below HB.out HP.out.lt) (HI.out.below HB.out HI.out.lt))
      clear hx
      cases hz : isG q s x
      · have HZ := Lib.hid hz
        rw [hz] at HC
        clear hz
        go_wp2_with (go_at_call 93; refine HC.out.mono ?_; rintro e w1 ⟨rfl, hb1⟩; have B1 := Lib.hid hb1)
        go_roundw
        case rel => exact ⟨k + 1, by omega, by go_num, fun j y hy hj => by
          by_cases e : j = k
          · subst e; rw [HX.out] at hy; injection hy with hy; subst hy; exact HZ.out
          · exact HF.out j y hy (by omega), below_step HB.out B1.out⟩
        case measure => simp [intOf]; omega
      · have HZ := Lib.hid hz
        rw [hz] at HC
        clear hz
        go_wp2_with (go_at_call 93; refine HC.out.mono ?_; rintro e w1 ⟨rfl, hb1⟩; have B1 := Lib.hid hb1)
        go_ret
        exact ⟨ret_int (place_at HX.out HZ.out HF.out).symm, below_step HB.out B1.out⟩
    · obtain rfl : k = n := by omega
      go_wp2
      go_ret
      exact ⟨ret_int (place_none (fun j x hx => HF.out j x hx (by have := (List.getElem?_eq_some_iff.1 hx).1; have := HL.out; omega))).symm, HB.out⟩

theorem place_any {w : World} {R : Nat → Prop} {A : Option Addr} {n c : Nat} {l : List Giv} (q : Int) (s : ByteArray) (h : Gvs w R A n c l) :
    Calls Tryz.prog 50 #[.slice A n c, .int .i64 q, .string s] w fun e w' => e = .returned (.int .i64 (placeI l q s)) ∧ Below w.heap.size w w' := by
  have e1 : Below w.heap.size w ((w.alloc (.cells #[.int .i64 q] 3)).alloc (.cells #[.string s] 9)) := ((Below.refl _ _).alloc (Nat.le_refl _) _).alloc (by rw [size_al]; omega) _
  have hp : Ob ((w.alloc (.cells #[.int .i64 q] 3)).alloc (.cells #[.string s] 9)) w.heap.size 3 #[.int .i64 q] := (Ob.made w 3 #[.int .i64 q]).keep (Below.heap_alloc (w.alloc (.cells #[.int .i64 q] 3)) _ w.heap.size (by rw [size_al]; omega))
  have hi : Ob ((w.alloc (.cells #[.int .i64 q] 3)).alloc (.cells #[.string s] 9)) (w.heap.size + 1) 9 #[.string s] := by
    have := Ob.made (w.alloc (.cells #[.int .i64 q] 3)) 9 #[.string s]
    rwa [size_al] at this
  have HC := Lib.hid (aindex_any (h.keep (Kept.all e1 R) (fun _ h _ => h)) hp hi)
  have HE := Lib.hid e1
  clear h hp hi e1
  go_enter Tryz.func50, Tryz.ntmps50
  go_wp2_with (go_at_call 92; refine HC.out.mono ?_; rintro e w1 ⟨rfl, hb1⟩)
  go_ret
  exact ⟨rfl, HE.out.trans (hb1.mono HE.out.size)⟩
end Go.Proofs.YtadjfkgnoklmiaaGreat
/- Get: what is there, in new memory. -/
namespace Go.Proofs.YtadjfkgnoklmiaaGreat
set_option linter.unusedVariables false
open Go.RowKit

def ShortG (l : List Giv) : Prop := ∀ g ∈ l, Shorts g.bag ∧ g.bag.length ≤ 100000
theorem aget_any {w : World} {R : Nat → Prop} {A : Option Addr} {n c : Nat} {l : List Giv} (a : Atr) (h : Gvs w R A n c l) (hs : ShortG l) :
    Calls Tryz.prog 34 #[.slice A n c, .agg #[.int .i64 a.cat, .string a.name, .bool a.must]] w fun e w' => ∃ A' n' c', e = .returned (.tuple #[.slice A' n' c', .int .i64 (getE l a)]) ∧ Below w.heap.size w w' ∧ Vls w' (fun b => w.heap.size ≤ b) A' n' c' (getR l a) := by
  obtain ⟨ac, an, am⟩ := a
  have hle := Rw.le h
  have hcap := Rw.cap h
  have HL := Lib.hid (Rw.len h)
  unfold maxLen at hcap
  have H := Lib.hid h
  have HS := Lib.hid hs
  have HP := Lib.hid (fun W (hW : Below w.heap.size w W) => place_any ac an (h.keep (Kept.all hW R) (fun _ h _ => h)))
  clear h hs
  by_cases hi : idxA l ac an < l.length
  · obtain ⟨g, hg, hgg, hb⟩ := idx_hit hi
    have hp : placeI l ac an = (idxA l ac an : Int) := place_pos hi
    rw [hp] at HP
    have hin : idxA l ac an < n := by have := HL.out; omega
    have HB : Hid (getB l ⟨ac, an, am⟩ = g.bag) := hb
    have HG := Lib.hid hg
    generalize idxA l ac an = k at *
    obtain ⟨hsh, hln⟩ := HS.out g (List.mem_of_getElem? hg)
    have HSH := Lib.hid hsh
    have HLN := Lib.hid hln
    clear hi hp hg hgg hb hsh hln
    have atW := fun W (hW : Below w.heap.size w W) => (H.out.keep (Kept.all hW R) (fun _ h _ => h)).at_ hin
    have AW := Lib.hid atW
    clear atW
    obtain ⟨b, o, g0, A', n', c', rfl, _, hbl, hx, _, ⟨_, _, c2⟩, hin0⟩ := AW.out w (Below.refl _ _)
    have hgx := HG.out
    rw [hx] at hgx
    injection hgx with hgx
    subst hgx
    have HIN := Lib.hid hin0
    have hn' : n' ≤ 100000 := by have := Rw.len hin0; have := HLN.out; omega
    have hlen' : g0.bag.length = n' := Rw.len hin0
    have C2 := Lib.hid c2
    have HBL := Lib.hid hbl
    have HE : Hid (getE l ⟨ac, an, am⟩ = if am = true ∧ n' = 0 then 4 else 0) := by
      show getE l ⟨ac, an, am⟩ = _
      unfold getE
      have e0 : (g0.bag = []) = (n' = 0) := by rw [← hlen', List.length_eq_zero_iff]
      rw [HB.out]
      simp only [e0]
    have HR : Hid (getR l ⟨ac, an, am⟩ = if am = true ∧ n' = 0 then [] else g0.bag) := by
      show getR l ⟨ac, an, am⟩ = _
      unfold getR
      rw [HB.out, HE.out]
      by_cases e : am = true ∧ n' = 0 <;> simp [e]
    have HNN := Lib.hid hlen'
    clear hx c2 hin0 hbl AW hlen'
    generalize getE l ⟨ac, an, am⟩ = ee at *
    generalize getR l ⟨ac, an, am⟩ = rr at *
    rcases Nat.eq_zero_or_pos n' with rfl | hpos
    · cases am
      · have HE2 : Hid (ee = 0) := by show ee = 0; rw [HE.out]; simp
        have HR2 : Hid (rr = g0.bag) := by show rr = _; rw [HR.out]; simp
        clear HE HR
        go_enter Tryz.func34, Tryz.ntmps34
        go_wp2_with (first
          | (go_at_call 50; refine (HP.out _ ((Below.refl _ _).alloc (Nat.le_refl _) _)).mono ?_; rintro e w1 ⟨rfl, hb1⟩
             have OB1 := Lib.hid (Ob.below (Ob.made _ _ _) hb1 (by simp))
             have B1 := Lib.hid (Below.lit hb1)
             have q2 := (World.cell?_of_block (B1.out.block _ HBL.out)).trans C2.out
             have CP := Lib.hid (copied_any (HIN.out.keep (Kept.all B1.out R) (fun _ h _ => h)) HSH.out hn')
             clear hb1)
          | (go_at_call 51; refine CP.out.mono ?_; rintro e w2 ⟨A2, k2, rfl, hb2, hi2⟩
             have c9 := (Ob.below OB1.out hb2 (Ob.lt OB1.out)).cell 2
             have B2 := Lib.hid (below_step B1.out hb2)
             have I2 := Lib.hid (hi2.keep (Kept.refl _ _) (R' := fun b => w.heap.size ≤ b) (fun b h _ => Nat.le_trans B1.out.size h))
             clear hb2 hi2))
        go_ret2
        exact ⟨A2, 0, k2, by rw [HE2.out]; rfl, B2.out, by rw [HR2.out]; exact I2.out⟩
      · have HE2 : Hid (ee = 4) := by show ee = 4; rw [HE.out]; simp
        have HR2 : Hid (rr = []) := by show rr = _; rw [HR.out]; simp
        clear HE HR
        go_enter Tryz.func34, Tryz.ntmps34
        go_wp2_with (first
          | (go_at_call 50; refine (HP.out _ ((Below.refl _ _).alloc (Nat.le_refl _) _)).mono ?_; rintro e w1 ⟨rfl, hb1⟩
             have OB1 := Lib.hid (Ob.below (Ob.made _ _ _) hb1 (by simp))
             have B1 := Lib.hid (Below.lit hb1)
             have q2 := (World.cell?_of_block (B1.out.block _ HBL.out)).trans C2.out
             have CP := Lib.hid (copied_any (HIN.out.keep (Kept.all B1.out R) (fun _ h _ => h)) HSH.out hn')
             clear hb1)
          | (go_at_call 51; refine CP.out.mono ?_; rintro e w2 ⟨A2, k2, rfl, hb2, hi2⟩
             have c9 := (Ob.below OB1.out hb2 (Ob.lt OB1.out)).cell 2
             have B2 := Lib.hid (below_step B1.out hb2)
             have I2 := Lib.hid (hi2.keep (Kept.refl _ _) (R' := fun b => w.heap.size ≤ b) (fun b h _ => Nat.le_trans B1.out.size h))
             clear hb2 hi2))
        go_ret2
        exact ⟨none, 0, 0, by rw [HE2.out]; rfl, B2.out, by rw [HR2.out]; exact Rw.nil_ _ _ _ _⟩
    · have hne : ¬ (n' : Int) = 0 := by omega
      have hne2 : ((n' : Int) == 0) = false := by simpa using hne
      have HE2 : Hid (ee = 0) := by show ee = 0; rw [HE.out, if_neg (by omega)]
      have HR2 : Hid (rr = g0.bag) := by show rr = _; rw [HR.out, if_neg (by omega)]
      clear HE HR
      cases am
      all_goals
        go_enter Tryz.func34, Tryz.ntmps34
        go_wp2_with (first
          | (go_at_call 50; refine (HP.out _ ((Below.refl _ _).alloc (Nat.le_refl _) _)).mono ?_; rintro e w1 ⟨rfl, hb1⟩
             have OB1 := Lib.hid (Ob.below (Ob.made _ _ _) hb1 (by simp))
             have B1 := Lib.hid (Below.lit hb1)
             have q2 := (World.cell?_of_block (B1.out.block _ HBL.out)).trans C2.out
             have CP := Lib.hid (copied_any (HIN.out.keep (Kept.all B1.out R) (fun _ h _ => h)) HSH.out hn')
             clear hb1)
          | (go_at_call 51; refine CP.out.mono ?_; rintro e w2 ⟨A2, k2, rfl, hb2, hi2⟩
             have c9 := (Ob.below OB1.out hb2 (Ob.lt OB1.out)).cell 2
             have B2 := Lib.hid (below_step B1.out hb2)
             have I2 := Lib.hid (hi2.keep (Kept.refl _ _) (R' := fun b => w.heap.size ≤ b) (fun b h _ => Nat.le_trans B1.out.size h))
             clear hb2 hi2))
        go_ret2
        exact ⟨A2, n', k2, by rw [HE2.out]; rfl, B2.out, by rw [HR2.out]; exact I2.out⟩
  · have HB : Hid (getB l ⟨ac, an, am⟩ = []) := bag_none hi
    have hp : placeI l ac an = -1 := place_neg hi
    rw [hp] at HP
    clear hp hi
    have HE : Hid (getE l ⟨ac, an, am⟩ = if am = true then 4 else 0) := by show getE l ⟨ac, an, am⟩ = _; unfold getE; rw [HB.out]; simp
    have HR : Hid (getR l ⟨ac, an, am⟩ = []) := by show getR l ⟨ac, an, am⟩ = _; unfold getR; rw [HB.out]; simp
    generalize getE l ⟨ac, an, am⟩ = ee at *
    generalize getR l ⟨ac, an, am⟩ = rr at *
    cases am
    all_goals
      go_enter Tryz.func34, Tryz.ntmps34
      go_wp2_with (go_at_call 50; refine (HP.out _ ((Below.refl _ _).alloc (Nat.le_refl _) _)).mono ?_; rintro e w1 ⟨rfl, hb1⟩; have c0 := (Ob.below (Ob.made _ _ _) hb1 (by simp)).cell 2)
      go_ret2
      refine ⟨none, 0, 0, by rw [HE.out]; rfl, Below.lit hb1, by rw [HR.out]; exact Rw.nil_ _ _ _ _⟩
end Go.Proofs.YtadjfkgnoklmiaaGreat
/- Package target, walked: truth, same, less, held, Match, All, one, Met. -/
namespace Go.Proofs.YtadjfkgnoklmiaaGreat
set_option linter.unusedVariables false
open Go.RowKit

theorem tgtruth_any (b : Bool) (w : World) :
    Calls Tryz.prog 95 #[.bool b] w fun e w' => e = .returned (.int .i64 (trI b)) ∧ Below w.heap.size w w' := by
  cases b
  all_goals
    go_enter Tryz.func95, Tryz.ntmps95
    go_wp2_with fail
    go_ret
    exact ⟨rfl, Below.refl _ _⟩
theorem tgalloc2 (w : World) (x y : Obj) : Below w.heap.size w ((w.alloc x).alloc y) := ((Below.refl _ _).alloc (Nat.le_refl _) _).alloc (by rw [size_al]; omega) _
set_option maxHeartbeats 1600000 in
theorem tgsame_any (a b : Vl) (w : World) :
    Calls Tryz.prog 52 #[a.val, b.val] w fun e w' => e = .returned (.int .i64 (sameI a b)) ∧ Below w.heap.size w w' := by
  obtain ⟨k, n, s⟩ := a
  obtain ⟨k', n', s'⟩ := b
  show Calls _ _ #[.agg #[.int .i64 k, .int .i64 n, .string s], .agg #[.int .i64 k', .int .i64 n', .string s']] w _
  have HT := Lib.hid tgtruth_any
  have HS : Hid (sameI ⟨k, n, s⟩ ⟨k', n', s'⟩ = if k = k' then trI (veq ⟨k, n, s⟩ ⟨k', n', s'⟩) else 1) := rfl
  have e1 := fun W => val_eq k n k' n' s s' W
  generalize veq ⟨k, n, s⟩ ⟨k', n', s'⟩ = q at *
  generalize sameI ⟨k, n, s⟩ ⟨k', n', s'⟩ = r at *
  by_cases h : k = k'
  · have h1 : (k != k') = false := by rw [bne_eq_false_iff_eq]; exact h
    have HR : Hid (r = trI q) := by show _ = _; rw [HS.out, if_pos h]
    clear h HS
    go_enter Tryz.func52, Tryz.ntmps52
    go_wp2_with (go_at_call 95; refine (HT.out _ _).mono ?_; rintro e w1 ⟨rfl, hb1⟩)
    go_ret
    exact ⟨by rw [HR.out]; rfl, Below.lit (Below.lit hb1)⟩
  · have h1 : (k != k') = true := by rw [bne_iff_ne]; exact h
    have HR : Hid (r = 1) := by show _ = _; rw [HS.out, if_neg h]
    clear h HS
    go_enter Tryz.func52, Tryz.ntmps52
    go_wp2_with fail
    go_ret
    exact ⟨by rw [HR.out]; rfl, tgalloc2 _ _ _⟩
set_option maxHeartbeats 1600000 in
theorem tgless_any (a b : Vl) (ha : a.s.size ≤ maxLen) (hb : b.s.size ≤ maxLen) (w : World) :
    Calls Tryz.prog 53 #[a.val, b.val] w fun e w' => e = .returned (.int .i64 (lessI a b)) ∧ Below w.heap.size w w' := by
  have HL := Lib.hid (less_any a b ha hb)
  clear ha hb
  have HS : Hid (lessI a b = if (lessOf a b).2 = 0 then trI (lessOf a b).1 else 1) := rfl
  generalize lessI a b = r at *
  generalize lessOf a b = lo at *
  obtain ⟨q, x⟩ := lo
  dsimp only at HL HS
  obtain ⟨k, n, s⟩ := a
  obtain ⟨k', n', s'⟩ := b
  show Calls _ _ #[.agg #[.int .i64 k, .int .i64 n, .string s], .agg #[.int .i64 k', .int .i64 n', .string s']] w _
  have HT := Lib.hid tgtruth_any
  by_cases h : x = 0
  · have h1 : (x != 0) = false := by rw [bne_eq_false_iff_eq]; exact h
    have HR : Hid (r = trI q) := by show _ = _; rw [HS.out, if_pos h]
    clear h HS
    go_enter Tryz.func53, Tryz.ntmps53
    go_wp2_with (first
      | (go_at_call 96; refine (HL.out _).mono ?_; rintro e w1 ⟨rfl, hb1⟩; have B1 := Lib.hid (Below.lit (Below.lit hb1)); clear hb1)
      | (go_at_call 95; refine (HT.out _ _).mono ?_; rintro e w2 ⟨rfl, hb1⟩))
    go_ret
    exact ⟨by rw [HR.out]; rfl, below_step B1.out hb1⟩
  · have h1 : (x != 0) = true := by rw [bne_iff_ne]; exact h
    have HR : Hid (r = 1) := by show _ = _; rw [HS.out, if_neg h]
    clear h HS
    go_enter Tryz.func53, Tryz.ntmps53
    go_wp2_with (go_at_call 96; refine (HL.out _).mono ?_; rintro e w1 ⟨rfl, hb1⟩; have B1 := Lib.hid (Below.lit (Below.lit hb1)); clear hb1)
    go_ret
    exact ⟨by rw [HR.out]; rfl, B1.out⟩
set_option maxHeartbeats 3200000 in
theorem tgheld_any (m : Mat) (v : Vl) (hm : m.v.s.size ≤ maxLen) (hv : v.s.size ≤ maxLen) (w : World) :
    Calls Tryz.prog 35 #[m.val, v.val] w fun e w' => e = .returned (.int .i64 (heldI m v)) ∧ Below w.heap.size w w' := by
  have C1 := Lib.hid (tgsame_any v m.v)
  have C2 := Lib.hid (tgless_any v m.v hv hm)
  have C3 := Lib.hid (tgless_any m.v v hm hv)
  clear hm hv
  have HS : Hid (heldI m v = if m.op = 1 then sameI v m.v else if m.op = 2 then lessI v m.v else lessI m.v v) := rfl
  generalize heldI m v = r at *
  obtain ⟨⟨mc, mn, mu⟩, op, ⟨k, n, s⟩⟩ := m
  obtain ⟨k', n', s'⟩ := v
  show Calls _ _ #[.agg #[.int .i64 mc, .string mn, .bool mu, .int .i64 op, .int .i64 k, .int .i64 n, .string s], .agg #[.int .i64 k', .int .i64 n', .string s']] w _
  simp only at C1 C2 C3 HS
  by_cases h : op = 1
  · subst h
    have HR : Hid (r = sameI ⟨k', n', s'⟩ ⟨k, n, s⟩) := by show _ = _; rw [HS.out, if_pos rfl]
    go_enter Tryz.func35, Tryz.ntmps35
    go_wp2_with (go_at_call 52; refine (C1.out _).mono ?_; rintro e w1 ⟨rfl, hb1⟩)
    go_ret
    exact ⟨by rw [HR.out]; rfl, Below.lit (Below.lit hb1)⟩
  · have h1 : (op == 1) = false := by rw [beq_eq_false_iff_ne]; exact h
    by_cases h' : op = 2
    · subst h'
      have HR : Hid (r = lessI ⟨k', n', s'⟩ ⟨k, n, s⟩) := by show _ = _; rw [HS.out, if_neg h, if_pos rfl]
      go_enter Tryz.func35, Tryz.ntmps35
      go_wp2_with (go_at_call 53; refine (C2.out _).mono ?_; rintro e w1 ⟨rfl, hb1⟩)
      go_ret
      exact ⟨by rw [HR.out]; rfl, Below.lit (Below.lit hb1)⟩
    · have h2 : (op == 2) = false := by rw [beq_eq_false_iff_ne]; exact h'
      have HR : Hid (r = lessI ⟨k, n, s⟩ ⟨k', n', s'⟩) := by show _ = _; rw [HS.out, if_neg h, if_neg h']
      clear h h'
      go_enter Tryz.func35, Tryz.ntmps35
      go_wp2_with (go_at_call 53; refine (C3.out _).mono ?_; rintro e w1 ⟨rfl, hb1⟩)
      go_ret
      exact ⟨by rw [HR.out]; rfl, Below.lit (Below.lit hb1)⟩
end Go.Proofs.YtadjfkgnoklmiaaGreat
/- Package target, walked: Match, All, one, Met. -/
namespace Go.Proofs.YtadjfkgnoklmiaaGreat
set_option linter.unusedVariables false
open Go.RowKit

set_option maxHeartbeats 3200000 in
theorem tgmatch_any {w : World} {R : Nat → Prop} {A : Option Addr} {n c : Nat} {l : List Giv} (m : Mat) (hm : m.v.s.size ≤ maxLen) (h : Gvs w R A n c l) (hs : ShortG l) :
    Calls Tryz.prog 21 #[m.val, .slice A n c] w fun e w' => e = .returned (.int .i64 (matchI l m)) ∧ Below w.heap.size w w' := by
  have HG := Lib.hid (fun W (hW : Below w.heap.size w W) => aget_any (w := W) m.a (h.keep (Kept.all hW R) (fun _ h _ => h)) hs)
  have HH := Lib.hid (fun v (hv : v.s.size ≤ maxLen) W => tgheld_any m v hm hv W)
  have HT := Lib.hid (tri_held m)
  have HE : Hid (matchI l m = if getE l m.a = 0 then most (heldI m) (getR l m.a) else 1) := rfl
  generalize matchI l m = r at *
  generalize heldI m = f at *
  obtain ⟨⟨mc, mn, mu⟩, op, ⟨k, nn, s⟩⟩ := m
  simp only at HG HE
  generalize getE l _ = ee at *
  generalize getR l _ = bag at *
  show Calls _ _ #[.agg #[.int .i64 mc, .string mn, .bool mu, .int .i64 op, .int .i64 k, .int .i64 nn, .string s], .slice A n c] w _
  have OM := Lib.hid (Ob.made w 42 #[.int .i64 mc, .string mn, .bool mu, .int .i64 op, .int .i64 k, .int .i64 nn, .string s])
  have BM := Lib.hid ((Below.refl w.heap.size w).alloc (Nat.le_refl _) (.cells #[.int .i64 mc, .string mn, .bool mu, .int .i64 op, .int .i64 k, .int .i64 nn, .string s] 42))
  clear h hs hm
  by_cases h : ee = 0
  rotate_left
  · have h1 : (ee != 0) = true := by rw [bne_iff_ne]; exact h
    have HR : Hid (r = 1) := by show _ = _; rw [HE.out, if_neg h]
    clear h HE
    go_enter Tryz.func21, Tryz.ntmps21
    go_wp2_with (go_at_call 34; refine (HG.out _ BM.out).mono ?_; rintro e w1 ⟨A', n', c', rfl, hb1, hbag⟩)
    go_ret
    exact ⟨by rw [HR.out]; rfl, below_step BM.out hb1⟩
  have h1 : (ee != 0) = false := by rw [bne_eq_false_iff_eq]; exact h
  have HR : Hid (r = most f bag) := by show _ = _; rw [HE.out, if_pos h]
  clear h HE
  go_enter Tryz.func21, Tryz.ntmps21
  go_wp2_with (go_at_call 34; refine (HG.out _ BM.out).mono ?_; rintro e w1 ⟨A', n', c', rfl, hb1, hbag⟩; have B1 := Lib.hid (below_step BM.out hb1); have O1 := Lib.hid (OM.out.below hb1 OM.out.lt); have V1 := Lib.hid (Vls.keep hbag (Kept.refl _ _) (R' := fun _ => True) (fun _ _ _ => trivial)); have hle := Rw.le hbag; have hcap := Rw.cap hbag; have HL := Lib.hid (Rw.len hbag); clear hb1 hbag)
  unfold maxLen at hcap
  go_loopw [7, 21] (fun x i wr => ∃ j : Nat, j ≤ n' ∧ i = .int .i64 j ∧ x = .int .i64 (most f (bag.take j)) ∧ Below w1.heap.size w1 wr) (fun _ i _ => n' - (intOf i).toNat)
  case atStart => exact ⟨0, Nat.zero_le _, rfl, rfl, Below.refl _ _⟩
  case round =>
    obtain ⟨j, hj, rfl, rfl, hb⟩ := hrel
    have HB := Lib.hid hb
    have BW := Lib.hid (below_step B1.out hb)
    have OW := O1.out.below hb O1.out.lt
    have q0 := OW.cell 0
    have q1 := OW.cell 1
    have q2 := OW.cell 2
    have q3 := OW.cell 3
    have q4 := OW.cell 4
    have q5 := OW.cell 5
    have q6 := OW.cell 6
    have OL := Lib.hid OW
    clear hb OW
    by_cases hlt : j < n'
    · obtain ⟨b, o, v, rfl, _, hbl, hx, hok, c0, c1, c2⟩ := (V1.out.keep (Kept.all HB.out _) (R' := fun _ => True) (fun _ _ _ => trivial)).at_ hlt
      have HS := Lib.hid (most_step hx (HT.out v).1)
      have HC := Lib.hid (HH.out v hok.2.2)
      obtain ⟨vk, vn, vs⟩ := v
      simp only at c0 c1 c2
      have HC2 : Hid (∀ W : World, Calls Tryz.prog 35 #[.agg #[.int .i64 mc, .string mn, .bool mu, .int .i64 op, .int .i64 k, .int .i64 nn, .string s], .agg #[.int .i64 vk, .int .i64 vn, .string vs]] W fun e w' => e = .returned (.int .i64 (f ⟨vk, vn, vs⟩)) ∧ Below W.heap.size W w') := HC.out
      clear HC hx hok
      generalize f ⟨vk, vn, vs⟩ = y at *
      generalize most f (bag.take j) = x at *
      generalize hz : most f (bag.take (j + 1)) = z at *
      have HZ := Lib.hid hz
      clear hz
      have OX := OL.out.keep (w' := wr.alloc (.cells #[.int .i64 vk, .int .i64 vn, .string vs] 40)) (Below.heap_alloc _ _ _ OL.out.lt)
      have p0 := OX.cell 0
      have p1 := OX.cell 1
      have p2 := OX.cell 2
      have p3 := OX.cell 3
      have p4 := OX.cell 4
      have p5 := OX.cell 5
      have p6 := OX.cell 6
      clear OX
      go_wp2_with (go_at_call 35; refine (HC2.out _).mono ?_; rintro e w2 ⟨rfl, hb2⟩; have B2 := Lib.hid (below_step HB.out (Below.lit hb2)); clear hb2)
      go_roundw
      case rel => exact ⟨j + 1, by omega, by go_num, by rw [HZ.out, HS.out], B2.out⟩
      case measure => simp [intOf]; omega
    · obtain rfl : j = n' := by omega
      go_wp2
      go_ret
      exact ⟨by rw [HR.out, List.take_of_length_le (by have := HL.out; omega)]; rfl, BW.out⟩
set_option maxHeartbeats 3200000 in
theorem tgall_any {w : World} {R R1 : Nat → Prop} {A A1 : Option Addr} {n c n1 c1 : Nat} {l : List Giv} {ms : List Mat} (h1 : Ms w R1 A1 n1 c1 ms) (h : Gvs w R A n c l) (hs : ShortG l) :
    Calls Tryz.prog 41 #[.slice A1 n1 c1, .slice A n c] w fun e w' => e = .returned (.int .i64 (allI l ms)) ∧ Below w.heap.size w w' := by
  have HM := Lib.hid (fun W (hW : Below w.heap.size w W) (m : Mat) (hm : m.v.s.size ≤ maxLen) => tgmatch_any (w := W) m hm (h.keep (Kept.all hW R) (fun _ h _ => h)) hs)
  have HT := Lib.hid (tri_match l)
  have HE : Hid (allI l ms = least (matchI l) ms) := rfl
  generalize allI l ms = r at *
  generalize matchI l = f at *
  have hle := Rw.le h1
  have hcap := Rw.cap h1
  have HL := Lib.hid (Rw.len h1)
  unfold maxLen at hcap
  have H1 := Lib.hid h1
  clear h h1 hs
  go_enter Tryz.func41, Tryz.ntmps41
  go_wp2
  go_loopw [5, 10] (fun x i wr => ∃ j : Nat, j ≤ n1 ∧ i = .int .i64 j ∧ x = .int .i64 (least f (ms.take j)) ∧ Below w.heap.size w wr) (fun _ i _ => n1 - (intOf i).toNat)
  case atStart => exact ⟨0, Nat.zero_le _, rfl, rfl, Below.refl _ _⟩
  case round =>
    obtain ⟨j, hj, rfl, rfl, hb⟩ := hrel
    have HB := Lib.hid hb
    clear hb
    by_cases hlt : j < n1
    · obtain ⟨b, o, m, rfl, _, hbl, hx, hok, c0, c1, c2, c3, c4, c5, c6⟩ := (H1.out.keep (Kept.all HB.out _) (R' := fun _ => True) (fun _ _ _ => trivial)).at_ hlt
      have HS := Lib.hid (least_step hx (HT.out m).2)
      have HC := Lib.hid (fun W hW => HM.out W hW m hok.2.2.2.2)
      obtain ⟨⟨mc, mn, mu⟩, op, ⟨k, nn, s⟩⟩ := m
      simp only at c0 c1 c2 c3 c4 c5 c6
      have HC2 : Hid (∀ W : World, Below w.heap.size w W → Calls Tryz.prog 21 #[.agg #[.int .i64 mc, .string mn, .bool mu, .int .i64 op, .int .i64 k, .int .i64 nn, .string s], .slice A n c] W fun e w' => e = .returned (.int .i64 (f ⟨⟨mc, mn, mu⟩, op, ⟨k, nn, s⟩⟩)) ∧ Below W.heap.size W w') := HC.out
      clear HC hx hok
      generalize f _ = y at *
      generalize least f (ms.take j) = x at *
      generalize hz : least f (ms.take (j + 1)) = z at *
      have HZ := Lib.hid hz
      clear hz
      go_wp2_with (go_at_call 21; refine (HC2.out _ (HB.out.alloc HB.out.size _)).mono ?_; rintro e w2 ⟨rfl, hb2⟩; have B2 := Lib.hid (below_step HB.out (Below.lit hb2)); clear hb2)
      go_roundw
      case rel => exact ⟨j + 1, by omega, by go_num, by rw [HZ.out, HS.out], B2.out⟩
      case measure => simp [intOf]; omega
    · obtain rfl : j = n1 := by omega
      go_wp2
      go_ret
      exact ⟨by rw [HE.out, List.take_of_length_le (by have := HL.out; omega)]; rfl, HB.out⟩
set_option maxHeartbeats 3200000 in
theorem tgone_any {w : World} {R R1 : Nat → Prop} {A A1 : Option Addr} {n c n1 c1 : Nat} {l : List Giv} {ms : List (List Mat)} (h1 : Als w R1 A1 n1 c1 ms) (h : Gvs w R A n c l) (hs : ShortG l) :
    Calls Tryz.prog 24 #[.slice A1 n1 c1, .slice A n c] w fun e w' => e = .returned (.int .i64 (oneI l ms)) ∧ Below w.heap.size w w' := by
  have HM := Lib.hid (fun W (hW : Below w.heap.size w W) (A2 : Option Addr) (n2 c2 : Nat) (m : List Mat) (hm : Ms W (fun _ => True) A2 n2 c2 m) => tgall_any (w := W) hm (h.keep (Kept.all hW R) (fun _ h _ => h)) hs)
  have HT := Lib.hid (tri_all l)
  have HE : Hid (oneI l ms = most (allI l) ms) := rfl
  generalize oneI l ms = r at *
  generalize allI l = f at *
  have hle := Rw.le h1
  have hcap := Rw.cap h1
  have HL := Lib.hid (Rw.len h1)
  unfold maxLen at hcap
  have H1 := Lib.hid h1
  clear h h1 hs
  go_enter Tryz.func24, Tryz.ntmps24
  go_wp2
  go_loopw [5, 10] (fun x i wr => ∃ j : Nat, j ≤ n1 ∧ i = .int .i64 j ∧ x = .int .i64 (most f (ms.take j)) ∧ Below w.heap.size w wr) (fun _ i _ => n1 - (intOf i).toNat)
  case atStart => exact ⟨0, Nat.zero_le _, rfl, rfl, Below.refl _ _⟩
  case round =>
    obtain ⟨j, hj, rfl, rfl, hb⟩ := hrel
    have HB := Lib.hid hb
    clear hb
    by_cases hlt : j < n1
    · obtain ⟨b, o, m, A2, n2, c2, rfl, _, hbl, hx, c0, hin⟩ := (H1.out.keep (Kept.all HB.out _) (R' := fun _ => True) (fun _ _ _ => trivial)).at_ hlt
      have HS := Lib.hid (most_step hx (HT.out m).1)
      have HC := Lib.hid (HM.out wr HB.out A2 n2 c2 m hin)
      clear hx hin
      generalize f m = y at *
      generalize most f (ms.take j) = x at *
      generalize hz : most f (ms.take (j + 1)) = z at *
      have HZ := Lib.hid hz
      clear hz
      go_wp2_with (go_at_call 41; refine HC.out.mono ?_; rintro e w2 ⟨rfl, hb2⟩; have B2 := Lib.hid (below_step HB.out hb2); clear hb2)
      go_roundw
      case rel => exact ⟨j + 1, by omega, by go_num, by rw [HZ.out, HS.out], B2.out⟩
      case measure => simp [intOf]; omega
    · obtain rfl : j = n1 := by omega
      go_wp2
      go_ret
      exact ⟨by rw [HE.out, List.take_of_length_le (by have := HL.out; omega)]; rfl, HB.out⟩
set_option maxHeartbeats 3200000 in
theorem tgmet_any {w : World} {R R1 : Nat → Prop} {A A1 : Option Addr} {n c n1 c1 : Nat} {l : List Giv} {ms : Tgt} (h1 : Tg w R1 A1 n1 c1 ms) (h : Gvs w R A n c l) (hs : ShortG l) :
    Calls Tryz.prog 12 #[.slice A1 n1 c1, .slice A n c] w fun e w' => e = .returned (.int .i64 (metI l ms)) ∧ Below w.heap.size w w' := by
  have HM := Lib.hid (fun W (hW : Below w.heap.size w W) (A2 : Option Addr) (n2 c2 : Nat) (m : List (List Mat)) (hm : Als W (fun _ => True) A2 n2 c2 m) => tgone_any (w := W) hm (h.keep (Kept.all hW R) (fun _ h _ => h)) hs)
  have HT := Lib.hid (tri_one l)
  have HE : Hid (metI l ms = least (oneI l) ms) := rfl
  generalize metI l ms = r at *
  generalize oneI l = f at *
  have hle := Rw.le h1
  have hcap := Rw.cap h1
  have HL := Lib.hid (Rw.len h1)
  unfold maxLen at hcap
  have H1 := Lib.hid h1
  clear h h1 hs
  go_enter Tryz.func12, Tryz.ntmps12
  go_wp2
  go_loopw [5, 10] (fun x i wr => ∃ j : Nat, j ≤ n1 ∧ i = .int .i64 j ∧ x = .int .i64 (least f (ms.take j)) ∧ Below w.heap.size w wr) (fun _ i _ => n1 - (intOf i).toNat)
  case atStart => exact ⟨0, Nat.zero_le _, rfl, rfl, Below.refl _ _⟩
  case round =>
    obtain ⟨j, hj, rfl, rfl, hb⟩ := hrel
    have HB := Lib.hid hb
    clear hb
    by_cases hlt : j < n1
    · obtain ⟨b, o, m, A2, n2, c2, rfl, _, hbl, hx, c0, hin⟩ := (H1.out.keep (Kept.all HB.out _) (R' := fun _ => True) (fun _ _ _ => trivial)).at_ hlt
      have HS := Lib.hid (least_step hx (HT.out m).2)
      have HC := Lib.hid (HM.out wr HB.out A2 n2 c2 m hin)
      clear hx hin
      generalize f m = y at *
      generalize least f (ms.take j) = x at *
      generalize hz : least f (ms.take (j + 1)) = z at *
      have HZ := Lib.hid hz
      clear hz
      go_wp2_with (go_at_call 24; refine HC.out.mono ?_; rintro e w2 ⟨rfl, hb2⟩; have B2 := Lib.hid (below_step HB.out hb2); clear hb2)
      go_roundw
      case rel => exact ⟨j + 1, by omega, by go_num, by rw [HZ.out, HS.out], B2.out⟩
      case measure => simp [intOf]; omega
    · obtain rfl : j = n1 := by omega
      go_wp2
      go_ret
      exact ⟨by rw [HE.out, List.take_of_length_le (by have := HL.out; omega)]; rfl, HB.out⟩
end Go.Proofs.YtadjfkgnoklmiaaGreat
/- What a node made, in memory; the stack, which is the call's own and is cut and grows. -/
namespace Go.Proofs.YtadjfkgnoklmiaaGreat
set_option linter.unusedVariables false
open Go.RowKit

def PartAt (w : World) (R : Nat → Prop) (vs : List Value) (p : Prt) : Prop := ∃ A n c, vs = [.slice A n c, .int .i64 p.v.k, .int .i64 p.v.n, .string p.v.s, .int .i64 p.e] ∧ (p.v.ok ∧ InI p.e) ∧ Vls w R A n c p.bag
def Prts (w : World) (R : Nat → Prop) := Rw 5 (PartAt w R) w R
section
variable {w w' : World} {R R' : Nat → Prop} {A : Option Addr} {n c : Nat}
theorem PartAt.keep {vs : List Value} {p : Prt} (h : PartAt w R vs p) (hk : Kept R w w') (hR : ∀ b, R b → b < w.heap.size → R' b) : PartAt w' R' vs p := by
  obtain ⟨A, n, c, e, h0, h1⟩ := h
  exact ⟨A, n, c, e, h0, h1.keep hk hR⟩
theorem keeps_part : Keeps PartAt := fun _ _ _ _ _ _ h hk hR => h.keep hk hR
theorem Prts.keep {l : List Prt} (h : Prts w R A n c l) (hk : Kept R w w') (hR : ∀ b, R b → b < w.heap.size → R' b) : Prts w' R' A n c l := Rw.keep h hk hR fun _ _ _ h => h.keep hk hR
theorem PartAt.one {w : World} {R : Nat → Prop} (vs : List Value) (p : Prt) (h : PartAt w R vs p) : ∀ v ∈ vs, v.oneCell' = true := by
  obtain ⟨A, n, c, rfl, _⟩ := h
  intro v hv
  simp at hv
  rcases hv with rfl | rfl | rfl | rfl | rfl <;> rfl
theorem Prts.at_ {l : List Prt} (h : Prts w R A n c l) {j : Nat} (hj : j < n) : ∃ b o p A' n' c', A = some ⟨b, o, none⟩ ∧ R b ∧ b < w.heap.size ∧ l[j]? = some p ∧ (p.v.ok ∧ InI p.e) ∧
    (w.cell? ⟨b, o + j * 5, none⟩ = some (.slice A' n' c') ∧ w.cell? ⟨b, o + j * 5 + 1, none⟩ = some (.int .i64 p.v.k) ∧ w.cell? ⟨b, o + j * 5 + 2, none⟩ = some (.int .i64 p.v.n) ∧ w.cell? ⟨b, o + j * 5 + 3, none⟩ = some (.string p.v.s) ∧ w.cell? ⟨b, o + j * 5 + 4, none⟩ = some (.int .i64 p.e)) ∧ Vls w R A' n' c' p.bag := by
  obtain ⟨b, o, g, vs, e, hb, hlt, hm, hl, hv, A', n', c', rfl, hok, hin⟩ := Rw.at_ h hj
  exact ⟨b, o, g, A', n', c', e, hb, hlt, hm, hok, ⟨hv 0 _ rfl, hv 1 _ rfl, hv 2 _ rfl, hv 3 _ rfl, hv 4 _ rfl⟩, hin⟩
end
theorem Rw.drop {α : Type} {k : Nat} {P : List Value → α → Prop} {w : World} {R : Nat → Prop} {A : Option Addr} {n c : Nat} {l : List α} (h : Rw k P w R A n c l) {m : Nat} (hm : m ≤ n) : Rw k P w R (if c = m then A else A.map (·.add (m * k))) (n - m) (c - m) (l.drop m) := by
  obtain ⟨h1, h2, h3, h4⟩ := h
  refine ⟨by rw [List.length_drop]; omega, by omega, ⟨by have := h3.1; omega, by have := h3.2; omega⟩, ?_⟩
  rcases h4 with h4 | ⟨b, o, e, hb, hlt, hc⟩
  · left; omega
  · by_cases hn : n = m
    · left; omega
    · right
      subst e
      rw [if_neg (by omega)]
      refine ⟨b, o + m * k, ?_, hb, hlt, fun j x hx => ?_⟩
      · by_cases hk0 : m * k = 0 <;> simp [Addr.add, hk0]
      · rw [List.getElem?_drop] at hx
        obtain ⟨vs, a1, a2, a3⟩ := hc (m + j) x hx
        refine ⟨vs, a1, fun i v hi => ?_, a3⟩
        rw [Nat.add_assoc o, ← Nat.add_mul]
        exact a2 i v hi
theorem flatten_take {k : Nat} : ∀ {raw : List (List Value)} {j : Nat}, (∀ y ∈ raw, y.length = k) → (raw.take j).flatten = raw.flatten.take (j * k)
  | [], j, _ => by simp
  | y :: raw, 0, _ => by simp
  | y :: raw, j + 1, h => by
    have hy := h y (by simp)
    rw [List.take_succ_cons, List.flatten_cons, List.flatten_cons, flatten_take fun z hz => h z (by simp [hz]), show (j + 1) * k = y.length + j * k by rw [hy, Nat.add_mul]; omega, List.take_length_add_append]
theorem own_block (A : Option Addr) (n n' c c' : Nat) : (Value.slice A n c).ownBlock = (Value.slice A n' c').ownBlock := by cases A <;> rfl
theorem Gr.take {α : Type} {k : Nat} {P : World → (Nat → Prop) → List Value → α → Prop} {w : World} {base : Nat} {E : TypeId} {A : Option Addr} {n c : Nat} {l : List α} (hP : Keeps P) (h : Gr k P w base E A n c l) {j : Nat} (hj : j ≤ n) : Gr k P w base E A j c (l.take j) := by
  obtain ⟨⟨raw, ⟨h0, h1⟩, h2, h3, h4, h5⟩, hb⟩ := h
  have hl : ∀ y ∈ raw.take j, y.length = k := fun y hy => h4 y (List.mem_of_mem_take hy)
  have hr : (raw.take j).length = j := by rw [List.length_take]; omega
  refine ⟨⟨raw.take j, ⟨by rw [flatten_len hl, hr], ?_⟩, hr, by rw [List.length_take]; omega, hl, fun i vs x a b => ?_⟩, hb⟩
  · rcases h1 with ⟨hv, hn⟩ | ⟨g, cap, cur, a, b, r1, r2, r3, r4, r5⟩
    · obtain rfl : j = 0 := by omega
      injection hv with e1 e2 e3
      subst e1 e3
      exact .inl ⟨rfl, rfl⟩
    · injection a with e1 e2 e3
      subst e1 e3
      refine .inr ⟨g, c, cur, rfl, b, r1, by omega, r3, r4, ?_⟩
      rw [flatten_take h4, ← r5, List.take_take]
      congr 1
      exact (Nat.min_eq_left (Nat.mul_le_mul_right k hj)).symm
  · have hij : i < j := by have := (List.getElem?_eq_some_iff.1 a).1; omega
    rw [List.getElem?_take, if_pos hij] at a b
    exact hP _ _ _ _ vs x (h5 i vs x a b) (Kept.refl _ _) (fun b hb _ => ⟨hb.1, by rw [own_block A j n c c]; exact hb.2⟩)
theorem partinfo : (Tryz.prog.info? 111).map (fun i => (i.zero, i.size, i.bytes)) = some (some (.agg #[.slice none 0 0, .int .i64 0, .int .i64 0, .string ⟨#[]⟩, .int .i64 0]), 5, 64) := by kernel_rfl
theorem push_part {w : World} {base n c : Nat} {A : Option Addr} {l : List Prt} {A1 : Option Addr} {n1 c1 : Nat} {p : Prt} (h : Gr 5 PartAt w base 111 A n c l) (hok : p.v.ok ∧ InI p.e) (hx : Vls w (Nb base (.slice A n c)) A1 n1 c1 p.bag) (hn : n < 1000000) :
    ∃ A' c' w', (Builtin.append_ #[108, 108] 108 #[.slice A n c, .slice (some ⟨w.heap.size, 0, none⟩) 1 1]).run Tryz.prog (w.alloc (.cells #[.slice A1 n1 c1, .int .i64 p.v.k, .int .i64 p.v.n, .string p.v.s, .int .i64 p.e] 111)) = .ok (.slice A' (n + 1) c') w' ∧ Gr 5 PartAt w' base 111 A' (n + 1) c' (l ++ [p]) ∧ Below base w w' := by
  obtain ⟨i, hi, hz, hs, hb⟩ := info_of partinfo
  exact Gr.push (vs := [.slice A1 n1 c1, .int .i64 p.v.k, .int .i64 p.v.n, .string p.v.s, .int .i64 p.e]) (x := p) Tryz.underlying108 hi hz hs hb rfl (by omega) (by omega) keeps_part h ⟨A1, n1, c1, rfl, hok, hx⟩ rfl (fun _ _ _ _ => PartAt.one _ _) hn
end Go.Proofs.YtadjfkgnoklmiaaGreat
/- Add, Sub, Mul: the project's and the reference's. -/
namespace Go.Proofs.YtadjfkgnoklmiaaGreat
set_option linter.unusedVariables false
open Go.RowKit

theorem ret_fits {a x : Int} {p : Int × Int} (h : p = (a, x)) : Ending.returned (.tuple #[.int .i64 a, .int .i64 x]) = .returned (.tuple #[.int .i64 p.1, .int .i64 p.2]) := by rw [h]

theorem add_any (a b : Int) (ha : In64 a) (hb : In64 b) (w : World) :
    Calls Tryz.prog 160 #[.int .i64 a, .int .i64 b] w fun e w' => e = .returned (.tuple #[.int .i64 (fits (a + b)).1, .int .i64 (fits (a + b)).2]) ∧ w = w' := by
  obtain ⟨c, hc⟩ : ∃ c, IntKind.i64.wrap (a + b) = c := ⟨_, rfl⟩
  have HC := Lib.hid hc
  go_enter Tryz.func160, Tryz.ntmps160
  go_wp2_with fail
  all_goals
    rename_i h
    have H := Lib.hid h
    clear h
    go_ret2
  · exact ⟨ret_fits (sum_no ha hb HC.out (bne_iff_yes H.out)), rfl⟩
  · exact ⟨ret_fits (sum_yes ha hb HC.out (bne_iff_no H.out)), rfl⟩
theorem sub_any (a b : Int) (ha : In64 a) (hb : In64 b) (w : World) :
    Calls Tryz.prog 161 #[.int .i64 a, .int .i64 b] w fun e w' => e = .returned (.tuple #[.int .i64 (fits (a - b)).1, .int .i64 (fits (a - b)).2]) ∧ w = w' := by
  obtain ⟨c, hc⟩ : ∃ c, IntKind.i64.wrap (a - b) = c := ⟨_, rfl⟩
  have HC := Lib.hid hc
  go_enter Tryz.func161, Tryz.ntmps161
  go_wp2_with fail
  all_goals
    rename_i h
    have H := Lib.hid h
    clear h
    go_ret2
  · exact ⟨ret_fits (rest_no ha hb HC.out (bne_iff_yes H.out)), rfl⟩
  · exact ⟨ret_fits (rest_yes ha hb HC.out (bne_iff_no H.out)), rfl⟩
theorem mul_any (a b : Int) (ha : In64 a) (hb : In64 b) (w : World) :
    Calls Tryz.prog 162 #[.int .i64 a, .int .i64 b] w fun e w' => e = .returned (.tuple #[.int .i64 (fits (a * b)).1, .int .i64 (fits (a * b)).2]) ∧ w = w' := by
  by_cases h0 : a = 0
  · subst h0
    go_enter Tryz.func162, Tryz.ntmps162
    go_wp2_with fail
    go_ret2
    exact ⟨ret_fits (by rw [Int.zero_mul]; rfl), rfl⟩
  · by_cases h1 : a = -1
    · subst h1
      have C := Lib.hid (sub_any 0 b (by decide) hb)
      go_enter Tryz.func162, Tryz.ntmps162
      go_wp2_with fail
      refine (C.out _).mono ?_
      rintro e w' ⟨rfl, rfl⟩
      go_wp2_with fail
      go_ret2
      exact ⟨ret_fits (a := (fits (-b)).1) (x := (fits (-b)).2) (by rw [← neg_one, Int.zero_sub]), rfl⟩
    · have H0 := Lib.hid h0
      have H1 := Lib.hid h1
      have b0 : (a == 0) = false := by rw [beq_eq_false_iff_ne]; exact h0
      have b1 : (a == -1) = false := by rw [beq_eq_false_iff_ne]; exact h1
      obtain ⟨c, hc⟩ : ∃ c, IntKind.i64.wrap (a * b) = c := ⟨_, rfl⟩
      have HC := Lib.hid hc
      go_enter Tryz.func162, Tryz.ntmps162
      go_wp2_with fail
      all_goals
        rename_i h
        have H := Lib.hid h
        clear h
        go_ret2
      · exact ⟨ret_fits (prod_no ha hb H0.out H1.out HC.out (ne_yes H.out)), rfl⟩
      · exact ⟨ret_fits (prod_yes ha H0.out H1.out HC.out (ne_no H.out)), rfl⟩

end Go.Proofs.YtadjfkgnoklmiaaGreat
/- Package fun's and the reference's functions of values. -/
namespace Go.Proofs.YtadjfkgnoklmiaaGreat
set_option linter.unusedVariables false
open Go.RowKit

theorem box_ret {fn : Func} {p : Tmp} {tmps : Array Value} {w : World} {g : Nat} {k n : Int} {s : ByteArray} (h : fn.results = #[.cell p 40]) (hp : tmps.getD p undef = .pointer (some ⟨g, 0, none⟩)) (hg : Bx w g k n s) :
    (results fn tmps).run Tryz.prog w = .ok (.agg #[.int .i64 k, .int .i64 n, .string s]) w :=
  results_cell_row h tmps w g _ _ (0, 0) _ hp hg Tryz.underlying40 rfl (by kernel_rfl)
theorem box_ret2 {fn : Func} {p u : Tmp} {tmps : Array Value} {w : World} {g : Nat} {k n : Int} {s : ByteArray} {v : Value} (h : fn.results = #[.cell p 40, .tmp u]) (hp : tmps.getD p undef = .pointer (some ⟨g, 0, none⟩)) (hu : tmps.getD u undef = v) (hg : Bx w g k n s) :
    (results fn tmps).run Tryz.prog w = .ok (.tuple #[.agg #[.int .i64 k, .int .i64 n, .string s], v]) w := by
  rw [results_cell_tmp h, hp, hu]
  have hl := run_loadVar_row (P := Tryz.prog) w g 40 _ _ (0, 0) _ hg Tryz.underlying40 rfl (by kernel_rfl)
  simp [asAddr, hl, Result.andThen]

theorem below1 (w : World) (x : Obj) : Below w.heap.size w (w.alloc x) := (Below.refl _ _).alloc (Nat.le_refl _) _
theorem below2 (w : World) (x y : Obj) : Below w.heap.size w ((w.alloc x).alloc y) := (below1 w x).alloc (by rw [size_al]; omega) _
theorem ftruth_any (b : Bool) (w : World) : Calls Tryz.prog 153 #[.bool b] w fun e w' => e = .returned (.agg #[.int .i64 1, .int .i64 (truthN b), .string ⟨#[]⟩]) ∧ Below w.heap.size w w' := by
  cases b
  all_goals
    go_enter Tryz.func153, Tryz.ntmps153
    go_wp2_with fail
    try simp only [Exit.inBlock, Exit.then]
    refine bodyPost_ret (box_ret rfl rfl ((Bx.made _ _ _ _).alloc _)) rfl ?_
    exact ⟨rfl, below2 _ _ _⟩
theorem known_any (op : Int) (w : World) : Calls Tryz.prog 137 #[.int .i64 op] w fun e w' => e = .returned (.bool (decide (6 ≤ op ∧ op ≤ 13))) ∧ w = w' := by
  by_cases h1 : 6 ≤ op <;> by_cases h2 : op ≤ 13
  all_goals
    go_enter Tryz.func137, Tryz.ntmps137
    go_wp2
    go_ret
    exact ⟨ret_bool (by simp [h1, h2]), rfl⟩
theorem ftakes_any (op : Int) (w : World) : Calls Tryz.prog 138 #[.int .i64 op] w fun e w' => e = .returned (.int .i64 (needs op : Int)) ∧ w = w' := by
  by_cases h : op = 11
  · subst h
    go_enter Tryz.func138, Tryz.ntmps138
    go_wp2
    go_ret
    exact ⟨rfl, rfl⟩
  · have hb : (op == 11) = false := by rw [beq_eq_false_iff_ne]; exact h
    have H : Hid (needs op = 2) := if_neg h
    go_enter Tryz.func138, Tryz.ntmps138
    go_wp2
    go_ret
    exact ⟨ret_int (by rw [H.out]; rfl), rfl⟩
theorem below3 {w w' : World} {x y z : Obj} (h : Below (((w.alloc x).alloc y).alloc z).heap.size (((w.alloc x).alloc y).alloc z) w') : Below w.heap.size w w' := Below.lit (Below.lit (Below.lit h))
theorem box3 (w : World) (x y : Obj) (k n : Int) (s : ByteArray) : Bx (((w.alloc x).alloc y).alloc (.cells #[.int .i64 k, .int .i64 n, .string s] 40)) (w.heap.size + 1 + 1) k n s := by
  have := Bx.made ((w.alloc x).alloc y) k n s
  rwa [size_al, size_al] at this
theorem ret_v {k n e : Int} {s : ByteArray} {p : Vl × Int} (h : p = (⟨k, n, s⟩, e)) : Ending.returned (.tuple #[.agg #[.int .i64 k, .int .i64 n, .string s], .int .i64 e]) = .returned (.tuple #[p.1.val, .int .i64 p.2]) := by rw [h]; rfl
theorem lt2 {n : Nat} : n ≤ n + 1 + 1 := by omega

set_option maxHeartbeats 1600000 in
theorem same_any (a b : Vl) (w : World) : Calls Tryz.prog 139 #[a.val, b.val] w fun e w' => e = .returned (.tuple #[(sameV a b).1.val, .int .i64 (sameV a b).2]) ∧ Below w.heap.size w w' := by
  obtain ⟨k, n, s⟩ := a
  obtain ⟨k', n', s'⟩ := b
  show Calls _ _ #[.agg #[.int .i64 k, .int .i64 n, .string s], .agg #[.int .i64 k', .int .i64 n', .string s']] w _
  by_cases h : k = k'
  · subst h
    have hve := val_eq k n k n' s s'
    have hb := ftruth_any (veq ⟨k, n, s⟩ ⟨k, n', s'⟩)
    have hs : sameV ⟨k, n, s⟩ ⟨k, n', s'⟩ = (truthV (veq ⟨k, n, s⟩ ⟨k, n', s'⟩), 0) := if_pos rfl
    generalize veq ⟨k, n, s⟩ ⟨k, n', s'⟩ = bb at *
    have HB := Lib.hid hb
    have HS := Lib.hid hs
    clear hb hs
    go_enter Tryz.func139, Tryz.ntmps139
    go_wp2_with fail
    refine (HB.out _).mono ?_
    rintro e w1 ⟨rfl, hb1⟩
    have R1 := Lib.hid ((box3 w _ _ 0 0 ⟨#[]⟩).then_ hb1)
    have D1 := Lib.hid (below3 hb1)
    have c := R1.out.c3
    have f := R1.out.fz
    clear hb1
    go_wp2_with fail
    try simp only [Exit.inBlock, Exit.then]
    refine bodyPost_ret (box_ret2 rfl rfl rfl (R1.out.put _ _ _)) rfl ?_
    exact ⟨ret_v HS.out, below_put D1.out lt2 _ _ _⟩
  · have hk : (k != k') = true := by rw [bne_iff_ne]; exact h
    have HK := Lib.hid h
    clear h
    go_enter Tryz.func139, Tryz.ntmps139
    go_wp2_with fail
    try simp only [Exit.inBlock, Exit.then]
    refine bodyPost_ret (box_ret2 rfl rfl rfl (box3 _ _ _ _ _ _)) rfl ?_
    exact ⟨ret_v (if_neg HK.out), below3 (Below.refl _ _)⟩

theorem fless_is (a b : Vl) (ha : a.s.size ≤ maxLen) (hb : b.s.size ≤ maxLen) (x : Bool) (e : Int) (h : lessOf a b = (x, e)) (w : World) :
    Calls Tryz.prog 96 #[.agg #[.int .i64 a.k, .int .i64 a.n, .string a.s], .agg #[.int .i64 b.k, .int .i64 b.n, .string b.s]] w fun z w' => z = .returned (.tuple #[.bool x, .int .i64 e]) ∧ Below w.heap.size w w' := by
  have := less_any a b ha hb w
  rwa [h] at this

set_option maxHeartbeats 1600000 in
theorem fless_any (a b : Vl) (ha : a.s.size ≤ maxLen) (hb : b.s.size ≤ maxLen) (w : World) : Calls Tryz.prog 140 #[a.val, b.val] w fun e w' => e = .returned (.tuple #[(lessV a b).1.val, .int .i64 (lessV a b).2]) ∧ Below w.heap.size w w' := by
  obtain ⟨x, e, hx⟩ : ∃ x e, lessOf a b = (x, e) := ⟨_, _, rfl⟩
  have hc := fless_is a b ha hb x e hx
  have hl : lessV a b = if e = 0 then (truthV x, 0) else (noneV, e) := by unfold lessV; rw [hx]
  generalize lessV a b = R at *
  obtain ⟨k, n, s⟩ := a
  obtain ⟨k', n', s'⟩ := b
  show Calls _ _ #[.agg #[.int .i64 k, .int .i64 n, .string s], .agg #[.int .i64 k', .int .i64 n', .string s']] w _
  have HC := Lib.hid hc
  clear hc hx
  by_cases h : e = 0
  · subst h
    rw [if_pos rfl] at hl
    have HL := Lib.hid hl
    have HB := Lib.hid (ftruth_any x)
    clear hl
    go_enter Tryz.func140, Tryz.ntmps140
    go_wp2_with fail
    refine (HC.out _).mono ?_
    rintro e w1 ⟨rfl, hb1⟩
    have R1 := Lib.hid ((box3 w _ _ 0 0 ⟨#[]⟩).then_ hb1)
    have D1 := Lib.hid (below3 hb1)
    clear hb1
    go_wp2_with fail
    refine (HB.out _).mono ?_
    rintro e w2 ⟨rfl, hb2⟩
    have R2 := Lib.hid (R1.out.then_ hb2)
    have D2 := Lib.hid (below_step D1.out hb2)
    have c := R2.out.c3
    have f := R2.out.fz
    clear hb2 R1 D1
    go_wp2_with fail
    try simp only [Exit.inBlock, Exit.then]
    refine bodyPost_ret (box_ret2 rfl rfl rfl (R2.out.put _ _ _)) rfl ?_
    exact ⟨ret_v HL.out, below_put D2.out lt2 _ _ _⟩
  · rw [if_neg h] at hl
    have HL := Lib.hid hl
    have he : (e != 0) = true := by rw [bne_iff_ne]; exact h
    clear hl h
    go_enter Tryz.func140, Tryz.ntmps140
    go_wp2_with fail
    refine (HC.out _).mono ?_
    rintro e' w1 ⟨rfl, hb1⟩
    have R1 := Lib.hid ((box3 w _ _ 0 0 ⟨#[]⟩).then_ hb1)
    have D1 := Lib.hid (below3 hb1)
    have c := R1.out.c3
    have f := R1.out.fz
    clear hb1
    go_wp2_with fail
    try simp only [Exit.inBlock, Exit.then]
    refine bodyPost_ret (box_ret2 rfl rfl rfl (R1.out.put _ _ _)) rfl ?_
    exact ⟨ret_v HL.out, below_put D1.out lt2 _ _ _⟩

set_option maxHeartbeats 1600000 in
theorem allright_any {w : World} {B n c : Nat} {A : Option Addr} {l : List Vl} (h : Vs w B A n c l) (hB : B ≤ w.heap.size) :
    Calls Tryz.prog 136 #[.slice A n c] w fun e w' => e = .returned (.bool (allR l)) ∧ Below w.heap.size w w' := by
  have hlen := h.1
  have hcap := h.2.2.1
  have hle := h.2.1
  unfold maxLen at hcap
  have HV := Lib.hid h
  have HL := Lib.hid hlen
  clear h hlen
  go_enter Tryz.func136, Tryz.ntmps136
  go_wp2_with fail
  go_loopw [7] (fun i wr => ∃ k : Nat, k ≤ n ∧ i = .int .i64 k ∧ RightTo l k ∧ Below w.heap.size w wr) (fun i _ => n - (intOf i).toNat)
  case atStart => exact ⟨0, Nat.zero_le _, rfl, fun j x _ hj => by omega, Below.refl _ _⟩
  case round =>
    obtain ⟨k, hk, rfl, ht, hb⟩ := hrel
    have HT := Lib.hid ht
    have HB := Lib.hid hb
    by_cases hlt : k < n
    · obtain ⟨b, o, x, rfl, hbB, hx, hok, x0, x1, x2⟩ := (HV.out.below (hb.mono hB)).at_ hlt
      obtain ⟨kx, nx, sx⟩ := x
      have HX := Lib.hid hx
      have qr := right_any kx nx sx hok.2.2
      have D1 := Lib.hid (hb.alloc hb.size (.cells #[.int .i64 kx, .int .i64 nx, .string sx] 40))
      clear ht hb hx hok
      by_cases hr : RightV kx nx sx.data.toList
      · have HR : Hid (Vl.right ⟨kx, nx, sx⟩) := hr
        rw [decide_eq_true hr] at qr
        have QR := Lib.hid qr
        clear qr hr
        go_wp2_with fail
        refine (QR.out _).mono ?_
        rintro e w2 ⟨rfl, hb2⟩
        have D2 := Lib.hid (below_step D1.out hb2)
        clear hb2
        go_wp2_with fail
        go_roundw
        case rel => exact ⟨k + 1, by omega, by go_num, HT.out.step HX.out HR.out, D2.out⟩
        case measure => simp [intOf]; omega
      · have HR : Hid (¬ Vl.right ⟨kx, nx, sx⟩) := hr
        rw [decide_eq_false hr] at qr
        have QR := Lib.hid qr
        clear qr hr
        go_wp2_with fail
        refine (QR.out _).mono ?_
        rintro e w2 ⟨rfl, hb2⟩
        have D2 := Lib.hid (below_step D1.out hb2)
        clear hb2
        go_wp2_with fail
        go_ret
        exact ⟨ret_bool (allR_bad HX.out HR.out).symm, D2.out⟩
    · obtain rfl : k = n := by omega
      clear ht hb
      go_wp2_with fail
      go_ret
      exact ⟨ret_bool (HT.out.all HL.out).symm, HB.out⟩
end Go.Proofs.YtadjfkgnoklmiaaGreat
/- Package expr's small functions: takes, truth, single, literal. -/
namespace Go.Proofs.YtadjfkgnoklmiaaGreat
set_option linter.unusedVariables false
open Go.RowKit

theorem etakes_any (op : Int) (w : World) : Calls Tryz.prog 43 #[.int .i64 op] w fun e w' => e = .returned (.int .i64 (takesN op : Int)) ∧ w = w' := by
  by_cases h1 : op = 1
  · subst h1
    go_enter Tryz.func43, Tryz.ntmps43
    go_wp2
    go_ret
    exact ⟨rfl, rfl⟩
  by_cases h2 : op = 2
  · subst h2
    go_enter Tryz.func43, Tryz.ntmps43
    go_wp2
    go_ret
    exact ⟨rfl, rfl⟩
  by_cases h3 : op = 3
  · subst h3
    go_enter Tryz.func43, Tryz.ntmps43
    go_wp2
    go_ret
    exact ⟨rfl, rfl⟩
  by_cases h4 : op = 4
  · subst h4
    go_enter Tryz.func43, Tryz.ntmps43
    go_wp2
    go_ret
    exact ⟨rfl, rfl⟩
  by_cases h11 : op = 11
  · subst h11
    go_enter Tryz.func43, Tryz.ntmps43
    go_wp2
    go_ret
    exact ⟨rfl, rfl⟩
  have b1 : (op == 1) = false := by rw [beq_eq_false_iff_ne]; exact h1
  have b2 : (op == 2) = false := by rw [beq_eq_false_iff_ne]; exact h2
  have b3 : (op == 3) = false := by rw [beq_eq_false_iff_ne]; exact h3
  have b4 : (op == 4) = false := by rw [beq_eq_false_iff_ne]; exact h4
  have b11 : (op == 11) = false := by rw [beq_eq_false_iff_ne]; exact h11
  have H : Hid (takesN op = 2) := by show takesN op = 2; unfold takesN; rw [if_neg (by omega), if_neg (by omega)]
  clear h1 h2 h3 h4 h11
  go_enter Tryz.func43, Tryz.ntmps43
  go_wp2
  go_ret
  exact ⟨ret_int (by rw [H.out]; rfl), rfl⟩
theorem etruth_any (b : Bool) (w : World) : Calls Tryz.prog 26 #[.bool b] w fun e w' => e = .returned (.agg #[.int .i64 1, .int .i64 (truthN b), .string ⟨#[]⟩]) ∧ Below w.heap.size w w' := by
  cases b
  all_goals
    go_enter Tryz.func26, Tryz.ntmps26
    go_wp2_with fail
    try simp only [Exit.inBlock, Exit.then]
    refine bodyPost_ret (box_ret rfl rfl ((Bx.made _ _ _ _).alloc _)) rfl ?_
    exact ⟨rfl, below2 _ _ _⟩

theorem eret_pair {v : Vl} {e : Int} {p : Vl × Int} (h : p = (v, e)) : Ending.returned (.tuple #[.agg #[.int .i64 v.k, .int .i64 v.n, .string v.s], .int .i64 e]) = .returned (.tuple #[p.1.val, .int .i64 p.2]) := by rw [h]; rfl
set_option maxHeartbeats 1600000 in
theorem esingle_any {w : World} {R : Nat → Prop} {A : Option Addr} {n c : Nat} {l : List Vl} (h : Vls w R A n c l) :
    Calls Tryz.prog 105 #[.slice A n c] w fun e w' => e = .returned (.tuple #[(singleV l).1.val, .int .i64 (singleV l).2]) ∧ Below w.heap.size w w' := by
  have hle := Rw.le h
  have hcap := Rw.cap h
  have hlen := Rw.len h
  unfold maxLen at hcap
  by_cases h1 : n = 1
  · subst h1
    obtain ⟨v, rfl⟩ := List.length_eq_one_iff.1 hlen
    have h' := h.keep (w' := w.alloc (.cells #[.int .i64 0, .int .i64 0, .string ⟨#[]⟩] 40)) (Kept.all (below1 w _) R) (fun _ h _ => h)
    obtain ⟨b, o, x, rfl, hRb, hbl, hx, hok, x0, x1, x2⟩ := h'.at_ (j := 0) (by omega)
    simp at hx
    subst hx
    simp only [Nat.zero_mul, Nat.add_zero] at x0 x1 x2
    have HQ := Lib.hid (show singleV [v] = (v, 0) from rfl)
    have hR := (Bx.made w 0 0 ⟨#[]⟩)
    have c0 := hR.c3
    have f0 := hR.fz
    clear h hlen h' hRb hok
    go_enter Tryz.func105, Tryz.ntmps105
    go_wp2_with fail
    try simp only [Exit.inBlock, Exit.then]
    refine bodyPost_ret (box_ret2 rfl rfl rfl (Bx.made _ _ _ _)) rfl ?_
    exact ⟨eret_pair HQ.out, below1 _ _⟩
  · have HQ : Hid (singleV l = (noneV, 4)) := by
      show singleV l = _
      match l, hlen with
      | [], _ => rfl
      | [v], e => exact absurd e.symm h1
      | _ :: _ :: _, _ => rfl
    have hne : ((n : Int) != 1) = true := by rw [bne_iff_ne]; omega
    clear h hlen
    go_enter Tryz.func105, Tryz.ntmps105
    go_wp2_with fail
    try simp only [Exit.inBlock, Exit.then]
    refine bodyPost_ret (box_ret2 rfl rfl rfl (Bx.made _ _ _ _)) rfl ?_
    exact ⟨eret_pair (v := noneV) HQ.out, below1 _ _⟩

theorem part_ret {fn : Func} {p : Tmp} {tmps : Array Value} {w : World} {g : Nat} {A : Option Addr} {n c : Nat} {k m e : Int} {s : ByteArray} (h : fn.results = #[.cell p 111]) (hp : tmps.getD p undef = .pointer (some ⟨g, 0, none⟩)) (hg : Ob w g 111 #[.slice A n c, .int .i64 k, .int .i64 m, .string s, .int .i64 e]) :
    (results fn tmps).run Tryz.prog w = .ok (.agg #[.slice A n c, .int .i64 k, .int .i64 m, .string s, .int .i64 e]) w :=
  results_cell_row h tmps w g _ _ (0, 0) _ hp hg Tryz.underlying111 rfl (by kernel_rfl)
theorem ob_put5 {w : World} {g : Nat} {t : TypeId} {x0 x1 x2 x3 x4 : Value} (h : Ob w g t #[x0, x1, x2, x3, x4]) (a b c d e : Value) : Ob (((((w.setCell ⟨g, 0, none⟩ a).setCell ⟨g, 1, none⟩ b).setCell ⟨g, 2, none⟩ c).setCell ⟨g, 3, none⟩ d).setCell ⟨g, 4, none⟩ e) g t #[a, b, c, d, e] := by
  have := ((((h.put 0 a).put 1 b).put 2 c).put 3 d).put 4 e
  simpa using this
theorem below_put5 {w0 w : World} {g B : Nat} (h : Below B w0 w) (hg : B ≤ g) (a b c d e : Value) : Below B w0 (((((w.setCell ⟨g, 0, none⟩ a).setCell ⟨g, 1, none⟩ b).setCell ⟨g, 2, none⟩ c).setCell ⟨g, 3, none⟩ d).setCell ⟨g, 4, none⟩ e) :=
  ((((h.setCell (p := ⟨g, 0, none⟩) hg a).setCell (p := ⟨g, 1, none⟩) hg b).setCell (p := ⟨g, 2, none⟩) hg c).setCell (p := ⟨g, 3, none⟩) hg d).setCell (p := ⟨g, 4, none⟩) hg e
set_option maxRecDepth 100000 in
set_option maxHeartbeats 1600000 in
theorem eliteral_any (v : Vl) (hs : v.s.size ≤ 1000000) (w : World) :
    Calls Tryz.prog 60 #[.agg #[.int .i64 v.k, .int .i64 v.n, .string v.s]] w fun e w' => e = .returned (.agg #[.slice none 0 0, .int .i64 v.k, .int .i64 v.n, .string v.s, .int .i64 0]) ∧ Below w.heap.size w w' := by
  obtain ⟨k, n, s⟩ := v
  simp only at hs ⊢
  have HCL := Lib.hid (fun W => clone_any s W hs)
  have HSZ := Lib.hid (size_al w (.cells #[.int .i64 k, .int .i64 n, .string s] 40))
  go_enter Tryz.func60, Tryz.ntmps60
  go_wp2_with (go_at_call 94; refine (HCL.out _).mono ?_; rintro e w1 ⟨rfl, hb1⟩
               have R1 := Lib.hid (((Bx.made w k n s).alloc (.cells #[.slice none 0 0, .int .i64 0, .int .i64 0, .string ⟨#[]⟩, .int .i64 0] 111)).then_ hb1)
               have O1 := Lib.hid ((Ob.made (w.alloc (.cells #[.int .i64 k, .int .i64 n, .string s] 40)) 111 #[.slice none 0 0, .int .i64 0, .int .i64 0, .string ⟨#[]⟩, .int .i64 0]).below hb1 (by simp))
               have D1 := Lib.hid (Below.lit (Below.lit hb1))
               have c0 := R1.out.c3
               have f0 := R1.out.fz
               rw [HSZ.out] at O1
               have o0 := O1.out.cell
               have g0 := O1.out.frozen
               clear hb1)
  try simp only [Exit.inBlock, Exit.then]
  have O2 := O1.out.keep (w' := w1.setCell ⟨w.heap.size, 2, none⟩ (.string s)) (Below.heap_setCell w1 _ _ _ (by show w.heap.size + 1 ≠ w.heap.size; omega))
  refine bodyPost_ret (part_ret rfl rfl (ob_put5 O2 _ _ _ _ _)) rfl ?_
  exact ⟨rfl, below_put5 (D1.out.setCell (p := ⟨w.heap.size, 2, none⟩) (Nat.le_refl _) _) (by omega) _ _ _ _ _⟩
end Go.Proofs.YtadjfkgnoklmiaaGreat
/- What conditions come to, plainly: expressions behind each other, truths, what isn't asked for. -/
namespace Go.Proofs.YtadjfkgnoklmiaaGreat
set_option linter.unusedVariables false

def condV (v : Vl) : Int := if v = truthV true then 2 else if v = truthV false then 0 else 1
theorem truth_ne : truthV true ≠ truthV false := by decide
theorem condV_t : condV (truthV true) = 2 := if_pos rfl
theorem condV_f : condV (truthV false) = 0 := by unfold condV; rw [if_neg truth_ne.symm, if_pos rfl]
theorem condP_val {ask : List Giv} {l : List Nod} (hn : l ≠ []) : condP ask l = condV (valP ask l).1 := by unfold condP; rw [if_neg hn]; rfl
theorem condV_cases (v : Vl) : v = truthV true ∧ condV v = 2 ∨ v = truthV false ∧ condV v = 0 ∨ (v ≠ truthV true ∧ v ≠ truthV false) ∧ condV v = 1 := by
  by_cases h1 : v = truthV true
  · subst h1; exact .inl ⟨rfl, condV_t⟩
  · by_cases h2 : v = truthV false
    · subst h2; exact .inr (.inl ⟨rfl, condV_f⟩)
    · exact .inr (.inr ⟨⟨h1, h2⟩, by unfold condV; rw [if_neg h1, if_neg h2]⟩)
end Go.Proofs.YtadjfkgnoklmiaaGreat
/- decided: does one of both decide? -/
namespace Go.Proofs.YtadjfkgnoklmiaaGreat
set_option linter.unusedVariables false
open Go.RowKit

set_option maxHeartbeats 1600000 in
theorem edecided_no {op : Int} (h1 : op ≠ 12) (h2 : op ≠ 13) (A : Option Addr) (n c : Nat) (w : World) :
    Calls Tryz.prog 61 #[.int .i64 op, .slice A n c] w fun e w' => e = .returned (.tuple #[.agg #[.int .i64 0, .int .i64 0, .string ⟨#[]⟩], .bool false]) ∧ Below w.heap.size w w' := by
  have b1 : (op != 12) = true := by rw [bne_iff_ne]; exact h1
  have b2 : (op != 13) = true := by rw [bne_iff_ne]; exact h2
  clear h1 h2
  go_enter Tryz.func61, Tryz.ntmps61
  go_wp2_with fail
  try simp only [Exit.inBlock, Exit.then]
  refine bodyPost_ret (box_ret2 rfl rfl rfl (Bx.made _ _ _ _)) rfl ?_
  exact ⟨rfl, below1 _ _⟩
def decV (op : Int) : Vl := truthV (decide (op = 13))
set_option maxRecDepth 100000 in
set_option maxHeartbeats 3200000 in
theorem edecided_two {op : Int} (hop : op = 12 ∨ op = 13) {w : World} {R : Nat → Prop} {A : Option Addr} {c : Nat} {p q : Prt} (h : Prts w R A 2 c [p, q]) :
    Calls Tryz.prog 61 #[.int .i64 op, .slice A 2 c] w fun e w' => e = .returned (.tuple #[.agg #[.int .i64 (if decB op [p, q] = true then 1 else 0), .int .i64 (if decB op [p, q] = true then truthN (decide (op = 13)) else 0), .string ⟨#[]⟩], .bool (decB op [p, q])]) ∧ Below w.heap.size w w' := by
  have hle := Rw.le h
  have hcap := Rw.cap h
  unfold maxLen at hcap
  have HD : Hid (decB op [p, q] = (decide (p.v = decV op) || decide (q.v = decV op))) := by show _ = _; rcases hop with rfl | rfl <;> simp [decB, decV]
  have HT := Lib.hid (etruth_any (decide (op = 13)))
  obtain ⟨b, o, p0, A0, n0, c0, rfl, hRb, hbl, hx, hok, ⟨x0, x1, x2, x3, x4⟩, hin⟩ := h.at_ (j := 0) (by omega)
  obtain ⟨b', o', p1, A1, n1, c1, hA, _, _, hy, hok1, ⟨y0, y1, y2, y3, y4⟩, hin1⟩ := h.at_ (j := 1) (by omega)
  injection hA with hA
  injection hA with hA1 hA2
  subst hA1 hA2
  simp at hx hy
  subst hx hy
  simp only [Nat.zero_mul, Nat.add_zero] at x1 x2 x3
  simp only [Nat.one_mul] at y1 y2 y3
  have KX := Lib.hid (fun W (hW : Below w.heap.size w W) => (⟨(World.cell?_of_block (hW.block b hbl)).trans x1, (World.cell?_of_block (hW.block b hbl)).trans x2, (World.cell?_of_block (hW.block b hbl)).trans x3⟩ : _ ∧ _ ∧ _))
  have KY := Lib.hid (fun W (hW : Below w.heap.size w W) => (⟨(World.cell?_of_block (hW.block b hbl)).trans y1, (World.cell?_of_block (hW.block b hbl)).trans y2, (World.cell?_of_block (hW.block b hbl)).trans y3⟩ : _ ∧ _ ∧ _))
  have two : ∀ (tb : Bool) (tn : Int), (Hid (∀ W : World, Calls Tryz.prog 26 #[.bool tb] W fun e w' => e = .returned (.agg #[.int .i64 1, .int .i64 tn, .string ⟨#[]⟩]) ∧ Below W.heap.size W w')) → decV op = ⟨1, tn, ⟨#[]⟩⟩ → truthN (decide (op = 13)) = tn → ((op == 13) = tb) →
      Calls Tryz.prog 61 #[.int .i64 op, .slice (some ⟨b, o, none⟩) 2 c] w fun e w' => e = .returned (.tuple #[.agg #[.int .i64 (if decB op [p, q] = true then 1 else 0), .int .i64 (if decB op [p, q] = true then truthN (decide (op = 13)) else 0), .string ⟨#[]⟩], .bool (decB op [p, q])]) ∧ Below w.heap.size w w' := by
    intro tb tn HTB hdv htn htb
    rw [hdv] at HD
    rw [htn]
    have hopb : (op != 12 && op != 13) = false := by rcases hop with rfl | rfl <;> rfl
    obtain ⟨pb, ⟨pk, pn, ps⟩, pe⟩ := p
    obtain ⟨qb, ⟨qk, qn, qs⟩, qe⟩ := q
    simp only at KX KY HD
    have e1 := fun W => val_eq pk pn 1 tn ps ⟨#[]⟩ W
    have e2 := fun W => val_eq qk qn 1 tn qs ⟨#[]⟩ W
    generalize decB op _ = dd at *
    have HD' : Hid (dd = (veq ⟨pk, pn, ps⟩ ⟨1, tn, ⟨#[]⟩⟩ || veq ⟨qk, qn, qs⟩ ⟨1, tn, ⟨#[]⟩⟩)) := HD
    generalize veq ⟨pk, pn, ps⟩ ⟨1, tn, ⟨#[]⟩⟩ = v1 at *
    generalize veq ⟨qk, qn, qs⟩ ⟨1, tn, ⟨#[]⟩⟩ = v2 at *
    clear HD hin hin1 x0 x4 y0 y4 x1 x2 x3 y1 y2 y3 h hok hok1 hRb hdv htn HT hop
    obtain ⟨rk, rn, hrk, hrn⟩ : ∃ rk rn, (if dd = true then (1 : Int) else 0) = rk ∧ (if dd = true then tn else 0) = rn := ⟨_, _, rfl, rfl⟩
    rw [hrk, hrn]
    have HRK := Lib.hid hrk
    have HRN := Lib.hid hrn
    clear hrk hrn
    have fin : ∀ v1b v2b : Bool, v1 = v1b → v2 = v2b → Calls Tryz.prog 61 #[.int .i64 op, .slice (some ⟨b, o, none⟩) 2 c] w fun e w' => e = .returned (.tuple #[.agg #[.int .i64 rk, .int .i64 rn, .string ⟨#[]⟩], .bool dd]) ∧ Below w.heap.size w w' := by
      intro v1b v2b ev1 ev2
      subst ev1 ev2
      by_cases h12 : (op != 12) = true
      · have h13 : (op != 13) = false := by rw [h12] at hopb; simpa using hopb
        go_enter Tryz.func61, Tryz.ntmps61
        go_wp2_with (go_at_call 26; refine (HTB.out _).mono ?_; rintro e w1 ⟨rfl, hb1⟩; have B1 := Lib.hid hb1; have R1 := Lib.hid ((Bx.made w 0 0 ⟨#[]⟩).then_ hb1); clear hb1)
        have D2 : Below w.heap.size w (w1.alloc (.cells #[.int .i64 1, .int .i64 tn, .string ⟨#[]⟩] 40)) := (Below.lit B1.out).alloc (Below.lit B1.out).size _
        have KXW := KX.out _ D2
        have KYW := KY.out _ D2
        have z := (Bx.made w1 1 tn ⟨#[]⟩).c3
        have R2 := Lib.hid (R1.out.alloc (.cells #[.int .i64 1, .int .i64 tn, .string ⟨#[]⟩] 40))
        have D2' := Lib.hid D2
        have Z := Lib.hid (Bx.made w1 1 tn ⟨#[]⟩)
        clear D2 R1 KX KY
        generalize hW2 : w1.alloc (.cells #[.int .i64 1, .int .i64 tn, .string ⟨#[]⟩] 40) = W2 at *
        cases v1
        · simp only [Bool.false_or] at HD'
          have hdd := HD'.out
          subst hdd
          cases dd
          · go_quiet (fail)
            have f2 := (R2.out.drewN nq).fz
            have k2 := (R2.out.drewN nq).c3
            go_wp2_with fail
            try simp only [Exit.inBlock, Exit.then]
            refine bodyPost_ret (box_ret2 rfl rfl rfl ((R2.out.drewN nq).put _ _ _)) rfl ?_
            refine ⟨?_, below_put (below_drewN D2'.out nq) (Nat.le_refl _) _ _ _⟩
            rw [← HRK.out, ← HRN.out]
            rfl
          · go_quiet (fail)
            have f2 := (R2.out.drewN nq).fz
            have k2 := (R2.out.drewN nq).c3
            have z2 := (Z.out.drewN nq).c3
            go_wp2_with fail
            try simp only [Exit.inBlock, Exit.then]
            refine bodyPost_ret (box_ret2 rfl rfl rfl ((R2.out.drewN nq).put _ _ _)) rfl ?_
            refine ⟨?_, below_put (below_drewN D2'.out nq) (Nat.le_refl _) _ _ _⟩
            rw [← HRK.out, ← HRN.out]
            rfl
        · simp only [Bool.true_or] at HD'
          have hdd := HD'.out
          subst hdd
          go_quiet (fail)
          have f2 := (R2.out.drewN nq).fz
          have k2 := (R2.out.drewN nq).c3
          have z2 := (Z.out.drewN nq).c3
          go_wp2_with fail
          try simp only [Exit.inBlock, Exit.then]
          refine bodyPost_ret (box_ret2 rfl rfl rfl ((R2.out.drewN nq).put _ _ _)) rfl ?_
          refine ⟨?_, below_put (below_drewN D2'.out nq) (Nat.le_refl _) _ _ _⟩
          rw [← HRK.out, ← HRN.out]
          rfl
      · have h12 : (op != 12) = false := by simpa using h12
        go_enter Tryz.func61, Tryz.ntmps61
        go_wp2_with (go_at_call 26; refine (HTB.out _).mono ?_; rintro e w1 ⟨rfl, hb1⟩; have B1 := Lib.hid hb1; have R1 := Lib.hid ((Bx.made w 0 0 ⟨#[]⟩).then_ hb1); clear hb1)
        have D2 : Below w.heap.size w (w1.alloc (.cells #[.int .i64 1, .int .i64 tn, .string ⟨#[]⟩] 40)) := (Below.lit B1.out).alloc (Below.lit B1.out).size _
        have KXW := KX.out _ D2
        have KYW := KY.out _ D2
        have z := (Bx.made w1 1 tn ⟨#[]⟩).c3
        have R2 := Lib.hid (R1.out.alloc (.cells #[.int .i64 1, .int .i64 tn, .string ⟨#[]⟩] 40))
        have D2' := Lib.hid D2
        have Z := Lib.hid (Bx.made w1 1 tn ⟨#[]⟩)
        clear D2 R1 KX KY
        generalize hW2 : w1.alloc (.cells #[.int .i64 1, .int .i64 tn, .string ⟨#[]⟩] 40) = W2 at *
        cases v1
        · simp only [Bool.false_or] at HD'
          have hdd := HD'.out
          subst hdd
          cases dd
          · go_quiet (fail)
            have f2 := (R2.out.drewN nq).fz
            have k2 := (R2.out.drewN nq).c3
            go_wp2_with fail
            try simp only [Exit.inBlock, Exit.then]
            refine bodyPost_ret (box_ret2 rfl rfl rfl ((R2.out.drewN nq).put _ _ _)) rfl ?_
            refine ⟨?_, below_put (below_drewN D2'.out nq) (Nat.le_refl _) _ _ _⟩
            rw [← HRK.out, ← HRN.out]
            rfl
          · go_quiet (fail)
            have f2 := (R2.out.drewN nq).fz
            have k2 := (R2.out.drewN nq).c3
            have z2 := (Z.out.drewN nq).c3
            go_wp2_with fail
            try simp only [Exit.inBlock, Exit.then]
            refine bodyPost_ret (box_ret2 rfl rfl rfl ((R2.out.drewN nq).put _ _ _)) rfl ?_
            refine ⟨?_, below_put (below_drewN D2'.out nq) (Nat.le_refl _) _ _ _⟩
            rw [← HRK.out, ← HRN.out]
            rfl
        · simp only [Bool.true_or] at HD'
          have hdd := HD'.out
          subst hdd
          go_quiet (fail)
          have f2 := (R2.out.drewN nq).fz
          have k2 := (R2.out.drewN nq).c3
          have z2 := (Z.out.drewN nq).c3
          go_wp2_with fail
          try simp only [Exit.inBlock, Exit.then]
          refine bodyPost_ret (box_ret2 rfl rfl rfl ((R2.out.drewN nq).put _ _ _)) rfl ?_
          refine ⟨?_, below_put (below_drewN D2'.out nq) (Nat.le_refl _) _ _ _⟩
          rw [← HRK.out, ← HRN.out]
          rfl
    exact fin v1 v2 rfl rfl
  rcases hop with rfl | rfl
  · exact two false 0 HT rfl rfl rfl
  · exact two true 1 HT rfl rfl rfl
end Go.Proofs.YtadjfkgnoklmiaaGreat
/- Package fun: judge. -/
namespace Go.Proofs.YtadjfkgnoklmiaaGreat
set_option linter.unusedVariables false
open Go.RowKit

theorem eq_dec {a b : Int} : (a == b) = decide (a = b) := by rw [Bool.eq_iff_iff]; simp
set_option maxHeartbeats 3200000 in
theorem judge_any {w : World} {B n c : Nat} {A : Option Addr} {l : List Vl} (h : Vs w B A n c l) (hB : B ≤ w.heap.size) (hn : n ≤ 1000000) (hR : ∀ v ∈ l, v.right) (op : Int) :
    Calls Tryz.prog 142 #[.int .i64 op, .slice A n c] w fun e w' => e = .returned (.tuple #[(judgeL op l).1.val, .int .i64 (judgeL op l).2]) ∧ Below w.heap.size w w' := by
  have hlen := h.1
  have hcap := h.2.2.1
  have hle := h.2.1
  unfold maxLen at hcap
  have HV := Lib.hid h
  have HL := Lib.hid hlen
  have HR := Lib.hid hR
  clear h hlen hR
  go_enter Tryz.func142, Tryz.ntmps142
  go_wp2_with fail
  go_loopw [6, 11] (fun o i wr => ∃ (k : Nat) (m : Int), k ≤ n ∧ i = .int .i64 k ∧ o = .int .i64 m ∧ KindTo l k m ∧ Bx wr w.heap.size 0 0 ⟨#[]⟩ ∧ Below w.heap.size w wr) (fun _ i _ => n - (intOf i).toNat)
  case atStart => exact ⟨0, 0, Nat.zero_le _, rfl, rfl, ⟨rfl, rfl, Int.le_refl _, Int.le_refl _⟩, Bx.made _ _ _ _, below1 _ _⟩
  case round =>
    obtain ⟨k, m, hk, rfl, rfl, ht, hbx, hb⟩ := hrel
    have HT := Lib.hid ht
    have HB := Lib.hid hb
    have HX := Lib.hid hbx
    have m0 := ht.2.2.1
    have m1 := ht.2.2.2
    by_cases hlt : k < n
    · obtain ⟨b, o, x, rfl, hbB, hx, hok, x0, x1, x2⟩ := (HV.out.below (hb.mono hB)).at_ hlt
      obtain ⟨kx, nx, sx⟩ := x
      have HI := Lib.hid hx
      have D1 := Lib.hid (hb.alloc hb.size (.cells #[.int .i64 kx, .int .i64 nx, .string sx] 40))
      have R1 := Lib.hid (hbx.alloc (.cells #[.int .i64 kx, .int .i64 nx, .string sx] 40))
      have hr := HR.out _ (List.mem_of_getElem? hx)
      have HRX := Lib.hid hr
      have c0 := R1.out.c3
      have f0 := R1.out.fz
      by_cases h1 : kx = 1
      · subst h1
        have hn := truth_n hr rfl
        have hw : IntKind.i64.wrap (m + nx) = m + nx := IntWalk.i64_in _ (by have : nx = 0 ∨ nx = 1 := hn; omega)
        clear ht hb hx hok hbx hr hn
        go_wp2_with fail
        go_roundw
        case rel => exact ⟨k + 1, m + nx, by omega, by go_num, rfl, HT.out.step HI.out HRX.out rfl, R1.out, D1.out⟩
        case measure => simp [intOf]; omega
      · have hne : (kx != 1) = true := by rw [bne_iff_ne]; exact h1
        have H1 := Lib.hid h1
        clear ht hb hx hok hbx hr h1
        go_wp2_with fail
        try simp only [Exit.inBlock, Exit.then]
        refine bodyPost_ret (box_ret2 rfl rfl rfl (R1.out.put _ _ _)) rfl ?_
        exact ⟨ret_v (judge_bad (kinds_bad HI.out H1.out)), below_put D1.out (Nat.le_refl _) _ _ _⟩
    · obtain rfl : k = n := by omega
      have hj := judge_ok (op := op) HT.out HL.out
      clear ht hb hbx
      by_cases h11 : op = 11
      · subst h11
        rw [if_pos rfl] at hj
        have HJ := Lib.hid hj
        clear hj
        have c0 := HX.out.c3
        go_wp2_with fail
        refine (ftruth_any _ _).mono ?_
        rintro e w1 ⟨rfl, hb1⟩
        have R1 := Lib.hid (HX.out.then_ hb1)
        have D1 := Lib.hid (below_step HB.out hb1)
        have c := R1.out.c3
        have f := R1.out.fz
        clear hb1 c0
        go_wp2_with fail
        try simp only [Exit.inBlock, Exit.then]
        refine bodyPost_ret (box_ret2 rfl rfl rfl (R1.out.put _ _ _)) rfl ?_
        exact ⟨ret_v (HJ.out.trans (by first | rfl | rw [eq_dec] | rfl)), below_put D1.out (Nat.le_refl _) _ _ _⟩
      · have h11' : (op == 11) = false := by rw [beq_eq_false_iff_ne]; exact h11
        rw [if_neg h11] at hj
        by_cases h12 : op = 12
        · subst h12
          rw [if_pos rfl] at hj
          have HJ := Lib.hid hj
          clear hj h11
          have c0 := HX.out.c3
          go_wp2_with fail
          refine (ftruth_any _ _).mono ?_
          rintro e w1 ⟨rfl, hb1⟩
          have R1 := Lib.hid (HX.out.then_ hb1)
          have D1 := Lib.hid (below_step HB.out hb1)
          have c := R1.out.c3
          have f := R1.out.fz
          clear hb1 c0
          go_wp2_with fail
          try simp only [Exit.inBlock, Exit.then]
          refine bodyPost_ret (box_ret2 rfl rfl rfl (R1.out.put _ _ _)) rfl ?_
          exact ⟨ret_v (HJ.out.trans (by first | rfl | rw [eq_dec] | rfl)), below_put D1.out (Nat.le_refl _) _ _ _⟩
        · have h12' : (op == 12) = false := by rw [beq_eq_false_iff_ne]; exact h12
          rw [if_neg h12] at hj
          have HJ := Lib.hid hj
          clear hj h11 h12
          have c0 := HX.out.c3
          go_wp2_with fail
          refine (ftruth_any _ _).mono ?_
          rintro e w1 ⟨rfl, hb1⟩
          have R1 := Lib.hid (HX.out.then_ hb1)
          have D1 := Lib.hid (below_step HB.out hb1)
          have c := R1.out.c3
          have f := R1.out.fz
          clear hb1 c0
          go_wp2_with fail
          try simp only [Exit.inBlock, Exit.then]
          refine bodyPost_ret (box_ret2 rfl rfl rfl (R1.out.put _ _ _)) rfl ?_
          exact ⟨ret_v (HJ.out.trans (by first | rfl | rw [eq_dec] | rfl)), below_put D1.out (Nat.le_refl _) _ _ _⟩
end Go.Proofs.YtadjfkgnoklmiaaGreat
/- Package fun: number, reckon, Call. -/
namespace Go.Proofs.YtadjfkgnoklmiaaGreat
set_option linter.unusedVariables false
open Go.RowKit Go.Sort

theorem num_is {f a b x e : Int} {w : World} {id : FuncId} {p : Int × Int} (hp : p = (x, e)) (h : Calls Tryz.prog id #[.int .i64 a, .int .i64 b] w fun z w' => z = .returned (.tuple #[.int .i64 p.1, .int .i64 p.2]) ∧ w = w') :
    Calls Tryz.prog id #[.int .i64 a, .int .i64 b] w fun z w' => z = .returned (.tuple #[.int .i64 x, .int .i64 e]) ∧ w = w' := by rwa [hp] at h
theorem pair_is {id : FuncId} {args : Array Value} {w : World} {P : Vl × Int} {k n e : Int} {s : ByteArray} (hp : P = (⟨k, n, s⟩, e)) (h : Calls Tryz.prog id args w fun z w' => z = .returned (.tuple #[P.1.val, .int .i64 P.2]) ∧ Below w.heap.size w w') :
    Calls Tryz.prog id args w fun z w' => z = .returned (.tuple #[.agg #[.int .i64 k, .int .i64 n, .string s], .int .i64 e]) ∧ Below w.heap.size w w' := by
  rw [hp] at h
  exact h
theorem pair_of (P : Vl × Int) : ∃ k n s e, P = (⟨k, n, s⟩, e) := ⟨_, _, _, _, rfl⟩
theorem fnumber_any (op a b x e : Int) (ho : op = 8 ∨ op = 9 ∨ op = 10) (ha : In64 a) (hb : In64 b) (hx : fits (opF op a b) = (x, e)) (w : World) :
    Calls Tryz.prog 154 #[.int .i64 op, .int .i64 a, .int .i64 b] w fun z w' => z = .returned (.tuple #[.int .i64 x, .int .i64 e]) ∧ w = w' := by
  rcases ho with rfl | rfl | rfl
  · have C := Lib.hid (fun w => num_is (f := 0) hx (add_any a b ha hb w))
    clear ha hb hx
    go_enter Tryz.func154, Tryz.ntmps154
    go_wp2_with fail
    refine (C.out _).mono ?_
    rintro z w' ⟨rfl, rfl⟩
    go_wp2_with fail
    go_ret2
    exact ⟨rfl, rfl⟩
  · have C := Lib.hid (fun w => num_is (f := 0) hx (sub_any a b ha hb w))
    clear ha hb hx
    go_enter Tryz.func154, Tryz.ntmps154
    go_wp2_with fail
    refine (C.out _).mono ?_
    rintro z w' ⟨rfl, rfl⟩
    go_wp2_with fail
    go_ret2
    exact ⟨rfl, rfl⟩
  · have C := Lib.hid (fun w => num_is (f := 0) hx (mul_any a b ha hb w))
    clear ha hb hx
    go_enter Tryz.func154, Tryz.ntmps154
    go_wp2_with fail
    refine (C.out _).mono ?_
    rintro z w' ⟨rfl, rfl⟩
    go_wp2_with fail
    go_ret2
    exact ⟨rfl, rfl⟩

set_option maxHeartbeats 1600000 in
theorem reckon_any (op : Int) (a b : Vl) (ho : op = 8 ∨ op = 9 ∨ op = 10) (ha : In64 a.n) (hb : In64 b.n) (w : World) :
    Calls Tryz.prog 141 #[.int .i64 op, a.val, b.val] w fun z w' => z = .returned (.tuple #[(reckV op a b).1.val, .int .i64 (reckV op a b).2]) ∧ Below w.heap.size w w' := by
  obtain ⟨x, e, hx⟩ : ∃ x e, fits (opF op a.n b.n) = (x, e) := ⟨_, _, rfl⟩
  have C := Lib.hid (fnumber_any op a.n b.n x e ho ha hb hx)
  have HR : Hid (a.k = 2 → b.k = 2 → reckV op a b = if e = 0 then (numV x, 0) else (noneV, e)) := fun h1 h2 => by
    unfold reckV; rw [if_pos ⟨h1, h2⟩, hx]; rfl
  have HN : Hid (¬ (a.k = 2 ∧ b.k = 2) → reckV op a b = (noneV, 2)) := fun h => if_neg h
  clear ha hb hx ho
  generalize reckV op a b = R at *
  obtain ⟨k, n, s⟩ := a
  obtain ⟨k', n', s'⟩ := b
  show Calls _ _ #[_, .agg #[.int .i64 k, .int .i64 n, .string s], .agg #[.int .i64 k', .int .i64 n', .string s']] w _
  by_cases h1 : k = 2
  · by_cases h2 : k' = 2
    · subst h1 h2
      have hr := HR.out rfl rfl
      by_cases he : e = 0
      · subst he
        rw [if_pos rfl] at hr
        have HQ := Lib.hid hr
        clear hr HR HN
        go_enter Tryz.func141, Tryz.ntmps141
        go_wp2_with fail
        refine (C.out _).mono ?_
        rintro z w' ⟨rfl, rfl⟩
        go_wp2_with fail
        try simp only [Exit.inBlock, Exit.then]
        refine bodyPost_ret (box_ret2 rfl rfl rfl (box3 _ _ _ _ _ _)) rfl ?_
        exact ⟨ret_v HQ.out, below3 (Below.refl _ _)⟩
      · have he' : (e != 0) = true := by rw [bne_iff_ne]; exact he
        rw [if_neg he] at hr
        have HQ := Lib.hid hr
        clear hr HR HN he
        go_enter Tryz.func141, Tryz.ntmps141
        go_wp2_with fail
        refine (C.out _).mono ?_
        rintro z w' ⟨rfl, rfl⟩
        go_wp2_with fail
        try simp only [Exit.inBlock, Exit.then]
        refine bodyPost_ret (box_ret2 rfl rfl rfl (box3 _ _ _ _ _ _)) rfl ?_
        exact ⟨ret_v HQ.out, below3 (Below.refl _ _)⟩
    · have hk : (k' != 2) = true := by rw [bne_iff_ne]; exact h2
      subst h1
      have HQ := Lib.hid (HN.out fun h => h2 h.2)
      clear HR HN h2
      go_enter Tryz.func141, Tryz.ntmps141
      go_wp2_with fail
      try simp only [Exit.inBlock, Exit.then]
      refine bodyPost_ret (box_ret2 rfl rfl rfl (box3 _ _ _ _ _ _)) rfl ?_
      exact ⟨ret_v HQ.out, below3 (Below.refl _ _)⟩
  · have hk : (k != 2) = true := by rw [bne_iff_ne]; exact h1
    have HQ := Lib.hid (HN.out fun h => h1 h.1)
    clear HR HN h1
    go_enter Tryz.func141, Tryz.ntmps141
    go_wp2_with fail
    try simp only [Exit.inBlock, Exit.then]
    refine bodyPost_ret (box_ret2 rfl rfl rfl (box3 _ _ _ _ _ _)) rfl ?_
    exact ⟨ret_v HQ.out, below3 (Below.refl _ _)⟩

theorem known_is {op : Int} {b : Bool} (h : decide (6 ≤ op ∧ op ≤ 13) = b) (w : World) : Calls Tryz.prog 137 #[.int .i64 op] w fun e w' => e = .returned (.bool b) ∧ w = w' := by
  have := known_any op w
  rwa [h] at this
theorem takes_is {op : Int} {m : Int} (h : (needs op : Int) = m) (w : World) : Calls Tryz.prog 138 #[.int .i64 op] w fun e w' => e = .returned (.int .i64 m) ∧ w = w' := by
  have := ftakes_any op w
  rwa [h] at this
theorem allright_is {w : World} {B n c : Nat} {A : Option Addr} {l : List Vl} {b : Bool} (hb : allR l = b) (h : Vs w B A n c l) (hB : B ≤ w.heap.size) :
    Calls Tryz.prog 136 #[.slice A n c] w fun e w' => e = .returned (.bool b) ∧ Below w.heap.size w w' := by
  have := allright_any h hB
  rwa [hb] at this
theorem Vs.new {w : World} {B n c : Nat} {A : Option Addr} {l : List Vl} (h : Vs w B A n c l) (hB : B ≤ w.heap.size) (x : Obj) : Vs (w.alloc x) B A n c l := h.keep fun k hk => Below.heap_alloc w x k (by omega)

set_option maxHeartbeats 3200000 in
set_option maxRecDepth 100000 in
theorem call_bad1 {w : World} {B n c : Nat} {A : Option Addr} {l : List Vl} (h : Vs w B A n c l) (hB : B ≤ w.heap.size) (hn : n ≤ 1000000) (op : Int) (ha : allR l = false) :
    Calls Tryz.prog 107 #[.int .i64 op, .slice A n c] w fun e w' => e = .returned (.tuple #[(callV op l).1.val, .int .i64 (callV op l).2]) ∧ Below w.heap.size w w' := by
  have hlen := h.1
  have hcap := h.2.2.1
  have hle := h.2.1
  unfold maxLen at hcap
  have HV := Lib.hid (h.new hB (.cells #[.int .i64 0, .int .i64 0, .string ⟨#[]⟩] 40))
  have HBS : Hid (B ≤ (w.alloc (.cells #[.int .i64 0, .int .i64 0, .string ⟨#[]⟩] 40)).heap.size) := by show _ ≤ _; rw [size_al]; omega
  have HL := Lib.hid hlen
  have HA := Lib.hid ha
  have HQ := Lib.hid (call_bad (op := op) ha)
  clear ha h hlen hB
  go_enter Tryz.func107, Tryz.ntmps107
  go_wp2_with fail
  refine (allright_is HA.out HV.out HBS.out).mono ?_
  rintro e w1 ⟨rfl, hb1⟩
  have R1 := Lib.hid ((Bx.made w 0 0 ⟨#[]⟩).then_ hb1)
  have D1 := Lib.hid (Below.lit hb1)
  have V1 := Lib.hid ((HV.out.more HBS.out).then_ hb1)
  have c0 := R1.out.c3
  have f0 := R1.out.fz
  clear hb1
  go_wp2_with fail
  try simp only [Exit.inBlock, Exit.then]
  refine bodyPost_ret (box_ret2 rfl rfl rfl (R1.out.put _ _ _)) rfl ?_
  exact ⟨ret_v HQ.out, below_put D1.out (Nat.le_refl _) _ _ _⟩

set_option maxHeartbeats 3200000 in
set_option maxRecDepth 100000 in
theorem call_bad2 {w : World} {B n c : Nat} {A : Option Addr} {l : List Vl} (h : Vs w B A n c l) (hB : B ≤ w.heap.size) (hn : n ≤ 1000000) (op : Int) (ha : allR l = true) (hk : ¬ (6 ≤ op ∧ op ≤ 13)) :
    Calls Tryz.prog 107 #[.int .i64 op, .slice A n c] w fun e w' => e = .returned (.tuple #[(callV op l).1.val, .int .i64 (callV op l).2]) ∧ Below w.heap.size w w' := by
  have hlen := h.1
  have hcap := h.2.2.1
  have hle := h.2.1
  unfold maxLen at hcap
  have HV := Lib.hid (h.new hB (.cells #[.int .i64 0, .int .i64 0, .string ⟨#[]⟩] 40))
  have HBS : Hid (B ≤ (w.alloc (.cells #[.int .i64 0, .int .i64 0, .string ⟨#[]⟩] 40)).heap.size) := by show _ ≤ _; rw [size_al]; omega
  have HL := Lib.hid hlen
  have HA := Lib.hid ha
  have HQ := Lib.hid (call_op (l := l) hk)
  have HK := Lib.hid (decide_eq_false hk)
  clear ha h hlen hB hk
  go_enter Tryz.func107, Tryz.ntmps107
  go_wp2_with fail
  refine (allright_is HA.out HV.out HBS.out).mono ?_
  rintro e w1 ⟨rfl, hb1⟩
  have R1 := Lib.hid ((Bx.made w 0 0 ⟨#[]⟩).then_ hb1)
  have D1 := Lib.hid (Below.lit hb1)
  have V1 := Lib.hid ((HV.out.more HBS.out).then_ hb1)
  have c0 := R1.out.c3
  have f0 := R1.out.fz
  clear hb1
  go_wp2_with fail
  refine (known_is HK.out _).mono ?_
  rintro e w' ⟨rfl, rfl⟩
  go_wp2_with fail
  try simp only [Exit.inBlock, Exit.then]
  refine bodyPost_ret (box_ret2 rfl rfl rfl (R1.out.put _ _ _)) rfl ?_
  exact ⟨ret_v HQ.out, below_put D1.out (Nat.le_refl _) _ _ _⟩

set_option maxHeartbeats 3200000 in
set_option maxRecDepth 100000 in
theorem call_bad3 {w : World} {B n c : Nat} {A : Option Addr} {l : List Vl} (h : Vs w B A n c l) (hB : B ≤ w.heap.size) (hn : n ≤ 1000000) (op : Int) (ha : allR l = true) (hk : 6 ≤ op ∧ op ≤ 13) (hl : l.length ≠ needs op) :
    Calls Tryz.prog 107 #[.int .i64 op, .slice A n c] w fun e w' => e = .returned (.tuple #[(callV op l).1.val, .int .i64 (callV op l).2]) ∧ Below w.heap.size w w' := by
  have hlen := h.1
  have hcap := h.2.2.1
  have hle := h.2.1
  unfold maxLen at hcap
  have HV := Lib.hid (h.new hB (.cells #[.int .i64 0, .int .i64 0, .string ⟨#[]⟩] 40))
  have HBS : Hid (B ≤ (w.alloc (.cells #[.int .i64 0, .int .i64 0, .string ⟨#[]⟩] 40)).heap.size) := by show _ ≤ _; rw [size_al]; omega
  have HL := Lib.hid hlen
  have HA := Lib.hid ha
  have HQ := Lib.hid (call_len hl)
  have HK := Lib.hid (decide_eq_true hk)
  obtain ⟨m, hm⟩ : ∃ m : Int, (needs op : Int) = m := ⟨_, rfl⟩
  have HT := Lib.hid hm
  have hne : ((n : Int) != m) = true := by rw [bne_iff_ne]; omega
  clear ha h hlen hB hk hl hm
  go_enter Tryz.func107, Tryz.ntmps107
  go_wp2_with fail
  refine (allright_is HA.out HV.out HBS.out).mono ?_
  rintro e w1 ⟨rfl, hb1⟩
  have R1 := Lib.hid ((Bx.made w 0 0 ⟨#[]⟩).then_ hb1)
  have D1 := Lib.hid (Below.lit hb1)
  have V1 := Lib.hid ((HV.out.more HBS.out).then_ hb1)
  have c0 := R1.out.c3
  have f0 := R1.out.fz
  clear hb1
  go_wp2_with fail
  refine (known_is HK.out _).mono ?_
  rintro e w' ⟨rfl, rfl⟩
  go_wp2_with fail
  refine (takes_is HT.out _).mono ?_
  rintro e w' ⟨rfl, rfl⟩
  go_wp2_with fail
  try simp only [Exit.inBlock, Exit.then]
  refine bodyPost_ret (box_ret2 rfl rfl rfl (R1.out.put _ _ _)) rfl ?_
  exact ⟨ret_v HQ.out, below_put D1.out (Nat.le_refl _) _ _ _⟩

theorem two_of {l : List Vl} (h : l.length = 2) : ∃ a b, l = [a, b] := by
  match l, h with
  | [a, b], _ => exact ⟨a, b, rfl⟩
theorem one_of {l : List Vl} (h : l.length = 1) : ∃ a, l = [a] := by
  match l, h with
  | [a], _ => exact ⟨a, rfl⟩

set_option maxHeartbeats 3200000 in
set_option maxRecDepth 100000 in
theorem call_6 {w : World} {B c : Nat} {A : Option Addr} {a b : Vl} (h : Vs w B A 2 c [a, b]) (hB : B ≤ w.heap.size) (ha : allR [a, b] = true) :
    Calls Tryz.prog 107 #[.int .i64 6, .slice A 2 c] w fun e w' => e = .returned (.tuple #[(callV 6 [a, b]).1.val, .int .i64 (callV 6 [a, b]).2]) ∧ Below w.heap.size w w' := by
  have hlen := h.1
  have hcap := h.2.2.1
  have hle := h.2.1
  unfold maxLen at hcap
  have HV := Lib.hid (h.new hB (.cells #[.int .i64 0, .int .i64 0, .string ⟨#[]⟩] 40))
  have HBS : Hid (B ≤ (w.alloc (.cells #[.int .i64 0, .int .i64 0, .string ⟨#[]⟩] 40)).heap.size) := by show _ ≤ _; rw [size_al]; omega
  have HL := Lib.hid hlen
  have HA := Lib.hid ha
  have hq : callV 6 [a, b] = sameV a b := (call_ok ha (by decide) rfl).trans rfl
  obtain ⟨rk, rn, rs, re, hp⟩ := pair_of (sameV a b)
  have HQ := Lib.hid (hq.trans hp)
  have HP := Lib.hid hp
  have OA := Lib.hid (h.2.2.2.2 a (by simp))
  have OB := Lib.hid (h.2.2.2.2 b (by simp))
  have RA := Lib.hid (allR_iff.1 ha a (by simp))
  have RB := Lib.hid (allR_iff.1 ha b (by simp))
  have HK : Hid (decide (6 ≤ (6 : Int) ∧ (6 : Int) ≤ 13) = true) := by show _ = _; decide
  have HT : Hid ((needs 6 : Int) = 2) := rfl
  clear ha h hlen hB hq hp
  generalize callV 6 [a, b] = RR at *
  go_enter Tryz.func107, Tryz.ntmps107
  go_wp2_with fail
  refine (allright_is HA.out HV.out HBS.out).mono ?_
  rintro e w1 ⟨rfl, hb1⟩
  have R1 := Lib.hid ((Bx.made w 0 0 ⟨#[]⟩).then_ hb1)
  have D1 := Lib.hid (Below.lit hb1)
  have V1 := Lib.hid ((HV.out.more HBS.out).then_ hb1)
  have c0 := R1.out.c3
  have f0 := R1.out.fz
  clear hb1
  go_wp2_with fail
  refine (known_is HK.out _).mono ?_
  rintro e w' ⟨rfl, rfl⟩
  go_wp2_with fail
  refine (takes_is HT.out _).mono ?_
  rintro e w' ⟨rfl, rfl⟩
  obtain ⟨b0, o0, x, hA, hbB, hx, hok, x0, x1, x2⟩ := V1.out.at_ (k := 0) (by omega)
  subst hA
  obtain ⟨b1, o1, y, hA', _, hy, _, y0, y1, y2⟩ := V1.out.at_ (k := 1) (by omega)
  injection hA' with hA'
  injection hA' with e1 e2
  subst e1 e2
  obtain rfl : a = x := Option.some.inj hx
  obtain rfl : b = y := Option.some.inj hy
  simp only [Nat.zero_mul, Nat.one_mul, Nat.add_zero] at x0 x1 x2 y0 y1 y2
  clear hx hy hok
  have QC := Lib.hid (fun d os => Calls.regrown_of (w := w1) (d := d) (os := os) (pair_is HP.out (same_any a b (grow (redrawn w1 d) os))))
  obtain ⟨k, n, s⟩ := a
  obtain ⟨k', n', s'⟩ := b
  go_wp2_with fail
  have z0 := fun d os => cell_regrown x0 d os
  have z1 := fun d os => cell_regrown x1 d os
  have z2 := fun d os => cell_regrown x2 d os
  have z3 := fun d os => cell_regrown y0 d os
  have z4 := fun d os => cell_regrown y1 d os
  have z5 := fun d os => cell_regrown y2 d os
  refine wp_region_below_tail 9 (by kernel_rfl) (by kernel_rfl) ?_
  simp only [List.take_succ_cons, List.take_zero, List.drop_succ_cons, List.drop_zero]
  repeat (go_big_quiet_step ((go_at_call 139; exact QC.out _ _)))
  refine wpQuiet_nil ?_
  intro _ hw'
  obtain ⟨⟨dq, osq⟩, hw''⟩ := hw'
  subst hw''
  have hbel := below_regrown w1 dq osq
  have R3 := Lib.hid (R1.out.then_ hbel)
  have D3 := Lib.hid (below_step D1.out hbel)
  clear hbel c0 f0 R1 D1 z0 z1 z2 z3 z4 z5 QC
  have c0 := R3.out.c3
  have f0 := R3.out.fz
  go_wp2_with fail
  try simp only [Exit.inBlock, Exit.then]
  refine bodyPost_ret (box_ret2 rfl rfl rfl (R3.out.put _ _ _)) rfl ?_
  exact ⟨ret_v HQ.out, below_put D3.out (Nat.le_refl _) _ _ _⟩

set_option maxHeartbeats 3200000 in
set_option maxRecDepth 100000 in
theorem call_7 {w : World} {B c : Nat} {A : Option Addr} {a b : Vl} (h : Vs w B A 2 c [a, b]) (hB : B ≤ w.heap.size) (ha : allR [a, b] = true) :
    Calls Tryz.prog 107 #[.int .i64 7, .slice A 2 c] w fun e w' => e = .returned (.tuple #[(callV 7 [a, b]).1.val, .int .i64 (callV 7 [a, b]).2]) ∧ Below w.heap.size w w' := by
  have hlen := h.1
  have hcap := h.2.2.1
  have hle := h.2.1
  unfold maxLen at hcap
  have HV := Lib.hid (h.new hB (.cells #[.int .i64 0, .int .i64 0, .string ⟨#[]⟩] 40))
  have HBS : Hid (B ≤ (w.alloc (.cells #[.int .i64 0, .int .i64 0, .string ⟨#[]⟩] 40)).heap.size) := by show _ ≤ _; rw [size_al]; omega
  have HL := Lib.hid hlen
  have HA := Lib.hid ha
  have hq : callV 7 [a, b] = lessV a b := (call_ok ha (by decide) rfl).trans rfl
  obtain ⟨rk, rn, rs, re, hp⟩ := pair_of (lessV a b)
  have HQ := Lib.hid (hq.trans hp)
  have HP := Lib.hid hp
  have OA := Lib.hid (h.2.2.2.2 a (by simp))
  have OB := Lib.hid (h.2.2.2.2 b (by simp))
  have RA := Lib.hid (allR_iff.1 ha a (by simp))
  have RB := Lib.hid (allR_iff.1 ha b (by simp))
  have HK : Hid (decide (6 ≤ (7 : Int) ∧ (7 : Int) ≤ 13) = true) := by show _ = _; decide
  have HT : Hid ((needs 7 : Int) = 2) := rfl
  clear ha h hlen hB hq hp
  generalize callV 7 [a, b] = RR at *
  go_enter Tryz.func107, Tryz.ntmps107
  go_wp2_with fail
  refine (allright_is HA.out HV.out HBS.out).mono ?_
  rintro e w1 ⟨rfl, hb1⟩
  have R1 := Lib.hid ((Bx.made w 0 0 ⟨#[]⟩).then_ hb1)
  have D1 := Lib.hid (Below.lit hb1)
  have V1 := Lib.hid ((HV.out.more HBS.out).then_ hb1)
  have c0 := R1.out.c3
  have f0 := R1.out.fz
  clear hb1
  go_wp2_with fail
  refine (known_is HK.out _).mono ?_
  rintro e w' ⟨rfl, rfl⟩
  go_wp2_with fail
  refine (takes_is HT.out _).mono ?_
  rintro e w' ⟨rfl, rfl⟩
  obtain ⟨b0, o0, x, hA, hbB, hx, hok, x0, x1, x2⟩ := V1.out.at_ (k := 0) (by omega)
  subst hA
  obtain ⟨b1, o1, y, hA', _, hy, _, y0, y1, y2⟩ := V1.out.at_ (k := 1) (by omega)
  injection hA' with hA'
  injection hA' with e1 e2
  subst e1 e2
  obtain rfl : a = x := Option.some.inj hx
  obtain rfl : b = y := Option.some.inj hy
  simp only [Nat.zero_mul, Nat.one_mul, Nat.add_zero] at x0 x1 x2 y0 y1 y2
  clear hx hy hok
  have QC := Lib.hid (fun d os => Calls.regrown_of (w := w1) (d := d) (os := os) (pair_is HP.out (fless_any a b OA.out.2.2 OB.out.2.2 (grow (redrawn w1 d) os))))
  obtain ⟨k, n, s⟩ := a
  obtain ⟨k', n', s'⟩ := b
  go_wp2_with fail
  have z0 := fun d os => cell_regrown x0 d os
  have z1 := fun d os => cell_regrown x1 d os
  have z2 := fun d os => cell_regrown x2 d os
  have z3 := fun d os => cell_regrown y0 d os
  have z4 := fun d os => cell_regrown y1 d os
  have z5 := fun d os => cell_regrown y2 d os
  refine wp_region_below_tail 9 (by kernel_rfl) (by kernel_rfl) ?_
  simp only [List.take_succ_cons, List.take_zero, List.drop_succ_cons, List.drop_zero]
  repeat (go_big_quiet_step ((go_at_call 140; exact QC.out _ _)))
  refine wpQuiet_nil ?_
  intro _ hw'
  obtain ⟨⟨dq, osq⟩, hw''⟩ := hw'
  subst hw''
  have hbel := below_regrown w1 dq osq
  have R3 := Lib.hid (R1.out.then_ hbel)
  have D3 := Lib.hid (below_step D1.out hbel)
  clear hbel c0 f0 R1 D1 z0 z1 z2 z3 z4 z5 QC
  have c0 := R3.out.c3
  have f0 := R3.out.fz
  go_wp2_with fail
  try simp only [Exit.inBlock, Exit.then]
  refine bodyPost_ret (box_ret2 rfl rfl rfl (R3.out.put _ _ _)) rfl ?_
  exact ⟨ret_v HQ.out, below_put D3.out (Nat.le_refl _) _ _ _⟩

set_option maxHeartbeats 3200000 in
set_option maxRecDepth 100000 in
theorem call_8 {w : World} {B c : Nat} {A : Option Addr} {a b : Vl} (h : Vs w B A 2 c [a, b]) (hB : B ≤ w.heap.size) (ha : allR [a, b] = true) :
    Calls Tryz.prog 107 #[.int .i64 8, .slice A 2 c] w fun e w' => e = .returned (.tuple #[(callV 8 [a, b]).1.val, .int .i64 (callV 8 [a, b]).2]) ∧ Below w.heap.size w w' := by
  have hlen := h.1
  have hcap := h.2.2.1
  have hle := h.2.1
  unfold maxLen at hcap
  have HV := Lib.hid (h.new hB (.cells #[.int .i64 0, .int .i64 0, .string ⟨#[]⟩] 40))
  have HBS : Hid (B ≤ (w.alloc (.cells #[.int .i64 0, .int .i64 0, .string ⟨#[]⟩] 40)).heap.size) := by show _ ≤ _; rw [size_al]; omega
  have HL := Lib.hid hlen
  have HA := Lib.hid ha
  have hq : callV 8 [a, b] = reckV 8 a b := (call_ok ha (by decide) rfl).trans rfl
  obtain ⟨rk, rn, rs, re, hp⟩ := pair_of (reckV 8 a b)
  have HQ := Lib.hid (hq.trans hp)
  have HP := Lib.hid hp
  have OA := Lib.hid (h.2.2.2.2 a (by simp))
  have OB := Lib.hid (h.2.2.2.2 b (by simp))
  have RA := Lib.hid (allR_iff.1 ha a (by simp))
  have RB := Lib.hid (allR_iff.1 ha b (by simp))
  have HK : Hid (decide (6 ≤ (8 : Int) ∧ (8 : Int) ≤ 13) = true) := by show _ = _; decide
  have HT : Hid ((needs 8 : Int) = 2) := rfl
  clear ha h hlen hB hq hp
  generalize callV 8 [a, b] = RR at *
  go_enter Tryz.func107, Tryz.ntmps107
  go_wp2_with fail
  refine (allright_is HA.out HV.out HBS.out).mono ?_
  rintro e w1 ⟨rfl, hb1⟩
  have R1 := Lib.hid ((Bx.made w 0 0 ⟨#[]⟩).then_ hb1)
  have D1 := Lib.hid (Below.lit hb1)
  have V1 := Lib.hid ((HV.out.more HBS.out).then_ hb1)
  have c0 := R1.out.c3
  have f0 := R1.out.fz
  clear hb1
  go_wp2_with fail
  refine (known_is HK.out _).mono ?_
  rintro e w' ⟨rfl, rfl⟩
  go_wp2_with fail
  refine (takes_is HT.out _).mono ?_
  rintro e w' ⟨rfl, rfl⟩
  obtain ⟨b0, o0, x, hA, hbB, hx, hok, x0, x1, x2⟩ := V1.out.at_ (k := 0) (by omega)
  subst hA
  obtain ⟨b1, o1, y, hA', _, hy, _, y0, y1, y2⟩ := V1.out.at_ (k := 1) (by omega)
  injection hA' with hA'
  injection hA' with e1 e2
  subst e1 e2
  obtain rfl : a = x := Option.some.inj hx
  obtain rfl : b = y := Option.some.inj hy
  simp only [Nat.zero_mul, Nat.one_mul, Nat.add_zero] at x0 x1 x2 y0 y1 y2
  clear hx hy hok
  have QC := Lib.hid (fun d os => Calls.regrown_of (w := w1) (d := d) (os := os) (pair_is HP.out (reckon_any 8 a b (.inl rfl) OA.out.2.1 OB.out.2.1 (grow (redrawn w1 d) os))))
  obtain ⟨k, n, s⟩ := a
  obtain ⟨k', n', s'⟩ := b
  go_wp2_with fail
  have z0 := fun d os => cell_regrown x0 d os
  have z1 := fun d os => cell_regrown x1 d os
  have z2 := fun d os => cell_regrown x2 d os
  have z3 := fun d os => cell_regrown y0 d os
  have z4 := fun d os => cell_regrown y1 d os
  have z5 := fun d os => cell_regrown y2 d os
  refine wp_region_below_tail 10 (by kernel_rfl) (by kernel_rfl) ?_
  simp only [List.take_succ_cons, List.take_zero, List.drop_succ_cons, List.drop_zero]
  repeat (go_big_quiet_step ((go_at_call 141; exact QC.out _ _)))
  refine wpQuiet_nil ?_
  intro _ hw'
  obtain ⟨⟨dq, osq⟩, hw''⟩ := hw'
  subst hw''
  have hbel := below_regrown w1 dq osq
  have R3 := Lib.hid (R1.out.then_ hbel)
  have D3 := Lib.hid (below_step D1.out hbel)
  clear hbel c0 f0 R1 D1 z0 z1 z2 z3 z4 z5 QC
  have c0 := R3.out.c3
  have f0 := R3.out.fz
  go_wp2_with fail
  try simp only [Exit.inBlock, Exit.then]
  refine bodyPost_ret (box_ret2 rfl rfl rfl (R3.out.put _ _ _)) rfl ?_
  exact ⟨ret_v HQ.out, below_put D3.out (Nat.le_refl _) _ _ _⟩

set_option maxHeartbeats 3200000 in
set_option maxRecDepth 100000 in
theorem call_9 {w : World} {B c : Nat} {A : Option Addr} {a b : Vl} (h : Vs w B A 2 c [a, b]) (hB : B ≤ w.heap.size) (ha : allR [a, b] = true) :
    Calls Tryz.prog 107 #[.int .i64 9, .slice A 2 c] w fun e w' => e = .returned (.tuple #[(callV 9 [a, b]).1.val, .int .i64 (callV 9 [a, b]).2]) ∧ Below w.heap.size w w' := by
  have hlen := h.1
  have hcap := h.2.2.1
  have hle := h.2.1
  unfold maxLen at hcap
  have HV := Lib.hid (h.new hB (.cells #[.int .i64 0, .int .i64 0, .string ⟨#[]⟩] 40))
  have HBS : Hid (B ≤ (w.alloc (.cells #[.int .i64 0, .int .i64 0, .string ⟨#[]⟩] 40)).heap.size) := by show _ ≤ _; rw [size_al]; omega
  have HL := Lib.hid hlen
  have HA := Lib.hid ha
  have hq : callV 9 [a, b] = reckV 9 a b := (call_ok ha (by decide) rfl).trans rfl
  obtain ⟨rk, rn, rs, re, hp⟩ := pair_of (reckV 9 a b)
  have HQ := Lib.hid (hq.trans hp)
  have HP := Lib.hid hp
  have OA := Lib.hid (h.2.2.2.2 a (by simp))
  have OB := Lib.hid (h.2.2.2.2 b (by simp))
  have RA := Lib.hid (allR_iff.1 ha a (by simp))
  have RB := Lib.hid (allR_iff.1 ha b (by simp))
  have HK : Hid (decide (6 ≤ (9 : Int) ∧ (9 : Int) ≤ 13) = true) := by show _ = _; decide
  have HT : Hid ((needs 9 : Int) = 2) := rfl
  clear ha h hlen hB hq hp
  generalize callV 9 [a, b] = RR at *
  go_enter Tryz.func107, Tryz.ntmps107
  go_wp2_with fail
  refine (allright_is HA.out HV.out HBS.out).mono ?_
  rintro e w1 ⟨rfl, hb1⟩
  have R1 := Lib.hid ((Bx.made w 0 0 ⟨#[]⟩).then_ hb1)
  have D1 := Lib.hid (Below.lit hb1)
  have V1 := Lib.hid ((HV.out.more HBS.out).then_ hb1)
  have c0 := R1.out.c3
  have f0 := R1.out.fz
  clear hb1
  go_wp2_with fail
  refine (known_is HK.out _).mono ?_
  rintro e w' ⟨rfl, rfl⟩
  go_wp2_with fail
  refine (takes_is HT.out _).mono ?_
  rintro e w' ⟨rfl, rfl⟩
  obtain ⟨b0, o0, x, hA, hbB, hx, hok, x0, x1, x2⟩ := V1.out.at_ (k := 0) (by omega)
  subst hA
  obtain ⟨b1, o1, y, hA', _, hy, _, y0, y1, y2⟩ := V1.out.at_ (k := 1) (by omega)
  injection hA' with hA'
  injection hA' with e1 e2
  subst e1 e2
  obtain rfl : a = x := Option.some.inj hx
  obtain rfl : b = y := Option.some.inj hy
  simp only [Nat.zero_mul, Nat.one_mul, Nat.add_zero] at x0 x1 x2 y0 y1 y2
  clear hx hy hok
  have QC := Lib.hid (fun d os => Calls.regrown_of (w := w1) (d := d) (os := os) (pair_is HP.out (reckon_any 9 a b (.inr (.inl rfl)) OA.out.2.1 OB.out.2.1 (grow (redrawn w1 d) os))))
  obtain ⟨k, n, s⟩ := a
  obtain ⟨k', n', s'⟩ := b
  go_wp2_with fail
  have z0 := fun d os => cell_regrown x0 d os
  have z1 := fun d os => cell_regrown x1 d os
  have z2 := fun d os => cell_regrown x2 d os
  have z3 := fun d os => cell_regrown y0 d os
  have z4 := fun d os => cell_regrown y1 d os
  have z5 := fun d os => cell_regrown y2 d os
  refine wp_region_below_tail 10 (by kernel_rfl) (by kernel_rfl) ?_
  simp only [List.take_succ_cons, List.take_zero, List.drop_succ_cons, List.drop_zero]
  repeat (go_big_quiet_step ((go_at_call 141; exact QC.out _ _)))
  refine wpQuiet_nil ?_
  intro _ hw'
  obtain ⟨⟨dq, osq⟩, hw''⟩ := hw'
  subst hw''
  have hbel := below_regrown w1 dq osq
  have R3 := Lib.hid (R1.out.then_ hbel)
  have D3 := Lib.hid (below_step D1.out hbel)
  clear hbel c0 f0 R1 D1 z0 z1 z2 z3 z4 z5 QC
  have c0 := R3.out.c3
  have f0 := R3.out.fz
  go_wp2_with fail
  try simp only [Exit.inBlock, Exit.then]
  refine bodyPost_ret (box_ret2 rfl rfl rfl (R3.out.put _ _ _)) rfl ?_
  exact ⟨ret_v HQ.out, below_put D3.out (Nat.le_refl _) _ _ _⟩

set_option maxHeartbeats 3200000 in
set_option maxRecDepth 100000 in
theorem call_10 {w : World} {B c : Nat} {A : Option Addr} {a b : Vl} (h : Vs w B A 2 c [a, b]) (hB : B ≤ w.heap.size) (ha : allR [a, b] = true) :
    Calls Tryz.prog 107 #[.int .i64 10, .slice A 2 c] w fun e w' => e = .returned (.tuple #[(callV 10 [a, b]).1.val, .int .i64 (callV 10 [a, b]).2]) ∧ Below w.heap.size w w' := by
  have hlen := h.1
  have hcap := h.2.2.1
  have hle := h.2.1
  unfold maxLen at hcap
  have HV := Lib.hid (h.new hB (.cells #[.int .i64 0, .int .i64 0, .string ⟨#[]⟩] 40))
  have HBS : Hid (B ≤ (w.alloc (.cells #[.int .i64 0, .int .i64 0, .string ⟨#[]⟩] 40)).heap.size) := by show _ ≤ _; rw [size_al]; omega
  have HL := Lib.hid hlen
  have HA := Lib.hid ha
  have hq : callV 10 [a, b] = reckV 10 a b := (call_ok ha (by decide) rfl).trans rfl
  obtain ⟨rk, rn, rs, re, hp⟩ := pair_of (reckV 10 a b)
  have HQ := Lib.hid (hq.trans hp)
  have HP := Lib.hid hp
  have OA := Lib.hid (h.2.2.2.2 a (by simp))
  have OB := Lib.hid (h.2.2.2.2 b (by simp))
  have RA := Lib.hid (allR_iff.1 ha a (by simp))
  have RB := Lib.hid (allR_iff.1 ha b (by simp))
  have HK : Hid (decide (6 ≤ (10 : Int) ∧ (10 : Int) ≤ 13) = true) := by show _ = _; decide
  have HT : Hid ((needs 10 : Int) = 2) := rfl
  clear ha h hlen hB hq hp
  generalize callV 10 [a, b] = RR at *
  go_enter Tryz.func107, Tryz.ntmps107
  go_wp2_with fail
  refine (allright_is HA.out HV.out HBS.out).mono ?_
  rintro e w1 ⟨rfl, hb1⟩
  have R1 := Lib.hid ((Bx.made w 0 0 ⟨#[]⟩).then_ hb1)
  have D1 := Lib.hid (Below.lit hb1)
  have V1 := Lib.hid ((HV.out.more HBS.out).then_ hb1)
  have c0 := R1.out.c3
  have f0 := R1.out.fz
  clear hb1
  go_wp2_with fail
  refine (known_is HK.out _).mono ?_
  rintro e w' ⟨rfl, rfl⟩
  go_wp2_with fail
  refine (takes_is HT.out _).mono ?_
  rintro e w' ⟨rfl, rfl⟩
  obtain ⟨b0, o0, x, hA, hbB, hx, hok, x0, x1, x2⟩ := V1.out.at_ (k := 0) (by omega)
  subst hA
  obtain ⟨b1, o1, y, hA', _, hy, _, y0, y1, y2⟩ := V1.out.at_ (k := 1) (by omega)
  injection hA' with hA'
  injection hA' with e1 e2
  subst e1 e2
  obtain rfl : a = x := Option.some.inj hx
  obtain rfl : b = y := Option.some.inj hy
  simp only [Nat.zero_mul, Nat.one_mul, Nat.add_zero] at x0 x1 x2 y0 y1 y2
  clear hx hy hok
  have QC := Lib.hid (fun d os => Calls.regrown_of (w := w1) (d := d) (os := os) (pair_is HP.out (reckon_any 10 a b (.inr (.inr rfl)) OA.out.2.1 OB.out.2.1 (grow (redrawn w1 d) os))))
  obtain ⟨k, n, s⟩ := a
  obtain ⟨k', n', s'⟩ := b
  go_wp2_with fail
  have z0 := fun d os => cell_regrown x0 d os
  have z1 := fun d os => cell_regrown x1 d os
  have z2 := fun d os => cell_regrown x2 d os
  have z3 := fun d os => cell_regrown y0 d os
  have z4 := fun d os => cell_regrown y1 d os
  have z5 := fun d os => cell_regrown y2 d os
  refine wp_region_below_tail 10 (by kernel_rfl) (by kernel_rfl) ?_
  simp only [List.take_succ_cons, List.take_zero, List.drop_succ_cons, List.drop_zero]
  repeat (go_big_quiet_step ((go_at_call 141; exact QC.out _ _)))
  refine wpQuiet_nil ?_
  intro _ hw'
  obtain ⟨⟨dq, osq⟩, hw''⟩ := hw'
  subst hw''
  have hbel := below_regrown w1 dq osq
  have R3 := Lib.hid (R1.out.then_ hbel)
  have D3 := Lib.hid (below_step D1.out hbel)
  clear hbel c0 f0 R1 D1 z0 z1 z2 z3 z4 z5 QC
  have c0 := R3.out.c3
  have f0 := R3.out.fz
  go_wp2_with fail
  try simp only [Exit.inBlock, Exit.then]
  refine bodyPost_ret (box_ret2 rfl rfl rfl (R3.out.put _ _ _)) rfl ?_
  exact ⟨ret_v HQ.out, below_put D3.out (Nat.le_refl _) _ _ _⟩

set_option maxHeartbeats 3200000 in
set_option maxRecDepth 100000 in
theorem call_12 {w : World} {B c : Nat} {A : Option Addr} {a b : Vl} (h : Vs w B A 2 c [a, b]) (hB : B ≤ w.heap.size) (ha : allR [a, b] = true) :
    Calls Tryz.prog 107 #[.int .i64 12, .slice A 2 c] w fun e w' => e = .returned (.tuple #[(callV 12 [a, b]).1.val, .int .i64 (callV 12 [a, b]).2]) ∧ Below w.heap.size w w' := by
  have hlen := h.1
  have hcap := h.2.2.1
  have hle := h.2.1
  unfold maxLen at hcap
  have HV := Lib.hid (h.new hB (.cells #[.int .i64 0, .int .i64 0, .string ⟨#[]⟩] 40))
  have HBS : Hid (B ≤ (w.alloc (.cells #[.int .i64 0, .int .i64 0, .string ⟨#[]⟩] 40)).heap.size) := by show _ ≤ _; rw [size_al]; omega
  have HL := Lib.hid hlen
  have HA := Lib.hid ha
  have hq : callV 12 [a, b] = bothV 12 a b := (call_ok ha (by decide) rfl).trans rfl
  obtain ⟨rk, rn, rs, re, hp⟩ := pair_of (bothV 12 a b)
  have HQ := Lib.hid (hq.trans hp)
  have HP := Lib.hid hp
  have OA := Lib.hid (h.2.2.2.2 a (by simp))
  have OB := Lib.hid (h.2.2.2.2 b (by simp))
  have RA := Lib.hid (allR_iff.1 ha a (by simp))
  have RB := Lib.hid (allR_iff.1 ha b (by simp))
  have HK : Hid (decide (6 ≤ (12 : Int) ∧ (12 : Int) ≤ 13) = true) := by show _ = _; decide
  have HT : Hid ((needs 12 : Int) = 2) := rfl
  clear ha h hlen hB hq hp
  generalize callV 12 [a, b] = RR at *
  go_enter Tryz.func107, Tryz.ntmps107
  go_wp2_with fail
  refine (allright_is HA.out HV.out HBS.out).mono ?_
  rintro e w1 ⟨rfl, hb1⟩
  have R1 := Lib.hid ((Bx.made w 0 0 ⟨#[]⟩).then_ hb1)
  have D1 := Lib.hid (Below.lit hb1)
  have V1 := Lib.hid ((HV.out.more HBS.out).then_ hb1)
  have c0 := R1.out.c3
  have f0 := R1.out.fz
  clear hb1
  go_wp2_with fail
  refine (known_is HK.out _).mono ?_
  rintro e w' ⟨rfl, rfl⟩
  go_wp2_with fail
  refine (takes_is HT.out _).mono ?_
  rintro e w' ⟨rfl, rfl⟩
  have C := Lib.hid (pair_is ((judge_two (.inl rfl) RA.out RB.out).trans HP.out) (judge_any V1.out (Nat.le_refl _) (by omega) (allR_iff.1 HA.out) 12))
  go_wp2_with fail
  refine C.out.mono ?_
  rintro e w3 ⟨rfl, hb3⟩
  have R3 := Lib.hid (R1.out.then_ hb3)
  have D3 := Lib.hid (below_step D1.out hb3)
  clear hb3 c0 f0 R1 D1
  have c0 := R3.out.c3
  have f0 := R3.out.fz
  go_wp2_with fail
  try simp only [Exit.inBlock, Exit.then]
  refine bodyPost_ret (box_ret2 rfl rfl rfl (R3.out.put _ _ _)) rfl ?_
  exact ⟨ret_v HQ.out, below_put D3.out (Nat.le_refl _) _ _ _⟩

set_option maxHeartbeats 3200000 in
set_option maxRecDepth 100000 in
theorem call_13 {w : World} {B c : Nat} {A : Option Addr} {a b : Vl} (h : Vs w B A 2 c [a, b]) (hB : B ≤ w.heap.size) (ha : allR [a, b] = true) :
    Calls Tryz.prog 107 #[.int .i64 13, .slice A 2 c] w fun e w' => e = .returned (.tuple #[(callV 13 [a, b]).1.val, .int .i64 (callV 13 [a, b]).2]) ∧ Below w.heap.size w w' := by
  have hlen := h.1
  have hcap := h.2.2.1
  have hle := h.2.1
  unfold maxLen at hcap
  have HV := Lib.hid (h.new hB (.cells #[.int .i64 0, .int .i64 0, .string ⟨#[]⟩] 40))
  have HBS : Hid (B ≤ (w.alloc (.cells #[.int .i64 0, .int .i64 0, .string ⟨#[]⟩] 40)).heap.size) := by show _ ≤ _; rw [size_al]; omega
  have HL := Lib.hid hlen
  have HA := Lib.hid ha
  have hq : callV 13 [a, b] = bothV 13 a b := (call_ok ha (by decide) rfl).trans rfl
  obtain ⟨rk, rn, rs, re, hp⟩ := pair_of (bothV 13 a b)
  have HQ := Lib.hid (hq.trans hp)
  have HP := Lib.hid hp
  have OA := Lib.hid (h.2.2.2.2 a (by simp))
  have OB := Lib.hid (h.2.2.2.2 b (by simp))
  have RA := Lib.hid (allR_iff.1 ha a (by simp))
  have RB := Lib.hid (allR_iff.1 ha b (by simp))
  have HK : Hid (decide (6 ≤ (13 : Int) ∧ (13 : Int) ≤ 13) = true) := by show _ = _; decide
  have HT : Hid ((needs 13 : Int) = 2) := rfl
  clear ha h hlen hB hq hp
  generalize callV 13 [a, b] = RR at *
  go_enter Tryz.func107, Tryz.ntmps107
  go_wp2_with fail
  refine (allright_is HA.out HV.out HBS.out).mono ?_
  rintro e w1 ⟨rfl, hb1⟩
  have R1 := Lib.hid ((Bx.made w 0 0 ⟨#[]⟩).then_ hb1)
  have D1 := Lib.hid (Below.lit hb1)
  have V1 := Lib.hid ((HV.out.more HBS.out).then_ hb1)
  have c0 := R1.out.c3
  have f0 := R1.out.fz
  clear hb1
  go_wp2_with fail
  refine (known_is HK.out _).mono ?_
  rintro e w' ⟨rfl, rfl⟩
  go_wp2_with fail
  refine (takes_is HT.out _).mono ?_
  rintro e w' ⟨rfl, rfl⟩
  have C := Lib.hid (pair_is ((judge_two (.inr rfl) RA.out RB.out).trans HP.out) (judge_any V1.out (Nat.le_refl _) (by omega) (allR_iff.1 HA.out) 13))
  go_wp2_with fail
  refine C.out.mono ?_
  rintro e w3 ⟨rfl, hb3⟩
  have R3 := Lib.hid (R1.out.then_ hb3)
  have D3 := Lib.hid (below_step D1.out hb3)
  clear hb3 c0 f0 R1 D1
  have c0 := R3.out.c3
  have f0 := R3.out.fz
  go_wp2_with fail
  try simp only [Exit.inBlock, Exit.then]
  refine bodyPost_ret (box_ret2 rfl rfl rfl (R3.out.put _ _ _)) rfl ?_
  exact ⟨ret_v HQ.out, below_put D3.out (Nat.le_refl _) _ _ _⟩

set_option maxHeartbeats 3200000 in
set_option maxRecDepth 100000 in
theorem call_11 {w : World} {B c : Nat} {A : Option Addr} {a : Vl} (h : Vs w B A 1 c [a]) (hB : B ≤ w.heap.size) (ha : allR [a] = true) :
    Calls Tryz.prog 107 #[.int .i64 11, .slice A 1 c] w fun e w' => e = .returned (.tuple #[(callV 11 [a]).1.val, .int .i64 (callV 11 [a]).2]) ∧ Below w.heap.size w w' := by
  have hlen := h.1
  have hcap := h.2.2.1
  have hle := h.2.1
  unfold maxLen at hcap
  have HV := Lib.hid (h.new hB (.cells #[.int .i64 0, .int .i64 0, .string ⟨#[]⟩] 40))
  have HBS : Hid (B ≤ (w.alloc (.cells #[.int .i64 0, .int .i64 0, .string ⟨#[]⟩] 40)).heap.size) := by show _ ≤ _; rw [size_al]; omega
  have HL := Lib.hid hlen
  have HA := Lib.hid ha
  have hq : callV 11 [a] = notV a := (call_ok ha (by decide) rfl).trans rfl
  obtain ⟨rk, rn, rs, re, hp⟩ := pair_of (notV a)
  have HQ := Lib.hid (hq.trans hp)
  have HP := Lib.hid hp
  have OA := Lib.hid (h.2.2.2.2 a (by simp))
  have RA := Lib.hid (allR_iff.1 ha a (by simp))
  have HK : Hid (decide (6 ≤ (11 : Int) ∧ (11 : Int) ≤ 13) = true) := by show _ = _; decide
  have HT : Hid ((needs 11 : Int) = 1) := rfl
  clear ha h hlen hB hq hp
  generalize callV 11 [a] = RR at *
  go_enter Tryz.func107, Tryz.ntmps107
  go_wp2_with fail
  refine (allright_is HA.out HV.out HBS.out).mono ?_
  rintro e w1 ⟨rfl, hb1⟩
  have R1 := Lib.hid ((Bx.made w 0 0 ⟨#[]⟩).then_ hb1)
  have D1 := Lib.hid (Below.lit hb1)
  have V1 := Lib.hid ((HV.out.more HBS.out).then_ hb1)
  have c0 := R1.out.c3
  have f0 := R1.out.fz
  clear hb1
  go_wp2_with fail
  refine (known_is HK.out _).mono ?_
  rintro e w' ⟨rfl, rfl⟩
  go_wp2_with fail
  refine (takes_is HT.out _).mono ?_
  rintro e w' ⟨rfl, rfl⟩
  have C := Lib.hid (pair_is ((judge_one RA.out).trans HP.out) (judge_any V1.out (Nat.le_refl _) (by omega) (allR_iff.1 HA.out) 11))
  go_wp2_with fail
  refine C.out.mono ?_
  rintro e w3 ⟨rfl, hb3⟩
  have R3 := Lib.hid (R1.out.then_ hb3)
  have D3 := Lib.hid (below_step D1.out hb3)
  clear hb3 c0 f0 R1 D1
  have c0 := R3.out.c3
  have f0 := R3.out.fz
  go_wp2_with fail
  try simp only [Exit.inBlock, Exit.then]
  refine bodyPost_ret (box_ret2 rfl rfl rfl (R3.out.put _ _ _)) rfl ?_
  exact ⟨ret_v HQ.out, below_put D3.out (Nat.le_refl _) _ _ _⟩

theorem call_any {w : World} {B n c : Nat} {A : Option Addr} {l : List Vl} (h : Vs w B A n c l) (hB : B ≤ w.heap.size) (hn : n ≤ 1000000) (op : Int) :
    Calls Tryz.prog 107 #[.int .i64 op, .slice A n c] w fun e w' => e = .returned (.tuple #[(callV op l).1.val, .int .i64 (callV op l).2]) ∧ Below w.heap.size w w' := by
  cases ha : allR l with
  | false => exact call_bad1 h hB hn op ha
  | true =>
    by_cases hk : 6 ≤ op ∧ op ≤ 13
    · by_cases hl : l.length = needs op
      · have hlen := h.1
        by_cases h11 : op = 11
        · subst h11
          obtain ⟨a, rfl⟩ := one_of hl
          subst hlen
          exact call_11 h hB ha
        · have hl2 : l.length = 2 := hl.trans (if_neg h11)
          obtain ⟨a, b, rfl⟩ := two_of hl2
          subst hlen
          obtain rfl | rfl | rfl | rfl | rfl | rfl | rfl : op = 6 ∨ op = 7 ∨ op = 8 ∨ op = 9 ∨ op = 10 ∨ op = 12 ∨ op = 13 := by omega
          · exact call_6 h hB ha
          · exact call_7 h hB ha
          · exact call_8 h hB ha
          · exact call_9 h hB ha
          · exact call_10 h hB ha
          · exact call_12 h hB ha
          · exact call_13 h hB ha
      · exact call_bad3 h hB hn op ha hk hl
    · exact call_bad2 h hB hn op ha hk
end Go.Proofs.YtadjfkgnoklmiaaGreat
