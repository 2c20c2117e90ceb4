/- Several texts in one: Parse11, HTail, KeepSame. -/
import Derived.Test.YthppdgiobflfpaaNineF
import Derived.Test.YthppdgiobflfpaaNineA
import Derived.Test.YthppdgiobflfpaaNineG
import Derived.Test.YthppdgiobflfpaaNineC
import Derived.StillTail
import Derived.OrdersHeld
import Derived.RegionTactic
import Derived.Laws.StructEq
import Derived.Laws.Tables
import Derived.Laws.Cover2
import Derived.Lib.QuietBelow
import Derived.Deep.CutRange
/- The parser: a policy from a text. -/
namespace Go.Proofs.Ythppdgiobflfpaa
set_option linter.unusedVariables false
open Go.RowKit

theorem results_cell_tmp2 {fn : Func} {p u v : Tmp} {ty : TypeId} (h : fn.results = #[.cell p ty, .tmp u, .tmp v]) (tmps : Array Value) (P : Program) (w : World) :
    (results fn tmps).run P w =
      ((asAddr (tmps.getD p undef)).run P w).andThen fun a w₁ => ((loadVar ty a).run P w₁).andThen fun x w₂ => .ok (.tuple #[x, tmps.getD u undef, tmps.getD v undef]) w₂ := by
  simp only [results, h]
  simp [Sem.run_bind, Result.andThen]
theorem policy_ret3 {fn : Func} {t u1 u2 : Tmp} {tmps : Array Value} {w : World} {g : Nat} {cs : Array Value} {a b : Value} (h : fn.results = #[.cell t 28, .tmp u1, .tmp u2]) (hp : tmps.getD t undef = .pointer (some ⟨g, 0, none⟩)) (h1 : tmps.getD u1 undef = a) (h2 : tmps.getD u2 undef = b) (hg : Ob w g 28 cs) (h3 : cs.size = 7) :
    (results fn tmps).run Try.prog w = .ok (.tuple #[.agg cs, a, b]) w := by
  rw [results_cell_tmp2 h, hp, h1, h2]
  have hl := run_loadVar_row (P := Try.prog) w g 28 _ _ (0, 0) _ hg Try.underlying28 rfl (by rw [h3]; kernel_rfl)
  simp [asAddr, hl, Result.andThen]
theorem noPol_of (w w' : World) : PolOf w w' 5 noPol (.agg #[.string ⟨#[]⟩, .bool false, .int .i64 0, .slice none 0 0, .slice none 0 0, .slice none 0 0, .slice none 0 0]) :=
  ⟨none, 0, 0, none, 0, 0, none, 0, 0, none, 0, 0, rfl, none, 0, 0, none, 0, 0, none, 0, 0, none, 0, 0, rfl, Nat.zero_le _, by unfold InI; exact ⟨by show (-9223372036854775808 : Int) ≤ 0; omega, by show (0 : Int) ≤ 9223372036854775807; omega⟩, Rw.nil_ _ _ _ _, Rw.nil_ _ _ _ _, Rw.nil_ _ _ _ _, Rw.nil_ _ _ _ _⟩
/-- The reader, as it begins. -/
theorem Rd.start {L : Nat} {w : World} {A : Option Addr} {n c : Nat} {ts : List Tk} (h : Ts w w.heap.size A n c ts) (hok : (⟨ts, 0, 0, 0⟩ : Pz).ok L) : Rd L (w.alloc (.cells #[.slice A n c, .int .i64 0, .int .i64 0, .int .i64 0] 64)) w.heap.size ⟨ts, 0, 0, 0⟩ := by
  have h' := h.below ((Below.refl _ w).alloc (Nat.le_refl _) (.cells #[.slice A n c, .int .i64 0, .int .i64 0, .int .i64 0] 64))
  have hp : 1 ≤ ts.length := hok.pos
  obtain ⟨h1, h2, h3, h4⟩ := h'
  rcases h4 with h4 | ⟨b, o, e, hb, hc⟩
  · omega
  · subst e
    exact ⟨b, o, n, c, Ob.made _ _ _, hok, ⟨h1, h2, h3⟩, hb, hc⟩
theorem Ob.drew9 {w : World} {g : Nat} {t : TypeId} {cs : Array Value} (h : Ob w g t cs) : Ob w.drew g t cs := h
section
variable {w : World}
/-- parse.Policy's answer. -/
def ParseP (s : ByteArray) (w : World) (x : Ending) (w' : World) : Prop := ∃ y, x = .returned (.tuple #[y, .int .i64 (parseR s).2.1, .int .i64 (parseR s).2.2]) ∧ Below w.heap.size w w' ∧ PolOf w w' 5 (parseR s).1 y

set_option maxHeartbeats 1600000 in
theorem parse_big (s : ByteArray) (hs : 4096 < s.size) (hm : s.size ≤ maxLen) : Calls Try.prog 10 #[.string s] w (ParseP s w) := by
  have HC := Lib.hid (all_big s hs hm (w.alloc (.cells #[.string ⟨#[]⟩, .bool false, .int .i64 0, .slice none 0 0, .slice none 0 0, .slice none 0 0, .slice none 0 0] 28)))
  have OB := Lib.hid (Ob.made w 28 #[.string ⟨#[]⟩, .bool false, .int .i64 0, .slice none 0 0, .slice none 0 0, .slice none 0 0, .slice none 0 0])
  unfold ParseP
  rw [parseR_big hs]
  simp only
  go_enter Try.func10, Try.ntmps10
  go_wp2_with fail
  go_at_call 15
  refine HC.out.mono ?_
  rintro x w1 ⟨rfl, hw⟩
  have HB : Hid (Below w.heap.size w w1) := Lib.hid (by rw [hw]; exact (Below.refl _ w).alloc (Nat.le_refl _) _)
  have O1 : Hid (Ob w1 w.heap.size 28 #[.string ⟨#[]⟩, .bool false, .int .i64 0, .slice none 0 0, .slice none 0 0, .slice none 0 0, .slice none 0 0]) := Lib.hid (by rw [hw]; exact OB.out)
  clear hw
  have zc0 := O1.out.cell 0
  have zf0 := O1.out.frozen 0
  have OZ1 : Hid (Ob (w1.setCell ⟨w.heap.size, 0, none⟩ (.string ⟨#[]⟩)) (w.heap.size) 28 #[.string ⟨#[]⟩, .bool false, .int .i64 0, .slice none 0 0, .slice none 0 0, .slice none 0 0, .slice none 0 0]) := Lib.hid (by have := O1.out.put 0 (.string ⟨#[]⟩); simpa using this)
  have BZ1 := Lib.hid (HB.out.setCell (p := ⟨w.heap.size, 0, none⟩) (Nat.le_refl _) (.string ⟨#[]⟩))
  have zc1 := OZ1.out.cell 1
  have zf1 := OZ1.out.frozen 1
  have OZ2 : Hid (Ob ((w1.setCell ⟨w.heap.size, 0, none⟩ (.string ⟨#[]⟩)).setCell ⟨w.heap.size, 1, none⟩ (.bool false)) (w.heap.size) 28 #[.string ⟨#[]⟩, .bool false, .int .i64 0, .slice none 0 0, .slice none 0 0, .slice none 0 0, .slice none 0 0]) := Lib.hid (by have := OZ1.out.put 1 (.bool false); simpa using this)
  have BZ2 := Lib.hid (BZ1.out.setCell (p := ⟨w.heap.size, 1, none⟩) (Nat.le_refl _) (.bool false))
  have zc2 := OZ2.out.cell 2
  have zf2 := OZ2.out.frozen 2
  have OZ3 : Hid (Ob (((w1.setCell ⟨w.heap.size, 0, none⟩ (.string ⟨#[]⟩)).setCell ⟨w.heap.size, 1, none⟩ (.bool false)).setCell ⟨w.heap.size, 2, none⟩ (.int .i64 0)) (w.heap.size) 28 #[.string ⟨#[]⟩, .bool false, .int .i64 0, .slice none 0 0, .slice none 0 0, .slice none 0 0, .slice none 0 0]) := Lib.hid (by have := OZ2.out.put 2 (.int .i64 0); simpa using this)
  have BZ3 := Lib.hid (BZ2.out.setCell (p := ⟨w.heap.size, 2, none⟩) (Nat.le_refl _) (.int .i64 0))
  have zc3 := OZ3.out.cell 3
  have zf3 := OZ3.out.frozen 3
  have OZ4 : Hid (Ob ((((w1.setCell ⟨w.heap.size, 0, none⟩ (.string ⟨#[]⟩)).setCell ⟨w.heap.size, 1, none⟩ (.bool false)).setCell ⟨w.heap.size, 2, none⟩ (.int .i64 0)).setCell ⟨w.heap.size, 3, none⟩ (.slice none 0 0)) (w.heap.size) 28 #[.string ⟨#[]⟩, .bool false, .int .i64 0, .slice none 0 0, .slice none 0 0, .slice none 0 0, .slice none 0 0]) := Lib.hid (by have := OZ3.out.put 3 (.slice none 0 0); simpa using this)
  have BZ4 := Lib.hid (BZ3.out.setCell (p := ⟨w.heap.size, 3, none⟩) (Nat.le_refl _) (.slice none 0 0))
  have zc4 := OZ4.out.cell 4
  have zf4 := OZ4.out.frozen 4
  have OZ5 : Hid (Ob (((((w1.setCell ⟨w.heap.size, 0, none⟩ (.string ⟨#[]⟩)).setCell ⟨w.heap.size, 1, none⟩ (.bool false)).setCell ⟨w.heap.size, 2, none⟩ (.int .i64 0)).setCell ⟨w.heap.size, 3, none⟩ (.slice none 0 0)).setCell ⟨w.heap.size, 4, none⟩ (.slice none 0 0)) (w.heap.size) 28 #[.string ⟨#[]⟩, .bool false, .int .i64 0, .slice none 0 0, .slice none 0 0, .slice none 0 0, .slice none 0 0]) := Lib.hid (by have := OZ4.out.put 4 (.slice none 0 0); simpa using this)
  have BZ5 := Lib.hid (BZ4.out.setCell (p := ⟨w.heap.size, 4, none⟩) (Nat.le_refl _) (.slice none 0 0))
  have zc5 := OZ5.out.cell 5
  have zf5 := OZ5.out.frozen 5
  have OZ6 : Hid (Ob ((((((w1.setCell ⟨w.heap.size, 0, none⟩ (.string ⟨#[]⟩)).setCell ⟨w.heap.size, 1, none⟩ (.bool false)).setCell ⟨w.heap.size, 2, none⟩ (.int .i64 0)).setCell ⟨w.heap.size, 3, none⟩ (.slice none 0 0)).setCell ⟨w.heap.size, 4, none⟩ (.slice none 0 0)).setCell ⟨w.heap.size, 5, none⟩ (.slice none 0 0)) (w.heap.size) 28 #[.string ⟨#[]⟩, .bool false, .int .i64 0, .slice none 0 0, .slice none 0 0, .slice none 0 0, .slice none 0 0]) := Lib.hid (by have := OZ5.out.put 5 (.slice none 0 0); simpa using this)
  have BZ6 := Lib.hid (BZ5.out.setCell (p := ⟨w.heap.size, 5, none⟩) (Nat.le_refl _) (.slice none 0 0))
  have zc6 := OZ6.out.cell 6
  have zf6 := OZ6.out.frozen 6
  have OZ7 : Hid (Ob (((((((w1.setCell ⟨w.heap.size, 0, none⟩ (.string ⟨#[]⟩)).setCell ⟨w.heap.size, 1, none⟩ (.bool false)).setCell ⟨w.heap.size, 2, none⟩ (.int .i64 0)).setCell ⟨w.heap.size, 3, none⟩ (.slice none 0 0)).setCell ⟨w.heap.size, 4, none⟩ (.slice none 0 0)).setCell ⟨w.heap.size, 5, none⟩ (.slice none 0 0)).setCell ⟨w.heap.size, 6, none⟩ (.slice none 0 0)) (w.heap.size) 28 #[.string ⟨#[]⟩, .bool false, .int .i64 0, .slice none 0 0, .slice none 0 0, .slice none 0 0, .slice none 0 0]) := Lib.hid (by have := OZ6.out.put 6 (.slice none 0 0); simpa using this)
  have BZ7 := Lib.hid (BZ6.out.setCell (p := ⟨w.heap.size, 6, none⟩) (Nat.le_refl _) (.slice none 0 0))
  go_wp2_with fail
  try simp only [Exit.inBlock, Exit.then]
  refine bodyPost_ret (policy_ret3 rfl rfl rfl rfl OZ7.out rfl) rfl ?_
  exact ⟨_, rfl, BZ7.out, noPol_of _ _⟩
set_option maxHeartbeats 1600000 in
theorem parse_bad (s : ByteArray) {p : Nat} (hs : s.size ≤ 4096) (hl : lexB s.data.toList 0 = .error p) : Calls Try.prog 10 #[.string s] w (ParseP s w) := by
  have HC := Lib.hid (all_any s hs (w.alloc (.cells #[.string ⟨#[]⟩, .bool false, .int .i64 0, .slice none 0 0, .slice none 0 0, .slice none 0 0, .slice none 0 0] 28)))
  have OB := Lib.hid (Ob.made w 28 #[.string ⟨#[]⟩, .bool false, .int .i64 0, .slice none 0 0, .slice none 0 0, .slice none 0 0, .slice none 0 0])
  unfold ParseP
  rw [parseR_bad hs hl]
  simp only
  rw [hl] at HC
  clear hl
  go_enter Try.func10, Try.ntmps10
  go_wp2_with fail
  go_at_call 15
  refine HC.out.mono ?_
  rintro x w1 ⟨rfl, hb⟩
  have HB := Lib.hid (Below.lit hb)
  have O1 := Lib.hid (OB.out.below hb OB.out.lt)
  clear hb
  have zc0 := O1.out.cell 0
  have zf0 := O1.out.frozen 0
  have OZ1 : Hid (Ob (w1.setCell ⟨w.heap.size, 0, none⟩ (.string ⟨#[]⟩)) (w.heap.size) 28 #[.string ⟨#[]⟩, .bool false, .int .i64 0, .slice none 0 0, .slice none 0 0, .slice none 0 0, .slice none 0 0]) := Lib.hid (by have := O1.out.put 0 (.string ⟨#[]⟩); simpa using this)
  have BZ1 := Lib.hid (HB.out.setCell (p := ⟨w.heap.size, 0, none⟩) (Nat.le_refl _) (.string ⟨#[]⟩))
  have zc1 := OZ1.out.cell 1
  have zf1 := OZ1.out.frozen 1
  have OZ2 : Hid (Ob ((w1.setCell ⟨w.heap.size, 0, none⟩ (.string ⟨#[]⟩)).setCell ⟨w.heap.size, 1, none⟩ (.bool false)) (w.heap.size) 28 #[.string ⟨#[]⟩, .bool false, .int .i64 0, .slice none 0 0, .slice none 0 0, .slice none 0 0, .slice none 0 0]) := Lib.hid (by have := OZ1.out.put 1 (.bool false); simpa using this)
  have BZ2 := Lib.hid (BZ1.out.setCell (p := ⟨w.heap.size, 1, none⟩) (Nat.le_refl _) (.bool false))
  have zc2 := OZ2.out.cell 2
  have zf2 := OZ2.out.frozen 2
  have OZ3 : Hid (Ob (((w1.setCell ⟨w.heap.size, 0, none⟩ (.string ⟨#[]⟩)).setCell ⟨w.heap.size, 1, none⟩ (.bool false)).setCell ⟨w.heap.size, 2, none⟩ (.int .i64 0)) (w.heap.size) 28 #[.string ⟨#[]⟩, .bool false, .int .i64 0, .slice none 0 0, .slice none 0 0, .slice none 0 0, .slice none 0 0]) := Lib.hid (by have := OZ2.out.put 2 (.int .i64 0); simpa using this)
  have BZ3 := Lib.hid (BZ2.out.setCell (p := ⟨w.heap.size, 2, none⟩) (Nat.le_refl _) (.int .i64 0))
  have zc3 := OZ3.out.cell 3
  have zf3 := OZ3.out.frozen 3
  have OZ4 : Hid (Ob ((((w1.setCell ⟨w.heap.size, 0, none⟩ (.string ⟨#[]⟩)).setCell ⟨w.heap.size, 1, none⟩ (.bool false)).setCell ⟨w.heap.size, 2, none⟩ (.int .i64 0)).setCell ⟨w.heap.size, 3, none⟩ (.slice none 0 0)) (w.heap.size) 28 #[.string ⟨#[]⟩, .bool false, .int .i64 0, .slice none 0 0, .slice none 0 0, .slice none 0 0, .slice none 0 0]) := Lib.hid (by have := OZ3.out.put 3 (.slice none 0 0); simpa using this)
  have BZ4 := Lib.hid (BZ3.out.setCell (p := ⟨w.heap.size, 3, none⟩) (Nat.le_refl _) (.slice none 0 0))
  have zc4 := OZ4.out.cell 4
  have zf4 := OZ4.out.frozen 4
  have OZ5 : Hid (Ob (((((w1.setCell ⟨w.heap.size, 0, none⟩ (.string ⟨#[]⟩)).setCell ⟨w.heap.size, 1, none⟩ (.bool false)).setCell ⟨w.heap.size, 2, none⟩ (.int .i64 0)).setCell ⟨w.heap.size, 3, none⟩ (.slice none 0 0)).setCell ⟨w.heap.size, 4, none⟩ (.slice none 0 0)) (w.heap.size) 28 #[.string ⟨#[]⟩, .bool false, .int .i64 0, .slice none 0 0, .slice none 0 0, .slice none 0 0, .slice none 0 0]) := Lib.hid (by have := OZ4.out.put 4 (.slice none 0 0); simpa using this)
  have BZ5 := Lib.hid (BZ4.out.setCell (p := ⟨w.heap.size, 4, none⟩) (Nat.le_refl _) (.slice none 0 0))
  have zc5 := OZ5.out.cell 5
  have zf5 := OZ5.out.frozen 5
  have OZ6 : Hid (Ob ((((((w1.setCell ⟨w.heap.size, 0, none⟩ (.string ⟨#[]⟩)).setCell ⟨w.heap.size, 1, none⟩ (.bool false)).setCell ⟨w.heap.size, 2, none⟩ (.int .i64 0)).setCell ⟨w.heap.size, 3, none⟩ (.slice none 0 0)).setCell ⟨w.heap.size, 4, none⟩ (.slice none 0 0)).setCell ⟨w.heap.size, 5, none⟩ (.slice none 0 0)) (w.heap.size) 28 #[.string ⟨#[]⟩, .bool false, .int .i64 0, .slice none 0 0, .slice none 0 0, .slice none 0 0, .slice none 0 0]) := Lib.hid (by have := OZ5.out.put 5 (.slice none 0 0); simpa using this)
  have BZ6 := Lib.hid (BZ5.out.setCell (p := ⟨w.heap.size, 5, none⟩) (Nat.le_refl _) (.slice none 0 0))
  have zc6 := OZ6.out.cell 6
  have zf6 := OZ6.out.frozen 6
  have OZ7 : Hid (Ob (((((((w1.setCell ⟨w.heap.size, 0, none⟩ (.string ⟨#[]⟩)).setCell ⟨w.heap.size, 1, none⟩ (.bool false)).setCell ⟨w.heap.size, 2, none⟩ (.int .i64 0)).setCell ⟨w.heap.size, 3, none⟩ (.slice none 0 0)).setCell ⟨w.heap.size, 4, none⟩ (.slice none 0 0)).setCell ⟨w.heap.size, 5, none⟩ (.slice none 0 0)).setCell ⟨w.heap.size, 6, none⟩ (.slice none 0 0)) (w.heap.size) 28 #[.string ⟨#[]⟩, .bool false, .int .i64 0, .slice none 0 0, .slice none 0 0, .slice none 0 0, .slice none 0 0]) := Lib.hid (by have := OZ6.out.put 6 (.slice none 0 0); simpa using this)
  have BZ7 := Lib.hid (BZ6.out.setCell (p := ⟨w.heap.size, 6, none⟩) (Nat.le_refl _) (.slice none 0 0))
  go_wp2_with fail
  try simp only [Exit.inBlock, Exit.then]
  refine bodyPost_ret (policy_ret3 rfl rfl rfl rfl OZ7.out rfl) rfl ?_
  exact ⟨_, rfl, BZ7.out, noPol_of _ _⟩
theorem Only.down {g B : Nat} {w w' : World} (h : Only g w w') (hB : B ≤ g) (hw : g < w.heap.size) : Below B w w' := ⟨h.os, h.tape, h.output, h.size, fun k hk => h.heap (by omega) (by omega)⟩
set_option maxHeartbeats 3200000 in
theorem parse_ok (s : ByteArray) {ts : List Tk} (hs : s.size ≤ 4096) (hl : lexB s.data.toList 0 = .ok ts) : Calls Try.prog 10 #[.string s] w (ParseP s w) := by
  have HC := Lib.hid (all_any s hs (w.alloc (.cells #[.string ⟨#[]⟩, .bool false, .int .i64 0, .slice none 0 0, .slice none 0 0, .slice none 0 0, .slice none 0 0] 28)))
  have OB := Lib.hid (Ob.made w 28 #[.string ⟨#[]⟩, .bool false, .int .i64 0, .slice none 0 0, .slice none 0 0, .slice none 0 0, .slice none 0 0])
  unfold ParseP
  obtain ⟨h0, hlen⟩ := start_ok hs hl
  obtain ⟨q, s1, hq⟩ := pair_eq (polR 5 ⟨ts, 0, 0, 0⟩)
  obtain ⟨z, hz⟩ : ∃ z, endR s1 = z := ⟨_, rfl⟩
  obtain ⟨res, hres⟩ : ∃ r, (if z.err = 0 then (if rightE q = 0 then (q, 0, 0) else (noPol, 5, (s.size : Int))) else (noPol, z.err, z.at_) : Pol × Int × Int) = r := ⟨_, rfl⟩
  rw [parseR_ok hs hl hq hz, hres]
  have HRES := Lib.hid hres
  clear hres
  rw [hl] at HC
  have H0 := Lib.hid h0
  have HSUM : Hid ((⟨ts, 0, 0, 0⟩ : Pz).met + (⟨ts, 0, 0, 0⟩ : Pz).rest.length ≤ 5990) := by show 0 + ts.length ≤ 5990; omega
  have HQ := Lib.hid hq
  have HZ := Lib.hid hz
  have HS := Lib.hid hs
  clear hl hq hz h0 hlen hs
  go_enter Try.func10, Try.ntmps10
  go_wp2_with fail
  go_at_call 15
  refine HC.out.mono ?_
  rintro x w1 ⟨A, n, c, rfl, hown, hb⟩
  have HB := Lib.hid (Below.lit hb)
  have O1 := Lib.hid (OB.out.below hb OB.out.lt)
  have HG : Hid (w.heap.size < w1.heap.size) := O1.out.lt
  have HR := Lib.hid (Rd.start (Ts.of_own hown) H0.out)
  have O2 := Lib.hid (O1.out.keep (Below.heap_alloc w1 (.cells #[.slice A n c, .int .i64 0, .int .i64 0, .int .i64 0] 64) _ O1.out.lt))
  have HB2 := Lib.hid (HB.out.trans ((Below.refl w.heap.size w1).alloc HB.out.size (.cells #[.slice A n c, .int .i64 0, .int .i64 0, .int .i64 0] 64)))
  clear hb hown
  go_wp2_with fail
  go_at_call 16
  refine (pol_read_all 4 (Nat.le_refl _) _ ⟨ts, 0, 0, 0⟩ 1 (by omega) (Nat.le_refl _) HR.out HSUM.out).mono ?_
  rintro x w3 ⟨y, rfl, ho, hr, hp⟩
  change Rd _ _ _ (polR 5 _).2 at hr
  change PolOf _ _ 5 (polR 5 _).1 _ at hp
  rw [HQ.out] at hr hp
  obtain ⟨A1, n1, c1, A2, n2, c2, A3, n3, c3, A4, n4, c4, rfl, hp⟩ := hp
  have HS3 : Hid (w1.heap.size < w3.heap.size) := hr.lt
  have O3 := Lib.hid (O2.out.keep (ho.heap O2.out.lt (by have := HG.out; omega)))
  have HB3 := Lib.hid (HB2.out.trans (ho.down (by have := HG.out; omega) (by rw [size_al]; omega)))
  have O4 := Lib.hid (O3.out.keep (Below.heap_alloc w3 (.cells #[.string q.id, .bool q.set, .int .i64 q.alg, .slice A1 n1 c1, .slice A2 n2 c2, .slice A3 n3 c3, .slice A4 n4 c4] 28) _ O3.out.lt))
  have P4 := Lib.hid (Ob.made w3 28 #[.string q.id, .bool q.set, .int .i64 q.alg, .slice A1 n1 c1, .slice A2 n2 c2, .slice A3 n3 c3, .slice A4 n4 c4])
  have HB4 := Lib.hid (HB3.out.trans ((Below.refl w.heap.size w3).alloc HB3.out.size (.cells #[.string q.id, .bool q.set, .int .i64 q.alg, .slice A1 n1 c1, .slice A2 n2 c2, .slice A3 n3 c3, .slice A4 n4 c4] 28)))
  have HR4 := Lib.hid (hr.alloc (.cells #[.string q.id, .bool q.set, .int .i64 q.alg, .slice A1 n1 c1, .slice A2 n2 c2, .slice A3 n3 c3, .slice A4 n4 c4] 28))
  have HP4 := Lib.hid (PolAt.keep (Kept.all ((Below.refl w3.heap.size w3).alloc (Nat.le_refl _) (.cells #[.string q.id, .bool q.set, .int .i64 q.alg, .slice A1 n1 c1, .slice A2 n2 c2, .slice A3 n3 c3, .slice A4 n4 c4] 28)) _) (fun _ h _ => h) hp)
  clear ho hr hp
  go_wp2_with fail
  go_at_call 17
  refine (pend_any HR4.out).mono ?_
  rintro x w4 ⟨rfl, ho, hr⟩
  rw [HZ.out] at hr
  have HS4 : Hid (w3.heap.size < w4.heap.size) := by have := ho.size; rw [size_al] at this; show _ < _; omega
  have O5 := Lib.hid (O4.out.keep (ho.heap O4.out.lt (by have := HG.out; omega)))
  have P5 := Lib.hid (P4.out.keep (ho.heap P4.out.lt (by have := HS3.out; omega)))
  have HB5 := Lib.hid (HB4.out.trans (ho.down (by have := HG.out; omega) HR4.out.lt))
  have HP5 := Lib.hid (PolAt.keep (w' := w4) ⟨ho.size, fun b hb hlt => ho.heap hlt (by have hb : (w1.alloc (.cells #[.slice A n c, .int .i64 0, .int .i64 0, .int .i64 0] 64)).heap.size ≤ b := hb; rw [size_al] at hb; omega)⟩ (fun _ h _ => h) HP4.out)
  obtain ⟨b0, o0, n0, c0, hob, hok, _, _, _, _⟩ := hr.at_
  have q2 := hob.cell 2
  have q3 := hob.cell 3
  have R5 := Lib.hid hob
  clear ho hr hob hok
  by_cases hz : z.err = 0
  · rw [hz] at q2
    have HZ0 := Lib.hid hz
    clear hz
    have HIN : Hid (PolIn w4 (fun b => (w1.alloc (.cells #[.slice A n c, .int .i64 0, .int .i64 0, .int .i64 0] 64)).heap.size ≤ b) q A1 n1 c1 A2 n2 c2 A3 n3 c3 A4 n4 c4) := by
      obtain ⟨B1, m1, d1, B2, m2, d2, B3, m3, d3, B4, m4, d4, e, h0, h00, h1, h2, h3, h4⟩ := HP5.out
      simp at e
      obtain ⟨⟨rfl, rfl, rfl⟩, ⟨rfl, rfl, rfl⟩, ⟨rfl, rfl, rfl⟩, ⟨rfl, rfl, rfl⟩⟩ := e
      exact ⟨⟨h0, h00⟩, h1, h2, ⟨4, h3⟩, h4⟩
    have pc0 := P5.out.cell 0
    have pc1 := P5.out.cell 1
    have pc2 := P5.out.cell 2
    have pc3 := P5.out.cell 3
    have pc4 := P5.out.cell 4
    have pc5 := P5.out.cell 5
    have pc6 := P5.out.cell 6
    go_wp2_with fail
    go_at_call 12
    refine (right_pol HIN.out).mono ?_
    rintro x w5 ⟨rfl, hb⟩
    have O6 := Lib.hid (O5.out.below hb O5.out.lt)
    have P6 := Lib.hid (P5.out.below hb P5.out.lt)
    have HB6 := Lib.hid (HB5.out.trans (hb.mono HB5.out.size))
    have HP6 := Lib.hid (PolAt.keep (Kept.all hb _) (fun _ h _ => h) HP5.out)
    clear hb
    by_cases hE : rightE q = 0
    · rw [hE]
      have HF := Lib.hid (show (q, 0, 0) = res from by have := HRES.out; rwa [if_pos HZ0.out, if_pos hE] at this)
      have pd0 := P6.out.cell 0
      have pd1 := P6.out.cell 1
      have pd2 := P6.out.cell 2
      have pd3 := P6.out.cell 3
      have pd4 := P6.out.cell 4
      have pd5 := P6.out.cell 5
      have pd6 := P6.out.cell 6
      have zc0 := O6.out.cell 0
      have zf0 := O6.out.frozen 0
      have OZ1 : Hid (Ob (w5.setCell ⟨w.heap.size, 0, none⟩ (.string q.id)) (w.heap.size) 28 #[.string q.id, .bool false, .int .i64 0, .slice none 0 0, .slice none 0 0, .slice none 0 0, .slice none 0 0]) := Lib.hid (by have := O6.out.put 0 (.string q.id); simpa using this)
      have BZ1 := Lib.hid (HB6.out.setCell (p := ⟨w.heap.size, 0, none⟩) (Nat.le_refl _) (.string q.id))
      have zc1 := OZ1.out.cell 1
      have zf1 := OZ1.out.frozen 1
      have OZ2 : Hid (Ob ((w5.setCell ⟨w.heap.size, 0, none⟩ (.string q.id)).setCell ⟨w.heap.size, 1, none⟩ (.bool q.set)) (w.heap.size) 28 #[.string q.id, .bool q.set, .int .i64 0, .slice none 0 0, .slice none 0 0, .slice none 0 0, .slice none 0 0]) := Lib.hid (by have := OZ1.out.put 1 (.bool q.set); simpa using this)
      have BZ2 := Lib.hid (BZ1.out.setCell (p := ⟨w.heap.size, 1, none⟩) (Nat.le_refl _) (.bool q.set))
      have zc2 := OZ2.out.cell 2
      have zf2 := OZ2.out.frozen 2
      have OZ3 : Hid (Ob (((w5.setCell ⟨w.heap.size, 0, none⟩ (.string q.id)).setCell ⟨w.heap.size, 1, none⟩ (.bool q.set)).setCell ⟨w.heap.size, 2, none⟩ (.int .i64 q.alg)) (w.heap.size) 28 #[.string q.id, .bool q.set, .int .i64 q.alg, .slice none 0 0, .slice none 0 0, .slice none 0 0, .slice none 0 0]) := Lib.hid (by have := OZ2.out.put 2 (.int .i64 q.alg); simpa using this)
      have BZ3 := Lib.hid (BZ2.out.setCell (p := ⟨w.heap.size, 2, none⟩) (Nat.le_refl _) (.int .i64 q.alg))
      have zc3 := OZ3.out.cell 3
      have zf3 := OZ3.out.frozen 3
      have OZ4 : Hid (Ob ((((w5.setCell ⟨w.heap.size, 0, none⟩ (.string q.id)).setCell ⟨w.heap.size, 1, none⟩ (.bool q.set)).setCell ⟨w.heap.size, 2, none⟩ (.int .i64 q.alg)).setCell ⟨w.heap.size, 3, none⟩ (.slice A1 n1 c1)) (w.heap.size) 28 #[.string q.id, .bool q.set, .int .i64 q.alg, .slice A1 n1 c1, .slice none 0 0, .slice none 0 0, .slice none 0 0]) := Lib.hid (by have := OZ3.out.put 3 (.slice A1 n1 c1); simpa using this)
      have BZ4 := Lib.hid (BZ3.out.setCell (p := ⟨w.heap.size, 3, none⟩) (Nat.le_refl _) (.slice A1 n1 c1))
      have zc4 := OZ4.out.cell 4
      have zf4 := OZ4.out.frozen 4
      have OZ5 : Hid (Ob (((((w5.setCell ⟨w.heap.size, 0, none⟩ (.string q.id)).setCell ⟨w.heap.size, 1, none⟩ (.bool q.set)).setCell ⟨w.heap.size, 2, none⟩ (.int .i64 q.alg)).setCell ⟨w.heap.size, 3, none⟩ (.slice A1 n1 c1)).setCell ⟨w.heap.size, 4, none⟩ (.slice A2 n2 c2)) (w.heap.size) 28 #[.string q.id, .bool q.set, .int .i64 q.alg, .slice A1 n1 c1, .slice A2 n2 c2, .slice none 0 0, .slice none 0 0]) := Lib.hid (by have := OZ4.out.put 4 (.slice A2 n2 c2); simpa using this)
      have BZ5 := Lib.hid (BZ4.out.setCell (p := ⟨w.heap.size, 4, none⟩) (Nat.le_refl _) (.slice A2 n2 c2))
      have zc5 := OZ5.out.cell 5
      have zf5 := OZ5.out.frozen 5
      have OZ6 : Hid (Ob ((((((w5.setCell ⟨w.heap.size, 0, none⟩ (.string q.id)).setCell ⟨w.heap.size, 1, none⟩ (.bool q.set)).setCell ⟨w.heap.size, 2, none⟩ (.int .i64 q.alg)).setCell ⟨w.heap.size, 3, none⟩ (.slice A1 n1 c1)).setCell ⟨w.heap.size, 4, none⟩ (.slice A2 n2 c2)).setCell ⟨w.heap.size, 5, none⟩ (.slice A3 n3 c3)) (w.heap.size) 28 #[.string q.id, .bool q.set, .int .i64 q.alg, .slice A1 n1 c1, .slice A2 n2 c2, .slice A3 n3 c3, .slice none 0 0]) := Lib.hid (by have := OZ5.out.put 5 (.slice A3 n3 c3); simpa using this)
      have BZ6 := Lib.hid (BZ5.out.setCell (p := ⟨w.heap.size, 5, none⟩) (Nat.le_refl _) (.slice A3 n3 c3))
      have zc6 := OZ6.out.cell 6
      have zf6 := OZ6.out.frozen 6
      have OZ7 : Hid (Ob (((((((w5.setCell ⟨w.heap.size, 0, none⟩ (.string q.id)).setCell ⟨w.heap.size, 1, none⟩ (.bool q.set)).setCell ⟨w.heap.size, 2, none⟩ (.int .i64 q.alg)).setCell ⟨w.heap.size, 3, none⟩ (.slice A1 n1 c1)).setCell ⟨w.heap.size, 4, none⟩ (.slice A2 n2 c2)).setCell ⟨w.heap.size, 5, none⟩ (.slice A3 n3 c3)).setCell ⟨w.heap.size, 6, none⟩ (.slice A4 n4 c4)) (w.heap.size) 28 #[.string q.id, .bool q.set, .int .i64 q.alg, .slice A1 n1 c1, .slice A2 n2 c2, .slice A3 n3 c3, .slice A4 n4 c4]) := Lib.hid (by have := OZ6.out.put 6 (.slice A4 n4 c4); simpa using this)
      have BZ7 := Lib.hid (BZ6.out.setCell (p := ⟨w.heap.size, 6, none⟩) (Nat.le_refl _) (.slice A4 n4 c4))
      have KQ : Hid (Kept (fun b => (w1.alloc (.cells #[.slice A n c, .int .i64 0, .int .i64 0, .int .i64 0] 64)).heap.size ≤ b) w5 (((((((w5.setCell ⟨w.heap.size, 0, none⟩ (.string q.id)).setCell ⟨w.heap.size, 1, none⟩ (.bool q.set)).setCell ⟨w.heap.size, 2, none⟩ (.int .i64 q.alg)).setCell ⟨w.heap.size, 3, none⟩ (.slice A1 n1 c1)).setCell ⟨w.heap.size, 4, none⟩ (.slice A2 n2 c2)).setCell ⟨w.heap.size, 5, none⟩ (.slice A3 n3 c3)).setCell ⟨w.heap.size, 6, none⟩ (.slice A4 n4 c4))) := Lib.hid (Only.kept9 ((((((((Only.refl (r := w.heap.size) (w := w5)).at_g 0 (.string q.id)).at_g 1 (.bool q.set)).at_g 2 (.int .i64 q.alg)).at_g 3 (.slice A1 n1 c1)).at_g 4 (.slice A2 n2 c2)).at_g 5 (.slice A3 n3 c3)).at_g 6 (.slice A4 n4 c4)) (fun b hb => by have hb : (w1.alloc (.cells #[.slice A n c, .int .i64 0, .int .i64 0, .int .i64 0] 64)).heap.size ≤ b := hb; rw [size_al] at hb; have := HG.out; omega))
      go_wp2_with fail
      try simp only [Exit.inBlock, Exit.then]
      refine bodyPost_ret (policy_ret3 rfl rfl rfl rfl OZ7.out rfl) rfl ?_
      rw [← HF.out]
      exact ⟨_, rfl, BZ7.out, A1, n1, c1, A2, n2, c2, A3, n3, c3, A4, n4, c4, rfl, PolAt.keep (w' := (((((((w5.setCell ⟨w.heap.size, 0, none⟩ (.string q.id)).setCell ⟨w.heap.size, 1, none⟩ (.bool q.set)).setCell ⟨w.heap.size, 2, none⟩ (.int .i64 q.alg)).setCell ⟨w.heap.size, 3, none⟩ (.slice A1 n1 c1)).setCell ⟨w.heap.size, 4, none⟩ (.slice A2 n2 c2)).setCell ⟨w.heap.size, 5, none⟩ (.slice A3 n3 c3)).setCell ⟨w.heap.size, 6, none⟩ (.slice A4 n4 c4))) (KQ.out) (fun b hb _ => by have hb : (w1.alloc (.cells #[.slice A n c, .int .i64 0, .int .i64 0, .int .i64 0] 64)).heap.size ≤ b := hb; rw [size_al] at hb; have := HG.out; show w.heap.size ≤ b; omega) HP6.out⟩
    · have HF := Lib.hid (show (noPol, 5, (s.size : Int)) = res from by have := HRES.out; rwa [if_pos HZ0.out, if_neg hE] at this)
      have hE2 : (rightE q != 0) = true := by rw [bne_iff_ne]; exact hE
      have HE := Lib.hid hE
      clear hE
      generalize rightE q = rq at *
      have zc0 := O6.out.cell 0
      have zf0 := O6.out.frozen 0
      have OZ1 : Hid (Ob (w5.setCell ⟨w.heap.size, 0, none⟩ (.string ⟨#[]⟩)) (w.heap.size) 28 #[.string ⟨#[]⟩, .bool false, .int .i64 0, .slice none 0 0, .slice none 0 0, .slice none 0 0, .slice none 0 0]) := Lib.hid (by have := O6.out.put 0 (.string ⟨#[]⟩); simpa using this)
      have BZ1 := Lib.hid (HB6.out.setCell (p := ⟨w.heap.size, 0, none⟩) (Nat.le_refl _) (.string ⟨#[]⟩))
      have zc1 := OZ1.out.cell 1
      have zf1 := OZ1.out.frozen 1
      have OZ2 : Hid (Ob ((w5.setCell ⟨w.heap.size, 0, none⟩ (.string ⟨#[]⟩)).setCell ⟨w.heap.size, 1, none⟩ (.bool false)) (w.heap.size) 28 #[.string ⟨#[]⟩, .bool false, .int .i64 0, .slice none 0 0, .slice none 0 0, .slice none 0 0, .slice none 0 0]) := Lib.hid (by have := OZ1.out.put 1 (.bool false); simpa using this)
      have BZ2 := Lib.hid (BZ1.out.setCell (p := ⟨w.heap.size, 1, none⟩) (Nat.le_refl _) (.bool false))
      have zc2 := OZ2.out.cell 2
      have zf2 := OZ2.out.frozen 2
      have OZ3 : Hid (Ob (((w5.setCell ⟨w.heap.size, 0, none⟩ (.string ⟨#[]⟩)).setCell ⟨w.heap.size, 1, none⟩ (.bool false)).setCell ⟨w.heap.size, 2, none⟩ (.int .i64 0)) (w.heap.size) 28 #[.string ⟨#[]⟩, .bool false, .int .i64 0, .slice none 0 0, .slice none 0 0, .slice none 0 0, .slice none 0 0]) := Lib.hid (by have := OZ2.out.put 2 (.int .i64 0); simpa using this)
      have BZ3 := Lib.hid (BZ2.out.setCell (p := ⟨w.heap.size, 2, none⟩) (Nat.le_refl _) (.int .i64 0))
      have zc3 := OZ3.out.cell 3
      have zf3 := OZ3.out.frozen 3
      have OZ4 : Hid (Ob ((((w5.setCell ⟨w.heap.size, 0, none⟩ (.string ⟨#[]⟩)).setCell ⟨w.heap.size, 1, none⟩ (.bool false)).setCell ⟨w.heap.size, 2, none⟩ (.int .i64 0)).setCell ⟨w.heap.size, 3, none⟩ (.slice none 0 0)) (w.heap.size) 28 #[.string ⟨#[]⟩, .bool false, .int .i64 0, .slice none 0 0, .slice none 0 0, .slice none 0 0, .slice none 0 0]) := Lib.hid (by have := OZ3.out.put 3 (.slice none 0 0); simpa using this)
      have BZ4 := Lib.hid (BZ3.out.setCell (p := ⟨w.heap.size, 3, none⟩) (Nat.le_refl _) (.slice none 0 0))
      have zc4 := OZ4.out.cell 4
      have zf4 := OZ4.out.frozen 4
      have OZ5 : Hid (Ob (((((w5.setCell ⟨w.heap.size, 0, none⟩ (.string ⟨#[]⟩)).setCell ⟨w.heap.size, 1, none⟩ (.bool false)).setCell ⟨w.heap.size, 2, none⟩ (.int .i64 0)).setCell ⟨w.heap.size, 3, none⟩ (.slice none 0 0)).setCell ⟨w.heap.size, 4, none⟩ (.slice none 0 0)) (w.heap.size) 28 #[.string ⟨#[]⟩, .bool false, .int .i64 0, .slice none 0 0, .slice none 0 0, .slice none 0 0, .slice none 0 0]) := Lib.hid (by have := OZ4.out.put 4 (.slice none 0 0); simpa using this)
      have BZ5 := Lib.hid (BZ4.out.setCell (p := ⟨w.heap.size, 4, none⟩) (Nat.le_refl _) (.slice none 0 0))
      have zc5 := OZ5.out.cell 5
      have zf5 := OZ5.out.frozen 5
      have OZ6 : Hid (Ob ((((((w5.setCell ⟨w.heap.size, 0, none⟩ (.string ⟨#[]⟩)).setCell ⟨w.heap.size, 1, none⟩ (.bool false)).setCell ⟨w.heap.size, 2, none⟩ (.int .i64 0)).setCell ⟨w.heap.size, 3, none⟩ (.slice none 0 0)).setCell ⟨w.heap.size, 4, none⟩ (.slice none 0 0)).setCell ⟨w.heap.size, 5, none⟩ (.slice none 0 0)) (w.heap.size) 28 #[.string ⟨#[]⟩, .bool false, .int .i64 0, .slice none 0 0, .slice none 0 0, .slice none 0 0, .slice none 0 0]) := Lib.hid (by have := OZ5.out.put 5 (.slice none 0 0); simpa using this)
      have BZ6 := Lib.hid (BZ5.out.setCell (p := ⟨w.heap.size, 5, none⟩) (Nat.le_refl _) (.slice none 0 0))
      have zc6 := OZ6.out.cell 6
      have zf6 := OZ6.out.frozen 6
      have OZ7 : Hid (Ob (((((((w5.setCell ⟨w.heap.size, 0, none⟩ (.string ⟨#[]⟩)).setCell ⟨w.heap.size, 1, none⟩ (.bool false)).setCell ⟨w.heap.size, 2, none⟩ (.int .i64 0)).setCell ⟨w.heap.size, 3, none⟩ (.slice none 0 0)).setCell ⟨w.heap.size, 4, none⟩ (.slice none 0 0)).setCell ⟨w.heap.size, 5, none⟩ (.slice none 0 0)).setCell ⟨w.heap.size, 6, none⟩ (.slice none 0 0)) (w.heap.size) 28 #[.string ⟨#[]⟩, .bool false, .int .i64 0, .slice none 0 0, .slice none 0 0, .slice none 0 0, .slice none 0 0]) := Lib.hid (by have := OZ6.out.put 6 (.slice none 0 0); simpa using this)
      have BZ7 := Lib.hid (BZ6.out.setCell (p := ⟨w.heap.size, 6, none⟩) (Nat.le_refl _) (.slice none 0 0))
      go_wp2_with fail
      try simp only [Exit.inBlock, Exit.then]
      refine bodyPost_ret (policy_ret3 rfl rfl rfl rfl OZ7.out rfl) rfl ?_
      rw [← HF.out]
      exact ⟨_, rfl, BZ7.out, noPol_of _ _⟩
  · have HF := Lib.hid (show (noPol, z.err, z.at_) = res from by have := HRES.out; rwa [if_neg hz] at this)
    have hz2 : (z.err != 0) = true := by rw [bne_iff_ne]; exact hz
    clear hz
    go_wp2_with fail
    have zc0 := O5.out.cell 0
    have zf0 := O5.out.frozen 0
    have OZ1 : Hid (Ob (w4.setCell ⟨w.heap.size, 0, none⟩ (.string ⟨#[]⟩)) (w.heap.size) 28 #[.string ⟨#[]⟩, .bool false, .int .i64 0, .slice none 0 0, .slice none 0 0, .slice none 0 0, .slice none 0 0]) := Lib.hid (by have := O5.out.put 0 (.string ⟨#[]⟩); simpa using this)
    have BZ1 := Lib.hid (HB5.out.setCell (p := ⟨w.heap.size, 0, none⟩) (Nat.le_refl _) (.string ⟨#[]⟩))
    have zc1 := OZ1.out.cell 1
    have zf1 := OZ1.out.frozen 1
    have OZ2 : Hid (Ob ((w4.setCell ⟨w.heap.size, 0, none⟩ (.string ⟨#[]⟩)).setCell ⟨w.heap.size, 1, none⟩ (.bool false)) (w.heap.size) 28 #[.string ⟨#[]⟩, .bool false, .int .i64 0, .slice none 0 0, .slice none 0 0, .slice none 0 0, .slice none 0 0]) := Lib.hid (by have := OZ1.out.put 1 (.bool false); simpa using this)
    have BZ2 := Lib.hid (BZ1.out.setCell (p := ⟨w.heap.size, 1, none⟩) (Nat.le_refl _) (.bool false))
    have zc2 := OZ2.out.cell 2
    have zf2 := OZ2.out.frozen 2
    have OZ3 : Hid (Ob (((w4.setCell ⟨w.heap.size, 0, none⟩ (.string ⟨#[]⟩)).setCell ⟨w.heap.size, 1, none⟩ (.bool false)).setCell ⟨w.heap.size, 2, none⟩ (.int .i64 0)) (w.heap.size) 28 #[.string ⟨#[]⟩, .bool false, .int .i64 0, .slice none 0 0, .slice none 0 0, .slice none 0 0, .slice none 0 0]) := Lib.hid (by have := OZ2.out.put 2 (.int .i64 0); simpa using this)
    have BZ3 := Lib.hid (BZ2.out.setCell (p := ⟨w.heap.size, 2, none⟩) (Nat.le_refl _) (.int .i64 0))
    have zc3 := OZ3.out.cell 3
    have zf3 := OZ3.out.frozen 3
    have OZ4 : Hid (Ob ((((w4.setCell ⟨w.heap.size, 0, none⟩ (.string ⟨#[]⟩)).setCell ⟨w.heap.size, 1, none⟩ (.bool false)).setCell ⟨w.heap.size, 2, none⟩ (.int .i64 0)).setCell ⟨w.heap.size, 3, none⟩ (.slice none 0 0)) (w.heap.size) 28 #[.string ⟨#[]⟩, .bool false, .int .i64 0, .slice none 0 0, .slice none 0 0, .slice none 0 0, .slice none 0 0]) := Lib.hid (by have := OZ3.out.put 3 (.slice none 0 0); simpa using this)
    have BZ4 := Lib.hid (BZ3.out.setCell (p := ⟨w.heap.size, 3, none⟩) (Nat.le_refl _) (.slice none 0 0))
    have zc4 := OZ4.out.cell 4
    have zf4 := OZ4.out.frozen 4
    have OZ5 : Hid (Ob (((((w4.setCell ⟨w.heap.size, 0, none⟩ (.string ⟨#[]⟩)).setCell ⟨w.heap.size, 1, none⟩ (.bool false)).setCell ⟨w.heap.size, 2, none⟩ (.int .i64 0)).setCell ⟨w.heap.size, 3, none⟩ (.slice none 0 0)).setCell ⟨w.heap.size, 4, none⟩ (.slice none 0 0)) (w.heap.size) 28 #[.string ⟨#[]⟩, .bool false, .int .i64 0, .slice none 0 0, .slice none 0 0, .slice none 0 0, .slice none 0 0]) := Lib.hid (by have := OZ4.out.put 4 (.slice none 0 0); simpa using this)
    have BZ5 := Lib.hid (BZ4.out.setCell (p := ⟨w.heap.size, 4, none⟩) (Nat.le_refl _) (.slice none 0 0))
    have zc5 := OZ5.out.cell 5
    have zf5 := OZ5.out.frozen 5
    have OZ6 : Hid (Ob ((((((w4.setCell ⟨w.heap.size, 0, none⟩ (.string ⟨#[]⟩)).setCell ⟨w.heap.size, 1, none⟩ (.bool false)).setCell ⟨w.heap.size, 2, none⟩ (.int .i64 0)).setCell ⟨w.heap.size, 3, none⟩ (.slice none 0 0)).setCell ⟨w.heap.size, 4, none⟩ (.slice none 0 0)).setCell ⟨w.heap.size, 5, none⟩ (.slice none 0 0)) (w.heap.size) 28 #[.string ⟨#[]⟩, .bool false, .int .i64 0, .slice none 0 0, .slice none 0 0, .slice none 0 0, .slice none 0 0]) := Lib.hid (by have := OZ5.out.put 5 (.slice none 0 0); simpa using this)
    have BZ6 := Lib.hid (BZ5.out.setCell (p := ⟨w.heap.size, 5, none⟩) (Nat.le_refl _) (.slice none 0 0))
    have zc6 := OZ6.out.cell 6
    have zf6 := OZ6.out.frozen 6
    have OZ7 : Hid (Ob (((((((w4.setCell ⟨w.heap.size, 0, none⟩ (.string ⟨#[]⟩)).setCell ⟨w.heap.size, 1, none⟩ (.bool false)).setCell ⟨w.heap.size, 2, none⟩ (.int .i64 0)).setCell ⟨w.heap.size, 3, none⟩ (.slice none 0 0)).setCell ⟨w.heap.size, 4, none⟩ (.slice none 0 0)).setCell ⟨w.heap.size, 5, none⟩ (.slice none 0 0)).setCell ⟨w.heap.size, 6, none⟩ (.slice none 0 0)) (w.heap.size) 28 #[.string ⟨#[]⟩, .bool false, .int .i64 0, .slice none 0 0, .slice none 0 0, .slice none 0 0, .slice none 0 0]) := Lib.hid (by have := OZ6.out.put 6 (.slice none 0 0); simpa using this)
    have BZ7 := Lib.hid (BZ6.out.setCell (p := ⟨w.heap.size, 6, none⟩) (Nat.le_refl _) (.slice none 0 0))
    have RZ1 := Lib.hid (R5.out.keep (Below.heap_setCell w4 ⟨w.heap.size, 0, none⟩ (.string ⟨#[]⟩) _ (by show w1.heap.size ≠ w.heap.size; have := HG.out; omega)))
    have RZ2 := Lib.hid (RZ1.out.keep (Below.heap_setCell (w4.setCell ⟨w.heap.size, 0, none⟩ (.string ⟨#[]⟩)) ⟨w.heap.size, 1, none⟩ (.bool false) _ (by show w1.heap.size ≠ w.heap.size; have := HG.out; omega)))
    have RZ3 := Lib.hid (RZ2.out.keep (Below.heap_setCell ((w4.setCell ⟨w.heap.size, 0, none⟩ (.string ⟨#[]⟩)).setCell ⟨w.heap.size, 1, none⟩ (.bool false)) ⟨w.heap.size, 2, none⟩ (.int .i64 0) _ (by show w1.heap.size ≠ w.heap.size; have := HG.out; omega)))
    have RZ4 := Lib.hid (RZ3.out.keep (Below.heap_setCell (((w4.setCell ⟨w.heap.size, 0, none⟩ (.string ⟨#[]⟩)).setCell ⟨w.heap.size, 1, none⟩ (.bool false)).setCell ⟨w.heap.size, 2, none⟩ (.int .i64 0)) ⟨w.heap.size, 3, none⟩ (.slice none 0 0) _ (by show w1.heap.size ≠ w.heap.size; have := HG.out; omega)))
    have RZ5 := Lib.hid (RZ4.out.keep (Below.heap_setCell ((((w4.setCell ⟨w.heap.size, 0, none⟩ (.string ⟨#[]⟩)).setCell ⟨w.heap.size, 1, none⟩ (.bool false)).setCell ⟨w.heap.size, 2, none⟩ (.int .i64 0)).setCell ⟨w.heap.size, 3, none⟩ (.slice none 0 0)) ⟨w.heap.size, 4, none⟩ (.slice none 0 0) _ (by show w1.heap.size ≠ w.heap.size; have := HG.out; omega)))
    have RZ6 := Lib.hid (RZ5.out.keep (Below.heap_setCell (((((w4.setCell ⟨w.heap.size, 0, none⟩ (.string ⟨#[]⟩)).setCell ⟨w.heap.size, 1, none⟩ (.bool false)).setCell ⟨w.heap.size, 2, none⟩ (.int .i64 0)).setCell ⟨w.heap.size, 3, none⟩ (.slice none 0 0)).setCell ⟨w.heap.size, 4, none⟩ (.slice none 0 0)) ⟨w.heap.size, 5, none⟩ (.slice none 0 0) _ (by show w1.heap.size ≠ w.heap.size; have := HG.out; omega)))
    have RZ7 := Lib.hid (RZ6.out.keep (Below.heap_setCell ((((((w4.setCell ⟨w.heap.size, 0, none⟩ (.string ⟨#[]⟩)).setCell ⟨w.heap.size, 1, none⟩ (.bool false)).setCell ⟨w.heap.size, 2, none⟩ (.int .i64 0)).setCell ⟨w.heap.size, 3, none⟩ (.slice none 0 0)).setCell ⟨w.heap.size, 4, none⟩ (.slice none 0 0)).setCell ⟨w.heap.size, 5, none⟩ (.slice none 0 0)) ⟨w.heap.size, 6, none⟩ (.slice none 0 0) _ (by show w1.heap.size ≠ w.heap.size; have := HG.out; omega)))
    have RZc2 := RZ7.out.cell 2
    have RZc3 := RZ7.out.cell 3
    have OD0 : Hid (Ob w4.drew w.heap.size 28 #[.string ⟨#[]⟩, .bool false, .int .i64 0, .slice none 0 0, .slice none 0 0, .slice none 0 0, .slice none 0 0]) := Lib.hid O5.out
    have BD0 : Hid (Below w.heap.size w w4.drew) := Lib.hid (below_drewN HB5.out 1)
    have yc0 := OD0.out.cell 0
    have yf0 := OD0.out.frozen 0
    have OY1 : Hid (Ob (w4.drew.setCell ⟨w.heap.size, 0, none⟩ (.string ⟨#[]⟩)) (w.heap.size) 28 #[.string ⟨#[]⟩, .bool false, .int .i64 0, .slice none 0 0, .slice none 0 0, .slice none 0 0, .slice none 0 0]) := Lib.hid (by have := OD0.out.put 0 (.string ⟨#[]⟩); simpa using this)
    have BY1 := Lib.hid (BD0.out.setCell (p := ⟨w.heap.size, 0, none⟩) (Nat.le_refl _) (.string ⟨#[]⟩))
    have yc1 := OY1.out.cell 1
    have yf1 := OY1.out.frozen 1
    have OY2 : Hid (Ob ((w4.drew.setCell ⟨w.heap.size, 0, none⟩ (.string ⟨#[]⟩)).setCell ⟨w.heap.size, 1, none⟩ (.bool false)) (w.heap.size) 28 #[.string ⟨#[]⟩, .bool false, .int .i64 0, .slice none 0 0, .slice none 0 0, .slice none 0 0, .slice none 0 0]) := Lib.hid (by have := OY1.out.put 1 (.bool false); simpa using this)
    have BY2 := Lib.hid (BY1.out.setCell (p := ⟨w.heap.size, 1, none⟩) (Nat.le_refl _) (.bool false))
    have yc2 := OY2.out.cell 2
    have yf2 := OY2.out.frozen 2
    have OY3 : Hid (Ob (((w4.drew.setCell ⟨w.heap.size, 0, none⟩ (.string ⟨#[]⟩)).setCell ⟨w.heap.size, 1, none⟩ (.bool false)).setCell ⟨w.heap.size, 2, none⟩ (.int .i64 0)) (w.heap.size) 28 #[.string ⟨#[]⟩, .bool false, .int .i64 0, .slice none 0 0, .slice none 0 0, .slice none 0 0, .slice none 0 0]) := Lib.hid (by have := OY2.out.put 2 (.int .i64 0); simpa using this)
    have BY3 := Lib.hid (BY2.out.setCell (p := ⟨w.heap.size, 2, none⟩) (Nat.le_refl _) (.int .i64 0))
    have yc3 := OY3.out.cell 3
    have yf3 := OY3.out.frozen 3
    have OY4 : Hid (Ob ((((w4.drew.setCell ⟨w.heap.size, 0, none⟩ (.string ⟨#[]⟩)).setCell ⟨w.heap.size, 1, none⟩ (.bool false)).setCell ⟨w.heap.size, 2, none⟩ (.int .i64 0)).setCell ⟨w.heap.size, 3, none⟩ (.slice none 0 0)) (w.heap.size) 28 #[.string ⟨#[]⟩, .bool false, .int .i64 0, .slice none 0 0, .slice none 0 0, .slice none 0 0, .slice none 0 0]) := Lib.hid (by have := OY3.out.put 3 (.slice none 0 0); simpa using this)
    have BY4 := Lib.hid (BY3.out.setCell (p := ⟨w.heap.size, 3, none⟩) (Nat.le_refl _) (.slice none 0 0))
    have yc4 := OY4.out.cell 4
    have yf4 := OY4.out.frozen 4
    have OY5 : Hid (Ob (((((w4.drew.setCell ⟨w.heap.size, 0, none⟩ (.string ⟨#[]⟩)).setCell ⟨w.heap.size, 1, none⟩ (.bool false)).setCell ⟨w.heap.size, 2, none⟩ (.int .i64 0)).setCell ⟨w.heap.size, 3, none⟩ (.slice none 0 0)).setCell ⟨w.heap.size, 4, none⟩ (.slice none 0 0)) (w.heap.size) 28 #[.string ⟨#[]⟩, .bool false, .int .i64 0, .slice none 0 0, .slice none 0 0, .slice none 0 0, .slice none 0 0]) := Lib.hid (by have := OY4.out.put 4 (.slice none 0 0); simpa using this)
    have BY5 := Lib.hid (BY4.out.setCell (p := ⟨w.heap.size, 4, none⟩) (Nat.le_refl _) (.slice none 0 0))
    have yc5 := OY5.out.cell 5
    have yf5 := OY5.out.frozen 5
    have OY6 : Hid (Ob ((((((w4.drew.setCell ⟨w.heap.size, 0, none⟩ (.string ⟨#[]⟩)).setCell ⟨w.heap.size, 1, none⟩ (.bool false)).setCell ⟨w.heap.size, 2, none⟩ (.int .i64 0)).setCell ⟨w.heap.size, 3, none⟩ (.slice none 0 0)).setCell ⟨w.heap.size, 4, none⟩ (.slice none 0 0)).setCell ⟨w.heap.size, 5, none⟩ (.slice none 0 0)) (w.heap.size) 28 #[.string ⟨#[]⟩, .bool false, .int .i64 0, .slice none 0 0, .slice none 0 0, .slice none 0 0, .slice none 0 0]) := Lib.hid (by have := OY5.out.put 5 (.slice none 0 0); simpa using this)
    have BY6 := Lib.hid (BY5.out.setCell (p := ⟨w.heap.size, 5, none⟩) (Nat.le_refl _) (.slice none 0 0))
    have yc6 := OY6.out.cell 6
    have yf6 := OY6.out.frozen 6
    have OY7 : Hid (Ob (((((((w4.drew.setCell ⟨w.heap.size, 0, none⟩ (.string ⟨#[]⟩)).setCell ⟨w.heap.size, 1, none⟩ (.bool false)).setCell ⟨w.heap.size, 2, none⟩ (.int .i64 0)).setCell ⟨w.heap.size, 3, none⟩ (.slice none 0 0)).setCell ⟨w.heap.size, 4, none⟩ (.slice none 0 0)).setCell ⟨w.heap.size, 5, none⟩ (.slice none 0 0)).setCell ⟨w.heap.size, 6, none⟩ (.slice none 0 0)) (w.heap.size) 28 #[.string ⟨#[]⟩, .bool false, .int .i64 0, .slice none 0 0, .slice none 0 0, .slice none 0 0, .slice none 0 0]) := Lib.hid (by have := OY6.out.put 6 (.slice none 0 0); simpa using this)
    have BY7 := Lib.hid (BY6.out.setCell (p := ⟨w.heap.size, 6, none⟩) (Nat.le_refl _) (.slice none 0 0))
    have RD0 : Hid (Ob w4.drew w1.heap.size 64 #[.slice (some ⟨b0, o0, none⟩) n0 c0, .int .i64 (z.met : Int), .int .i64 z.err, .int .i64 z.at_]) := Lib.hid R5.out
    have RY1 := Lib.hid (RD0.out.keep (Below.heap_setCell w4.drew ⟨w.heap.size, 0, none⟩ (.string ⟨#[]⟩) _ (by show w1.heap.size ≠ w.heap.size; have := HG.out; omega)))
    have RY2 := Lib.hid (RY1.out.keep (Below.heap_setCell (w4.drew.setCell ⟨w.heap.size, 0, none⟩ (.string ⟨#[]⟩)) ⟨w.heap.size, 1, none⟩ (.bool false) _ (by show w1.heap.size ≠ w.heap.size; have := HG.out; omega)))
    have RY3 := Lib.hid (RY2.out.keep (Below.heap_setCell ((w4.drew.setCell ⟨w.heap.size, 0, none⟩ (.string ⟨#[]⟩)).setCell ⟨w.heap.size, 1, none⟩ (.bool false)) ⟨w.heap.size, 2, none⟩ (.int .i64 0) _ (by show w1.heap.size ≠ w.heap.size; have := HG.out; omega)))
    have RY4 := Lib.hid (RY3.out.keep (Below.heap_setCell (((w4.drew.setCell ⟨w.heap.size, 0, none⟩ (.string ⟨#[]⟩)).setCell ⟨w.heap.size, 1, none⟩ (.bool false)).setCell ⟨w.heap.size, 2, none⟩ (.int .i64 0)) ⟨w.heap.size, 3, none⟩ (.slice none 0 0) _ (by show w1.heap.size ≠ w.heap.size; have := HG.out; omega)))
    have RY5 := Lib.hid (RY4.out.keep (Below.heap_setCell ((((w4.drew.setCell ⟨w.heap.size, 0, none⟩ (.string ⟨#[]⟩)).setCell ⟨w.heap.size, 1, none⟩ (.bool false)).setCell ⟨w.heap.size, 2, none⟩ (.int .i64 0)).setCell ⟨w.heap.size, 3, none⟩ (.slice none 0 0)) ⟨w.heap.size, 4, none⟩ (.slice none 0 0) _ (by show w1.heap.size ≠ w.heap.size; have := HG.out; omega)))
    have RY6 := Lib.hid (RY5.out.keep (Below.heap_setCell (((((w4.drew.setCell ⟨w.heap.size, 0, none⟩ (.string ⟨#[]⟩)).setCell ⟨w.heap.size, 1, none⟩ (.bool false)).setCell ⟨w.heap.size, 2, none⟩ (.int .i64 0)).setCell ⟨w.heap.size, 3, none⟩ (.slice none 0 0)).setCell ⟨w.heap.size, 4, none⟩ (.slice none 0 0)) ⟨w.heap.size, 5, none⟩ (.slice none 0 0) _ (by show w1.heap.size ≠ w.heap.size; have := HG.out; omega)))
    have RY7 := Lib.hid (RY6.out.keep (Below.heap_setCell ((((((w4.drew.setCell ⟨w.heap.size, 0, none⟩ (.string ⟨#[]⟩)).setCell ⟨w.heap.size, 1, none⟩ (.bool false)).setCell ⟨w.heap.size, 2, none⟩ (.int .i64 0)).setCell ⟨w.heap.size, 3, none⟩ (.slice none 0 0)).setCell ⟨w.heap.size, 4, none⟩ (.slice none 0 0)).setCell ⟨w.heap.size, 5, none⟩ (.slice none 0 0)) ⟨w.heap.size, 6, none⟩ (.slice none 0 0) _ (by show w1.heap.size ≠ w.heap.size; have := HG.out; omega)))
    have RYc2 := RY7.out.cell 2
    have RYc3 := RY7.out.cell 3
    have q2d : w4.drew.cell? ⟨w1.heap.size, 2, none⟩ = some (.int .i64 z.err) := q2
    have q3d : w4.drew.cell? ⟨w1.heap.size, 3, none⟩ = some (.int .i64 z.at_) := q3
    go_region
    have OF := Lib.hid (Ob.drew9 OZ7.out)
    have BF : Hid (Below w.heap.size w ((((((((w4.setCell ⟨w.heap.size, 0, none⟩ (.string ⟨#[]⟩)).setCell ⟨w.heap.size, 1, none⟩ (.bool false)).setCell ⟨w.heap.size, 2, none⟩ (.int .i64 0)).setCell ⟨w.heap.size, 3, none⟩ (.slice none 0 0)).setCell ⟨w.heap.size, 4, none⟩ (.slice none 0 0)).setCell ⟨w.heap.size, 5, none⟩ (.slice none 0 0)).setCell ⟨w.heap.size, 6, none⟩ (.slice none 0 0)).drew)) := Lib.hid (below_drewN BZ7.out 1)
    obtain ⟨w9, hw9⟩ : ∃ w9, w9 = (((((((w4.setCell ⟨w.heap.size, 0, none⟩ (.string ⟨#[]⟩)).setCell ⟨w.heap.size, 1, none⟩ (.bool false)).setCell ⟨w.heap.size, 2, none⟩ (.int .i64 0)).setCell ⟨w.heap.size, 3, none⟩ (.slice none 0 0)).setCell ⟨w.heap.size, 4, none⟩ (.slice none 0 0)).setCell ⟨w.heap.size, 5, none⟩ (.slice none 0 0)).setCell ⟨w.heap.size, 6, none⟩ (.slice none 0 0)).drew := ⟨_, rfl⟩
    rw [← hw9] at OF BF ⊢
    clear hw9
    go_wp2_with fail
    try simp only [Exit.inBlock, Exit.then]
    refine bodyPost_ret (policy_ret3 rfl rfl rfl rfl OF.out rfl) rfl ?_
    rw [← HF.out]
    exact ⟨_, rfl, BF.out, noPol_of _ _⟩

/-- parse.Policy, of any text that a string may be. -/
theorem parse_any (s : ByteArray) (hs : s.size ≤ maxLen) : Calls Try.prog 10 #[.string s] w (ParseP s w) := by
  by_cases h : 4096 < s.size
  · exact parse_big s h hs
  · cases hl : lexB s.data.toList 0 with
    | error p => exact parse_bad s (by omega) hl
    | ok ts => exact parse_ok s (by omega) hl
end
end Go.Proofs.Ythppdgiobflfpaa
/- A region that draws its order: its head, in whatever order, under a condition on the world (loads that it tells are taken first); and a forced tail, that may break the condition. -/
namespace Go.Proofs.Ythppdgiobflfpaa
open Go Go.RowKit

section
variable {P : Program} {ops : Array Oper} {md : Region.Mode} {Q : Exit → Act → World → Prop} {S : World → Prop} {L : Array Bool → Act → World → Prop} {n : Nat}

/-- Whatever order is picked among the first n, till L; S holds behind each. -/
def HeadS (P : Program) (md : Region.Mode) (ops : Array Oper) (Q : Exit → Act → World → Prop) (S : World → Prop) (n : Nat) (L : Array Bool → Act → World → Prop) : Nat → Array Bool → Act → World → Prop
  | 0, listed, a, w => L listed a w
  | f + 1, listed, a, w => Region.ready md ops listed ≠ [] ∧ ∀ i ∈ Region.ready md ops listed, i < n ∧ wpOp P ops Q i (fun a' w' => S w' ∧ HeadS P md ops Q S n L f (listed.setIfInBounds i true) a' w') a w

theorem HeadS.any {g : Nat} (hL : ∀ listed a w, L listed a w → wpAny P md ops Q g listed a w) :
    ∀ (f : Nat) (listed : Array Bool) (a : Act) (w : World), HeadS P md ops Q S n L f listed a w → wpAny P md ops Q (f + g) listed a w
  | 0, _, _, _, h => by rw [Nat.zero_add]; exact hL _ _ _ h
  | f + 1, _, _, _, h => by
    rw [show f + 1 + g = (f + g) + 1 by omega]
    exact ⟨fun h0 => absurd h0 h.1, fun i hi => wpOp_mono (fun a' w' h' => HeadS.any hL f _ a' w' h'.2) (h.2 i hi).2⟩

theorem HeadS.first {i : Nat} {oi : Oper} {v : Value} (hi : ops[i]? = some oi) (hsel : ∀ (j : Nat) (o : Oper) cs b, ops[j]? = some o → o.op ≠ .select cs b)
    (hQ : ∀ c a w, Q (.panic c) (a.put oi.dst v) w → Q (.panic c) a w)
    (hs : Region.sinkB md ops n = true) (hc : Region.chainB md ops n = true) (hn : n < ops.size) (hin : i < n) (hdone : ∀ listed a w, L listed a w → ∀ j ∈ Region.ready md ops listed, n ≤ j) :
    ∀ (f : Nat) (listed : Array Bool) (a : Act) (w : World), HeadInv md ops n listed →
      (∀ j oj, ops[j]? = some oj → j ≠ i → listed.getD j true = false → (∀ e ∈ oj.after, Region.binds md e = true → e.on ≠ i) → oi.apart ops oj = true) →
      i ∈ Region.ready md ops listed → YieldsIf P ops S oi v a → S w → HeadS P md ops Q S n L f (listed.setIfInBounds i true) (a.put oi.dst v) w → HeadS P md ops Q S n L (f + 1) listed a w := by
  intro f
  induction f with
  | zero =>
    intro listed a w inv _ hr hy hS H
    refine ⟨fun h => (by rw [h] at hr; cases hr), fun j hj => ?_⟩
    have hjn : j < n := Nat.lt_of_not_le fun h => tail_waits hs hc hn inv _ i rfl hin (mem_ready.1 hr).1 j h hj
    refine ⟨hjn, ?_⟩
    by_cases hji : j = i
    · subst hji; exact hy.wpOp hi hS ⟨hS, H⟩
    · have := hdone _ _ _ H j (ready_mono hj hji)
      omega
  | succ f ih =>
    intro listed a w inv hfree hr hy hS H
    have hun := (mem_ready.1 hr).1
    refine ⟨fun h => (by rw [h] at hr; cases hr), fun j hj => ?_⟩
    have hjn : j < n := Nat.lt_of_not_le fun h => tail_waits hs hc hn inv _ i rfl hin hun j h hj
    refine ⟨hjn, ?_⟩
    by_cases hji : j = i
    · subst hji; exact hy.wpOp hi hS ⟨hS, H⟩
    · have h1 := (H.2 j (ready_mono hj hji)).2
      obtain ⟨hjun, oj, hoj, hall⟩ := mem_ready.1 hj
      have hnot : ∀ e ∈ oj.after, Region.binds md e = true → e.on ≠ i := fun e he hb heq => by
        have h1 := hall e he hb
        rw [heq, getD_both hun] at h1
        cases h1
      have h2 := wpOp_putIf hoj (hfree j oj hoj hji hjun hnot) (fun cs b => hsel i oi cs b hi) (fun cs b => hsel j oj cs b hoj) hQ hy h1
      have hfree' : ∀ k ok, ops[k]? = some ok → k ≠ i → (listed.setIfInBounds j true).getD k true = false →
          (∀ e ∈ ok.after, Region.binds md e = true → e.on ≠ i) → oi.apart ops ok = true := fun k ok hk hki hun' hno => by
        refine hfree k ok hk hki ?_ hno
        by_cases hjk : j = k
        · subst hjk; exact hjun
        · rw [getD_set_ne true hjk] at hun'; exact hun'
      refine wpOp_mono (fun a' w' h3 => ⟨h3.2.1, ih (listed.setIfInBounds j true) a' w' (inv.set hj hjn) hfree' (ready_mono hr (Ne.symm hji)) h3.1 h3.2.1 ?_⟩) h2
      rw [Array.setIfInBounds_comm _ _ hji]
      exact h3.2.2

/-- In a state that can be. -/
def HeadW (P : Program) (md : Region.Mode) (ops : Array Oper) (Q : Exit → Act → World → Prop) (S : World → Prop) (n : Nat) (L : Array Bool → Act → World → Prop) (f : Nat) (listed : Array Bool) (a : Act) (w : World) : Prop :=
  HeadInv md ops n listed → HeadS P md ops Q S n L f listed a w
/-- What is known of the region. -/
def HeadG (md : Region.Mode) (ops : Array Oper) (n : Nat) (L : Array Bool → Act → World → Prop) : Prop :=
  Region.noSelect ops = true ∧ Region.sinkB md ops n = true ∧ Region.chainB md ops n = true ∧ n < ops.size ∧ ∀ listed a w, L listed a w → ∀ j ∈ Region.ready md ops listed, n ≤ j

theorem HeadW_take {i : Nat} {oi : Oper} {v : Value} {f : Nat} {listed : Array Bool} {a : Act} {w : World} (G : HeadG md ops n L) (hi : ops[i]? = some oi)
    (hin : Nat.blt i n = true) (hf : Region.free md ops listed i = true) (hr : (Region.ready md ops listed).contains i = true)
    (hQ : ∀ c a w, Q (.panic c) (a.put oi.dst v) w → Q (.panic c) a w) (hy : YieldsIf P ops S oi v a) (hS : S w)
    (h : HeadW P md ops Q S n L f (listed.setIfInBounds i true) (a.put oi.dst v) w) : HeadW P md ops Q S n L (f + 1) listed a w := fun inv => by
  have hin' : i < n := by simpa using hin
  have hr' : i ∈ Region.ready md ops listed := by simpa using hr
  exact HeadS.first hi (Region.noSelect_spec G.1) hQ G.2.1 G.2.2.1 G.2.2.2.1 hin' G.2.2.2.2 f listed a w inv (Region.free_spec hi hf) hr' hy hS (h (inv.set hr' hin'))

/-- Each of these comes up next. -/
def AllW (P : Program) (md : Region.Mode) (ops : Array Oper) (Q : Exit → Act → World → Prop) (S : World → Prop) (n : Nat) (L : Array Bool → Act → World → Prop) (f : Nat) (listed : Array Bool) (a : Act) (w : World) (rs : List Nat) : Prop :=
  ∀ i ∈ rs, wpOp P ops Q i (fun a' w' => S w' ∧ HeadW P md ops Q S n L f (listed.setIfInBounds i true) a' w') a w
theorem AllW.nil {f : Nat} {listed : Array Bool} {a : Act} {w : World} : AllW P md ops Q S n L f listed a w [] := fun _ h => by cases h
theorem AllW.cons {f : Nat} {listed : Array Bool} {a : Act} {w : World} {i : Nat} {o : Oper} {rs : List Nat} (ho : ops[i]? = some o)
    (h : ∀ K' : Act → World → Prop, (∀ a w, S w → HeadW P md ops Q S n L f (listed.setIfInBounds i true) a w → K' a w) → if Region.wanted o (yielded ops a.tmps) = true then Oper.wp P o a w K' Q else K' (a.put o.dst undef) w)
    (hs : AllW P md ops Q S n L f listed a w rs) : AllW P md ops Q S n L f listed a w (i :: rs) := fun j hj => by
  rcases List.mem_cons.1 hj with rfl | hj
  · exact wpOp_step ho fun K' hK => h K' fun a w h1 h2 => hK a w ⟨h1, h2⟩
  · exact hs j hj
theorem HeadW_ready {rs : List Nat} {f : Nat} {listed : Array Bool} {a : Act} {w : World} (hr : Region.ready md ops listed = rs) (hne : rs.isEmpty = false) (hin : rs.all (fun i => Nat.blt i n) = true)
    (h : AllW P md ops Q S n L f listed a w rs) : HeadW P md ops Q S n L (f + 1) listed a w := fun inv => by
  subst hr
  refine ⟨fun h0 => (by rw [h0] at hne; cases hne), fun i hi => ?_⟩
  have hin' : i < n := by simpa using List.all_eq_true.1 hin i hi
  exact ⟨hin', wpOp_mono (fun a' w' h' => ⟨h'.1, h'.2 (inv.set hi hin')⟩) (h i hi)⟩

/-- What is left: the tail, one behind the other. -/
def TailL (P : Program) (ops : Array Oper) (Q : Exit → Act → World → Prop) (n g : Nat) (r : List Oper) (listed : Array Bool) (a : Act) (w : World) : Prop := Region.seqB .any ops g n listed = true ∧ wpList P ops Q r a w

theorem wp_region_held_tail {id : Nat} {a : Act} {w : World} {l : List Oper} (S : World → Prop) (n : Nat) (hm : P.follows .mixedOrders = true)
    (hB : (Region.noSelect l.toArray && Nat.blt n l.length && Region.sinkB .any l.toArray n && Region.chainB .any l.toArray n) = true)
    (h : HeadG .any l.toArray n (TailL P l.toArray Q n (l.length - n) (l.drop n)) → HeadW P .any l.toArray Q S n (TailL P l.toArray Q n (l.length - n) (l.drop n)) n (Array.replicate l.toArray.size false) a { w with drawn := w.drawn + 1 }) :
    (Code.region id l.toArray true).wp P Q a w := by
  simp only [Bool.and_eq_true] at hB
  obtain ⟨⟨⟨hsel, hn⟩, hs⟩, hc⟩ := hB
  have hn' : n < l.length := by simpa using hn
  have hdl : (l.drop n).length = l.toArray.size - n := by simp
  have inv0 : HeadInv .any l.toArray n (Array.replicate l.toArray.size false) :=
    ⟨by simp, fun j oj _ hl => (by rw [getD_replicate_false] at hl; cases hl), fun t _ ht => getD_in (by simpa using ht) (getD_replicate_false _ _)⟩
  have H := h ⟨hsel, hs, hc, by simpa using hn', fun listed a w hL => seqB_ready hL.1⟩ inv0
  refine wp_region_any hm ?_
  have := HeadS.any (g := l.toArray.size - n) (fun listed a' w' hL => by
    have := wpAny_of_seq (md := .any) (Q' := Q) (l.drop n) n listed a' w' (fun j => by simp [List.getElem?_drop]) (by rw [hdl]; simpa using hL.1) hL.2
    rwa [hdl] at this) _ _ _ _ H
  rw [show n + (l.toArray.size - n) = l.toArray.size by simp; omega] at this
  exact this
end
end Go.Proofs.Ythppdgiobflfpaa
/- bailiffkeep: two policies that are the same. -/
namespace Go.Proofs.Ythppdgiobflfpaa
set_option linter.unusedVariables false
open Go.RowKit Go.Sort

section
variable {w : World} {R R' : Nat → Prop} {A A' : Option Addr} {n c n' c' : Nat}
theorem Rw.same_len {α : Type} {k k' : Nat} {P P' : List Value → α → Prop} {w : World} {R R' : Nat → Prop} {A A' : Option Addr} {n n' c c' : Nat} {l : List α} (h : Rw k P w R A n c l) (h' : Rw k' P' w R' A' n' c' l) : n = n' := by rw [← h.len, ← h'.len]
set_option maxHeartbeats 800000 in
theorem same_dut {l : List Dut} (h : Dus w R A n c l) (h' : Dus w R' A' n c' l) : Calls Try.prog 19 #[.slice A n c, .slice A' n c'] w fun e w' => e = .returned (.bool true) ∧ Below w.heap.size w w' := by
  have hcap := h.cap
  have hle := h.le
  have hle' := h'.le
  unfold maxLen at hcap
  have H := Lib.hid h
  have H' := Lib.hid h'
  clear h h'
  go_enter Try.func19, Try.ntmps19
  go_wp2
  go_loopw [5] (fun i wr => ∃ k : Nat, k ≤ n ∧ i = .int .i64 k ∧ ∃ q, wr = w.drewN q) (fun i _ => n - (intOf i).toNat)
  case atStart => exact ⟨0, Nat.zero_le _, rfl, 0, rfl⟩
  case round =>
    obtain ⟨k, hk, rfl, q, rfl⟩ := hrel
    by_cases hlt : k < n
    · obtain ⟨b, o, x, rfl, _, _, hx, _, ⟨x0, x1, x2⟩⟩ := H.out.at_ hlt
      obtain ⟨b', o', y, rfl, _, _, hy, _, ⟨y0, y1, y2⟩⟩ := H'.out.at_ hlt
      obtain rfl := Option.some.inj (hx.symm.trans hy)
      have hve := dut_eq x x
      simp only [decide_true] at hve
      clear hx hy
      go_wp2_with fail
      go_quiet (fail)
      go_wp2
      go_roundw
      case rel => exact ⟨k + 1, by omega, by go_num, _, rfl⟩
      case measure => simp [intOf]; omega
    · obtain rfl : k = n := by omega
      go_wp2
      go_ret
      exact ⟨rfl, below_drewN (Below.refl _ _) _⟩
set_option maxHeartbeats 800000 in
theorem same_nod {l : List Nod} (h : Nds w R A n c l) (h' : Nds w R' A' n c' l) : Calls Try.prog 20 #[.slice A n c, .slice A' n c'] w fun e w' => e = .returned (.bool true) ∧ Below w.heap.size w w' := by
  have hcap := h.cap
  have hle := h.le
  have hle' := h'.le
  unfold maxLen at hcap
  have H := Lib.hid h
  have H' := Lib.hid h'
  clear h h'
  go_enter Try.func20, Try.ntmps20
  go_wp2
  go_loopw [5] (fun i wr => ∃ k : Nat, k ≤ n ∧ i = .int .i64 k ∧ ∃ q, wr = w.drewN q) (fun i _ => n - (intOf i).toNat)
  case atStart => exact ⟨0, Nat.zero_le _, rfl, 0, rfl⟩
  case round =>
    obtain ⟨k, hk, rfl, q, rfl⟩ := hrel
    by_cases hlt : k < n
    · obtain ⟨b, o, x, rfl, _, _, hx, _, ⟨x0, x1, x2, x3, x4, x5, x6⟩⟩ := H.out.at_ hlt
      obtain ⟨b', o', y, rfl, _, _, hy, _, ⟨y0, y1, y2, y3, y4, y5, y6⟩⟩ := H'.out.at_ hlt
      obtain rfl := Option.some.inj (hx.symm.trans hy)
      have hve := nod_eq x x
      simp only [decide_true] at hve
      clear hx hy
      go_wp2_with fail
      go_quiet (fail)
      go_wp2
      go_roundw
      case rel => exact ⟨k + 1, by omega, by go_num, _, rfl⟩
      case measure => simp [intOf]; omega
    · obtain rfl : k = n := by omega
      go_wp2
      go_ret
      exact ⟨rfl, below_drewN (Below.refl _ _) _⟩
set_option maxHeartbeats 800000 in
theorem same_mat {l : List Mat} (h : Ms w R A n c l) (h' : Ms w R' A' n c' l) : Calls Try.prog 40 #[.slice A n c, .slice A' n c'] w fun e w' => e = .returned (.bool true) ∧ Below w.heap.size w w' := by
  have hcap := h.cap
  have hle := h.le
  have hle' := h'.le
  unfold maxLen at hcap
  have H := Lib.hid h
  have H' := Lib.hid h'
  clear h h'
  go_enter Try.func40, Try.ntmps40
  go_wp2
  go_loopw [5] (fun i wr => ∃ k : Nat, k ≤ n ∧ i = .int .i64 k ∧ ∃ q, wr = w.drewN q) (fun i _ => n - (intOf i).toNat)
  case atStart => exact ⟨0, Nat.zero_le _, rfl, 0, rfl⟩
  case round =>
    obtain ⟨k, hk, rfl, q, rfl⟩ := hrel
    by_cases hlt : k < n
    · obtain ⟨b, o, x, rfl, _, _, hx, _, ⟨x0, x1, x2, x3, x4, x5, x6⟩⟩ := H.out.at_ hlt
      obtain ⟨b', o', y, rfl, _, _, hy, _, ⟨y0, y1, y2, y3, y4, y5, y6⟩⟩ := H'.out.at_ hlt
      obtain rfl := Option.some.inj (hx.symm.trans hy)
      have hve := mat_eq x x
      simp only [decide_true] at hve
      clear hx hy
      go_wp2_with fail
      go_quiet (fail)
      go_wp2
      go_roundw
      case rel => exact ⟨k + 1, by omega, by go_num, _, rfl⟩
      case measure => simp [intOf]; omega
    · obtain rfl : k = n := by omega
      go_wp2
      go_ret
      exact ⟨rfl, below_drewN (Below.refl _ _) _⟩
theorem same_dut_q {l : List Dut} (h : Dus w R A n c l) (h' : Dus w R' A' n' c' l) (d : Nat) (os : Array Obj) : Calls Try.prog 19 #[.slice A n c, .slice A' n' c'] (grow (redrawn w d) os) fun e w'' => e = .returned (.bool true) ∧ ∃ p : Regrown, w'' = grow (redrawn w p.d) p.os := by
  obtain rfl := Rw.same_len h h'
  exact Calls.regrown_of (same_dut (R := R) (R' := R') (h.keep (Kept.all (below_regrown w d os) R) (fun _ h _ => h)) (h'.keep (Kept.all (below_regrown w d os) R') (fun _ h _ => h)))
theorem same_nod_q {l : List Nod} (h : Nds w R A n c l) (h' : Nds w R' A' n' c' l) (d : Nat) (os : Array Obj) : Calls Try.prog 20 #[.slice A n c, .slice A' n' c'] (grow (redrawn w d) os) fun e w'' => e = .returned (.bool true) ∧ ∃ p : Regrown, w'' = grow (redrawn w p.d) p.os := by
  obtain rfl := Rw.same_len h h'
  exact Calls.regrown_of (same_nod (R := R) (R' := R') (h.keep (Kept.all (below_regrown w d os) R) (fun _ h _ => h)) (h'.keep (Kept.all (below_regrown w d os) R') (fun _ h _ => h)))
theorem same_mat_q {l : List Mat} (h : Ms w R A n c l) (h' : Ms w R' A' n' c' l) (d : Nat) (os : Array Obj) : Calls Try.prog 40 #[.slice A n c, .slice A' n' c'] (grow (redrawn w d) os) fun e w'' => e = .returned (.bool true) ∧ ∃ p : Regrown, w'' = grow (redrawn w p.d) p.os := by
  obtain rfl := Rw.same_len h h'
  exact Calls.regrown_of (same_mat (R := R) (R' := R') (h.keep (Kept.all (below_regrown w d os) R) (fun _ h _ => h)) (h'.keep (Kept.all (below_regrown w d os) R') (fun _ h _ => h)))
set_option maxRecDepth 100000 in
set_option maxHeartbeats 1600000 in
theorem same_tgt {l : Tgt} (h : Tg w R A n c l) (h' : Tg w R' A' n c' l) : Calls Try.prog 18 #[.slice A n c, .slice A' n c'] w fun e w' => e = .returned (.bool true) ∧ Below w.heap.size w w' := by
  have hcap := h.cap
  have hle := h.le
  have hle' := h'.le
  unfold maxLen at hcap
  have H := Lib.hid h
  have H' := Lib.hid h'
  clear h h'
  go_enter Try.func18, Try.ntmps18
  go_wp2
  go_loopw [14] (fun i wr => ∃ k : Nat, k ≤ n ∧ i = .int .i64 k ∧ Below w.heap.size w wr) (fun i _ => n - (intOf i).toNat)
  case atStart => exact ⟨0, Nat.zero_le _, rfl, Below.refl _ _⟩
  case round =>
    obtain ⟨k, hk, rfl, hb⟩ := hrel
    have HB := Lib.hid hb
    have T1 := Lib.hid (H.out.keep (Kept.all hb R) (fun _ h _ => h))
    have T2 := Lib.hid (H'.out.keep (Kept.all hb R') (fun _ h _ => h))
    clear hb
    by_cases hlt : k < n
    · obtain ⟨b, o, x, A1, n1, c1, rfl, _, _, hx, x0, hA⟩ := T1.out.at_ hlt
      obtain ⟨b', o', y, A2, n2, c2, rfl, _, _, hy, y0, hA'⟩ := T2.out.at_ hlt
      obtain rfl := Option.some.inj (hx.symm.trans hy)
      obtain rfl := Rw.same_len hA hA'
      have hcap1 := Rw.cap hA
      have hle1 := Rw.le hA
      have hle2 := Rw.le hA'
      unfold maxLen at hcap1
      have G1 := Lib.hid hA
      have G2 := Lib.hid hA'
      clear hx hy hA hA'
      go_wp2_with fail
      have x0' := fun d os => cell_regrown x0 d os
      have y0' := fun d os => cell_regrown y0 d os
      refine wp_region_quiet_below (by kernel_rfl) (by kernel_rfl) ?_
      repeat (go_big_quiet_step (fail))
      refine wpQuiet_nil ?_
      intro _ hw'
      obtain ⟨⟨dq, osq⟩, hw''⟩ := hw'
      subst hw''
      have BQ := Lib.hid (below_regrown wr dq osq)
      have c1x := x0' dq osq
      clear x0' y0'
      generalize grow (redrawn wr dq) osq = w2 at *
      have HB2 := Lib.hid (HB.out.trans (BQ.out.mono HB.out.size))
      have S1 := Lib.hid (G1.out.keep (Kept.all BQ.out R) (fun _ h _ => h))
      have S2 := Lib.hid (G2.out.keep (Kept.all BQ.out R') (fun _ h _ => h))
      have xw := c1x
      have yw := (show w2.cell? _ = some _ from (BQ.out.cell (block_lt_of_cell y0)).trans y0)
      clear c1x
      go_wp2_with fail
      obtain ⟨wo, hwo⟩ : ∃ wo, wo = wr := ⟨wr, rfl⟩
      subst hwo
      go_loopw [33] (fun i wq => ∃ j : Nat, j ≤ n1 ∧ i = .int .i64 j ∧ Below w2.heap.size w2 wq) (fun i _ => n1 - (intOf i).toNat)
      case atStart => exact ⟨0, Nat.zero_le _, rfl, Below.refl _ _⟩
      case round =>
        obtain ⟨j, hj, rfl, hb⟩ := hrel
        have HB3 := Lib.hid (HB2.out.trans (hb.mono HB2.out.size))
        have HBJ := Lib.hid hb
        have T1j := Lib.hid (S1.out.keep (Kept.all hb R) (fun _ h _ => h))
        have T2j := Lib.hid (S2.out.keep (Kept.all hb R') (fun _ h _ => h))
        have X0 := Lib.hid ((hb.cell (block_lt_of_cell xw)).trans xw)
        have Y0 := Lib.hid ((hb.cell (block_lt_of_cell yw)).trans yw)
        clear hb
        by_cases hlt2 : j < n1
        · obtain ⟨b1, o1, u, A3, n3, c3, rfl, _, _, hu, u0, hM⟩ := T1j.out.at_ hlt2
          obtain ⟨b2, o2, v, A4, n4, c4, rfl, _, _, hv, v0, hM'⟩ := T2j.out.at_ hlt2
          obtain rfl := Option.some.inj (hu.symm.trans hv)
          have M1 := Lib.hid hM
          have M2 := Lib.hid hM'
          have KK := Lib.hid (below_regrown wr)
          have Q1 : Hid (∀ d os, Calls Try.prog 40 #[.slice A3 n3 c3, .slice A4 n4 c4] (grow (redrawn wr d) os) fun e w'' => e = .returned (.bool true) ∧ ∃ p : Regrown, w'' = grow (redrawn wr p.d) p.os) := fun d os => same_mat_q M1.out M2.out d os
          have x1 := fun d os => cell_regrown X0.out d os
          have y1 := fun d os => cell_regrown Y0.out d os
          have u1 := fun d os => cell_regrown u0 d os
          have v1 := fun d os => cell_regrown v0 d os
          clear hu hv hM hM' x0 y0 u0 v0 xw yw
          go_wp2_with fail
          refine wp_region_quiet_below (by kernel_rfl) (by kernel_rfl) ?_
          repeat (go_big_quiet_step ((go_at_call 40; exact Q1.out _ _)))
          refine wpQuiet_nil ?_
          intro _ hw'
          obtain ⟨⟨dq, osq⟩, hw''⟩ := hw'
          subst hw''
          have BQ2 := Lib.hid (below_regrown wr dq osq)
          clear x1 y1 u1 v1 Q1 KK
          generalize grow (redrawn wr dq) osq = w5 at *
          go_wp2_with fail
          go_roundw
          case rel => exact ⟨j + 1, by omega, by go_num, HBJ.out.trans (BQ2.out.mono HBJ.out.size)⟩
          case measure => simp [intOf]; omega
        · obtain rfl : j = n1 := by omega
          clear x0 y0 xw yw
          go_wp2_with fail
          go_roundw
          case rel => exact ⟨k + 1, by omega, by go_num, HB3.out⟩
          case measure => simp [intOf]; omega
    · obtain rfl : k = n := by omega
      go_wp2
      go_ret
      exact ⟨rfl, HB.out⟩
/-- Two policies in memory that are the same. -/
def PSame (d : Nat) : Prop := ∀ {w : World} {R R' : Nat → Prop} {m : Nat} {p : Pol} {A1 A2 A3 A4 B1 B2 B3 B4 : Option Addr} {n1 n2 n3 n4 ak1 ak2 ak3 ak4 bk1 bk2 bk3 bk4 : Nat},
  p.id.size ≤ maxLen → (Tg w R A1 n1 ak1 p.tg ∧ Rus w R A2 n2 ak2 p.rules ∧ Pls w R d A3 n3 ak3 p.kids ∧ Dus w R A4 n4 ak4 p.ob) → (Tg w R' B1 n1 bk1 p.tg ∧ Rus w R' B2 n2 bk2 p.rules ∧ Pls w R' m B3 n3 bk3 p.kids ∧ Dus w R' B4 n4 bk4 p.ob) →
  Calls Try.prog 11 #[.agg #[.string p.id, .bool p.set, .int .i64 p.alg, .slice A1 n1 ak1, .slice A2 n2 ak2, .slice A3 n3 ak3, .slice A4 n4 ak4], .agg #[.string p.id, .bool p.set, .int .i64 p.alg, .slice B1 n1 bk1, .slice B2 n2 bk2, .slice B3 n3 bk3, .slice B4 n4 bk4]] w fun e w' => e = .returned (.bool true) ∧ Below w.heap.size w w'
theorem same_q {d m : Nat} (ih : PSame d) {p : Pol} {A1 A2 A3 A4 B1 B2 B3 B4 : Option Addr} {n1 n2 n3 n4 ak1 ak2 ak3 ak4 bk1 bk2 bk3 bk4 : Nat}
    (hid : p.id.size ≤ maxLen) (hA : Tg w R A1 n1 ak1 p.tg ∧ Rus w R A2 n2 ak2 p.rules ∧ Pls w R d A3 n3 ak3 p.kids ∧ Dus w R A4 n4 ak4 p.ob) (hB : Tg w R' B1 n1 bk1 p.tg ∧ Rus w R' B2 n2 bk2 p.rules ∧ Pls w R' m B3 n3 bk3 p.kids ∧ Dus w R' B4 n4 bk4 p.ob) (dd : Nat) (os : Array Obj) :
    Calls Try.prog 11 #[.agg #[.string p.id, .bool p.set, .int .i64 p.alg, .slice A1 n1 ak1, .slice A2 n2 ak2, .slice A3 n3 ak3, .slice A4 n4 ak4], .agg #[.string p.id, .bool p.set, .int .i64 p.alg, .slice B1 n1 bk1, .slice B2 n2 bk2, .slice B3 n3 bk3, .slice B4 n4 bk4]] (grow (redrawn w dd) os) fun e w'' => e = .returned (.bool true) ∧ ∃ p : Regrown, w'' = grow (redrawn w p.d) p.os := by
  have k1 := Kept.all (below_regrown w dd os) R
  have k2 := Kept.all (below_regrown w dd os) R'
  exact Calls.regrown_of (ih (R := R) (R' := R') hid ⟨hA.1.keep k1 (fun _ h _ => h), hA.2.1.keep k1 (fun _ h _ => h), hA.2.2.1.keep k1 (fun _ h _ => h), hA.2.2.2.keep k1 (fun _ h _ => h)⟩ ⟨hB.1.keep k2 (fun _ h _ => h), hB.2.1.keep k2 (fun _ h _ => h), hB.2.2.1.keep k2 (fun _ h _ => h), hB.2.2.2.keep k2 (fun _ h _ => h)⟩)
set_option maxRecDepth 100000 in
set_option maxHeartbeats 3200000 in
theorem same_step (d : Nat) (ih : ∀ d', d = d' + 1 → PSame d') : PSame d := by
  intro w R R' m p A1 A2 A3 A4 B1 B2 B3 B4 n1 n2 n3 n4 ak1 ak2 ak3 ak4 bk1 bk2 bk3 bk4 hid hA hB
  have HA := Lib.hid hA
  have HB := Lib.hid hB
  have BA : Hid (Below w.heap.size w ((w.alloc (.cells #[.string p.id, .bool p.set, .int .i64 p.alg, .slice A1 n1 ak1, .slice A2 n2 ak2, .slice A3 n3 ak3, .slice A4 n4 ak4] 28)).alloc (.cells #[.string p.id, .bool p.set, .int .i64 p.alg, .slice B1 n1 bk1, .slice B2 n2 bk2, .slice B3 n3 bk3, .slice B4 n4 bk4] 28))) := (((Below.refl _ _).alloc (Nat.le_refl _) _).alloc (by rw [size_al]; omega) _)
  have PA : Hid (Ob ((w.alloc (.cells #[.string p.id, .bool p.set, .int .i64 p.alg, .slice A1 n1 ak1, .slice A2 n2 ak2, .slice A3 n3 ak3, .slice A4 n4 ak4] 28)).alloc (.cells #[.string p.id, .bool p.set, .int .i64 p.alg, .slice B1 n1 bk1, .slice B2 n2 bk2, .slice B3 n3 bk3, .slice B4 n4 bk4] 28)) w.heap.size 28 #[.string p.id, .bool p.set, .int .i64 p.alg, .slice A1 n1 ak1, .slice A2 n2 ak2, .slice A3 n3 ak3, .slice A4 n4 ak4]) := (Ob.made _ _ _).keep (Below.heap_alloc _ _ _ (by rw [size_al]; omega))
  have PB : Hid (Ob ((w.alloc (.cells #[.string p.id, .bool p.set, .int .i64 p.alg, .slice A1 n1 ak1, .slice A2 n2 ak2, .slice A3 n3 ak3, .slice A4 n4 ak4] 28)).alloc (.cells #[.string p.id, .bool p.set, .int .i64 p.alg, .slice B1 n1 bk1, .slice B2 n2 bk2, .slice B3 n3 bk3, .slice B4 n4 bk4] 28)) (w.heap.size + 1) 28 #[.string p.id, .bool p.set, .int .i64 p.alg, .slice B1 n1 bk1, .slice B2 n2 bk2, .slice B3 n3 bk3, .slice B4 n4 bk4]) := Lib.hid (by have := Ob.made (w.alloc (.cells #[.string p.id, .bool p.set, .int .i64 p.alg, .slice A1 n1 ak1, .slice A2 n2 ak2, .slice A3 n3 ak3, .slice A4 n4 ak4] 28)) 28 #[.string p.id, .bool p.set, .int .i64 p.alg, .slice B1 n1 bk1, .slice B2 n2 bk2, .slice B3 n3 bk3, .slice B4 n4 bk4]; simpa using this)
  have HID := Lib.hid hid
  clear hid hA hB
  have T1 := Lib.hid (HA.out.1.keep (Kept.all BA.out R) (fun _ h _ => h))
  have T2 := Lib.hid (HB.out.1.keep (Kept.all BA.out R') (fun _ h _ => h))
  have hlt1 : n1 ≤ 1000000000000000 := by have := T1.out.big; omega
  go_enter Try.func11, Try.ntmps11
  have pa0 := PA.out.cell 0
  have pb0 := PB.out.cell 0
  have pa1 := PA.out.cell 1
  have pb1 := PB.out.cell 1
  have pa2 := PA.out.cell 2
  have pb2 := PB.out.cell 2
  have pa3 := PA.out.cell 3
  have pb3 := PB.out.cell 3
  have pa4 := PA.out.cell 4
  have pb4 := PB.out.cell 4
  have pa5 := PA.out.cell 5
  have pb5 := PB.out.cell 5
  have pa6 := PA.out.cell 6
  have pb6 := PB.out.cell 6
  go_wp2_with fail
  go_at_call 18
  refine (same_tgt T1.out T2.out).mono ?_
  rintro e w1 ⟨rfl, hb⟩
  have BA1 := Lib.hid (below_step BA.out hb)
  have PA1 := Lib.hid (PA.out.below hb PA.out.lt)
  have PB1 := Lib.hid (PB.out.below hb PB.out.lt)
  clear hb
  have T3 := Lib.hid (HA.out.2.2.2.keep (Kept.all BA1.out R) (fun _ h _ => h))
  have T4 := Lib.hid (HB.out.2.2.2.keep (Kept.all BA1.out R') (fun _ h _ => h))
  have pa10 := PA1.out.cell 0
  have pb10 := PB1.out.cell 0
  have pa11 := PA1.out.cell 1
  have pb11 := PB1.out.cell 1
  have pa12 := PA1.out.cell 2
  have pb12 := PB1.out.cell 2
  have pa13 := PA1.out.cell 3
  have pb13 := PB1.out.cell 3
  have pa14 := PA1.out.cell 4
  have pb14 := PB1.out.cell 4
  have pa15 := PA1.out.cell 5
  have pb15 := PB1.out.cell 5
  have pa16 := PA1.out.cell 6
  have pb16 := PB1.out.cell 6
  go_wp2_with fail
  go_at_call 19
  refine (same_dut T3.out T4.out).mono ?_
  rintro e w2 ⟨rfl, hb⟩
  have BA2 := Lib.hid (below_step BA1.out hb)
  have PA2 := Lib.hid (PA1.out.below hb PA1.out.lt)
  have PB2 := Lib.hid (PB1.out.below hb PB1.out.lt)
  clear hb BA1 PA1 PB1 BA PA PB T1 T2 T3 T4
  have hcap2 := Rw.cap HA.out.2.1
  have hcap3 := Rw.cap HA.out.2.2.1
  have hle2 := Rw.le HA.out.2.1
  have hle2' := Rw.le HB.out.2.1
  have hle3 := Rw.le HA.out.2.2.1
  have hle3' := Rw.le HB.out.2.2.1
  unfold maxLen at hcap2 hcap3
  have pa20 := PA2.out.cell 0
  have pb20 := PB2.out.cell 0
  have pa21 := PA2.out.cell 1
  have pb21 := PB2.out.cell 1
  have pa22 := PA2.out.cell 2
  have pb22 := PB2.out.cell 2
  have pa23 := PA2.out.cell 3
  have pb23 := PB2.out.cell 3
  have pa24 := PA2.out.cell 4
  have pb24 := PB2.out.cell 4
  have pa25 := PA2.out.cell 5
  have pb25 := PB2.out.cell 5
  have pa26 := PA2.out.cell 6
  have pb26 := PB2.out.cell 6
  go_wp2_with fail
  go_loopw [65] (fun i wr => ∃ k : Nat, k ≤ n2 ∧ i = .int .i64 k ∧ Below w2.heap.size w2 wr) (fun i _ => n2 - (intOf i).toNat)
  case atStart => exact ⟨0, Nat.zero_le _, rfl, Below.refl _ _⟩
  case round =>
    obtain ⟨k, hk, rfl, hb⟩ := hrel
    have HBR := Lib.hid hb
    have PA3 := Lib.hid (PA2.out.below hb PA2.out.lt)
    have PB3 := Lib.hid (PB2.out.below hb PB2.out.lt)
    have BA3 := Lib.hid (below_step BA2.out hb)
    clear hb
    by_cases hlt : k < n2
    · obtain ⟨b, o, r, C1, m1, c1, C2, m2, c2, C3, m3, c3, rfl, _, _, hr, hid, ⟨x0, x1, x2, x3, x4⟩, ht, hn, hd⟩ := (Rus.keep HA.out.2.1 (Kept.all BA3.out R) (fun _ h _ => h)).at_ hlt
      obtain ⟨b', o', r', D1, q1, d1, D2, q2, d2, D3, q3, d3, rfl, _, _, hr', _, ⟨y0, y1, y2, y3, y4⟩, ht', hn', hd'⟩ := (Rus.keep HB.out.2.1 (Kept.all BA3.out R') (fun _ h _ => h)).at_ hlt
      obtain rfl := Option.some.inj (hr.symm.trans hr')
      obtain rfl := Rw.same_len ht ht'
      obtain rfl := Rw.same_len hn hn'
      obtain rfl := Rw.same_len hd hd'
      have L1 := Lib.hid ht
      have L2 := Lib.hid hn
      have L3 := Lib.hid hd
      have L1' := Lib.hid ht'
      have L2' := Lib.hid hn'
      have L3' := Lib.hid hd'
      have z4 := PA3.out.cell 4
      have z4' := PB3.out.cell 4
      have KF : Hid (∀ V : World, Below wr.heap.size wr V → V.cell? ⟨w.heap.size, 4, none⟩ = some (.slice (some ⟨b, o, none⟩) n2 ak2) ∧ V.cell? ⟨w.heap.size + 1, 4, none⟩ = some (.slice (some ⟨b', o', none⟩) n2 bk2) ∧
          V.cell? ⟨b, o + k * 5, none⟩ = some (.string r.id) ∧ V.cell? ⟨b, o + k * 5 + 1, none⟩ = some (.bool r.deny) ∧ V.cell? ⟨b, o + k * 5 + 2, none⟩ = some (.slice C1 m1 c1) ∧ V.cell? ⟨b, o + k * 5 + 3, none⟩ = some (.slice C2 m2 c2) ∧ V.cell? ⟨b, o + k * 5 + 4, none⟩ = some (.slice C3 m3 c3) ∧
          V.cell? ⟨b', o' + k * 5, none⟩ = some (.string r.id) ∧ V.cell? ⟨b', o' + k * 5 + 1, none⟩ = some (.bool r.deny) ∧ V.cell? ⟨b', o' + k * 5 + 2, none⟩ = some (.slice D1 m1 d1) ∧ V.cell? ⟨b', o' + k * 5 + 3, none⟩ = some (.slice D2 m2 d2) ∧ V.cell? ⟨b', o' + k * 5 + 4, none⟩ = some (.slice D3 m3 d3)) := fun V hV => by
        have e : ∀ {a : Addr} {v : Value}, wr.cell? a = some v → V.cell? a = some v := fun h => (hV.cell (block_lt_of_cell h)).trans h
        exact ⟨e z4, e z4', e x0, e x1, e x2, e x3, e x4, e y0, e y1, e y2, e y3, e y4⟩
      clear hr hr' hid ht hn hd ht' hn' hd' z4 z4' x0 x1 x2 x3 x4 y0 y1 y2 y3 y4
      go_wp2_with fail
      go_cut [6, 7] from 68 to 77 (fun u v wx => ∃ g1 g2, u = .pointer (some ⟨g1, 0, none⟩) ∧ v = .pointer (some ⟨g2, 0, none⟩) ∧ Ob wx g1 40 #[.string r.id, .bool r.deny, .slice C1 m1 c1, .slice C2 m2 c2, .slice C3 m3 c3] ∧ Ob wx g2 40 #[.string r.id, .bool r.deny, .slice D1 m1 d1, .slice D2 m2 d2, .slice D3 m3 d3] ∧ Below wr.heap.size wr wx)
      case first =>
        refine wp_region_held_tail (fun w' => Below wr.heap.size wr w') 13 (by kernel_rfl) (by kernel_rfl) ?_
        intro G
        change HeadW _ _ _ _ _ _ _ _ _ _ (wr.drewN 1)
        have S0 := Lib.hid (below_drewN (Below.refl wr.heap.size wr) 1)
        have LB0 : wr.heap.size ≤ (wr.drewN 1).heap.size := Nat.le_refl _
        generalize wr.drewN 1 = v0 at *
        refine HeadW_take (i := 0) (v := ?_) G rfl (by kernel_rfl) (by kernel_rfl) (by kernel_rfl) (fun _ _ _ h => h) (Or.inl ⟨by rfl, ?_⟩) S0.out ?_
        rotate_left
        · intro wz hS
          obtain ⟨z4, z4', x0, x1, x2, x3, x4, y0, y1, y2, y3, y4⟩ := KF.out _ hS
          go_simp
          try with_reducible rfl
        refine HeadW_take (i := 1) (v := ?_) G rfl (by kernel_rfl) (by kernel_rfl) (by kernel_rfl) (fun _ _ _ h => h) (Or.inl ⟨by rfl, ?_⟩) S0.out ?_
        rotate_left
        · intro wz hS
          obtain ⟨z4, z4', x0, x1, x2, x3, x4, y0, y1, y2, y3, y4⟩ := KF.out _ hS
          go_simp
          try with_reducible rfl
        refine HeadW_take (i := 2) (v := ?_) G rfl (by kernel_rfl) (by kernel_rfl) (by kernel_rfl) (fun _ _ _ h => h) (Or.inl ⟨by rfl, ?_⟩) S0.out ?_
        rotate_left
        · intro wz hS
          obtain ⟨z4, z4', x0, x1, x2, x3, x4, y0, y1, y2, y3, y4⟩ := KF.out _ hS
          go_simp
          try with_reducible rfl
        refine HeadW_take (i := 3) (v := ?_) G rfl (by kernel_rfl) (by kernel_rfl) (by kernel_rfl) (fun _ _ _ h => h) (Or.inl ⟨by rfl, ?_⟩) S0.out ?_
        rotate_left
        · intro wz hS
          obtain ⟨z4, z4', x0, x1, x2, x3, x4, y0, y1, y2, y3, y4⟩ := KF.out _ hS
          go_simp
          try with_reducible rfl
        refine HeadW_take (i := 4) (v := ?_) G rfl (by kernel_rfl) (by kernel_rfl) (by kernel_rfl) (fun _ _ _ h => h) (Or.inl ⟨by rfl, ?_⟩) S0.out ?_
        rotate_left
        · intro wz hS
          obtain ⟨z4, z4', x0, x1, x2, x3, x4, y0, y1, y2, y3, y4⟩ := KF.out _ hS
          go_simp
          try with_reducible rfl
        refine HeadW_take (i := 5) (v := ?_) G rfl (by kernel_rfl) (by kernel_rfl) (by kernel_rfl) (fun _ _ _ h => h) (Or.inl ⟨by rfl, ?_⟩) S0.out ?_
        rotate_left
        · intro wz hS
          obtain ⟨z4, z4', x0, x1, x2, x3, x4, y0, y1, y2, y3, y4⟩ := KF.out _ hS
          go_simp
          try with_reducible rfl
        refine HeadW_take (i := 6) (v := ?_) G rfl (by kernel_rfl) (by kernel_rfl) (by kernel_rfl) (fun _ _ _ h => h) (Or.inl ⟨by rfl, ?_⟩) S0.out ?_
        rotate_left
        · intro wz hS
          obtain ⟨z4, z4', x0, x1, x2, x3, x4, y0, y1, y2, y3, y4⟩ := KF.out _ hS
          go_simp
          try with_reducible rfl
        refine HeadW_take (i := 7) (v := ?_) G rfl (by kernel_rfl) (by kernel_rfl) (by kernel_rfl) (fun _ _ _ h => h) (Or.inl ⟨by rfl, ?_⟩) S0.out ?_
        rotate_left
        · intro wz hS
          obtain ⟨z4, z4', x0, x1, x2, x3, x4, y0, y1, y2, y3, y4⟩ := KF.out _ hS
          go_simp
          try with_reducible rfl
        refine HeadW_take (i := 8) (v := ?_) G rfl (by kernel_rfl) (by kernel_rfl) (by kernel_rfl) (fun _ _ _ h => h) (Or.inl ⟨by rfl, ?_⟩) S0.out ?_
        rotate_left
        · intro wz hS
          obtain ⟨z4, z4', x0, x1, x2, x3, x4, y0, y1, y2, y3, y4⟩ := KF.out _ hS
          go_simp
          try with_reducible rfl
        refine HeadW_take (i := 9) (v := ?_) G rfl (by kernel_rfl) (by kernel_rfl) (by kernel_rfl) (fun _ _ _ h => h) (Or.inl ⟨by rfl, ?_⟩) S0.out ?_
        rotate_left
        · intro wz hS
          obtain ⟨z4, z4', x0, x1, x2, x3, x4, y0, y1, y2, y3, y4⟩ := KF.out _ hS
          go_simp
          try with_reducible rfl
        refine HeadW_ready (rs := [10, 11]) (by kernel_rfl) rfl rfl ?_
        refine AllW.cons rfl (fun K hK => ?_) (AllW.cons rfl (fun K hK => ?_) AllW.nil)
        · go_simp
          have hb : Below v0.heap.size v0 (v0.alloc (.cells #[.string ⟨#[]⟩, .bool false, .slice none 0 0, .slice none 0 0, .slice none 0 0] 40)) := (Below.refl _ _).alloc (Nat.le_refl _) _
          have S1 := Lib.hid (S0.out.trans (hb.mono LB0))
          have Ea := Lib.hid (Ob.made v0 40 #[.string ⟨#[]⟩, .bool false, .slice none 0 0, .slice none 0 0, .slice none 0 0])
          have Xa : v0.heap.size < (v0.alloc (.cells #[.string ⟨#[]⟩, .bool false, .slice none 0 0, .slice none 0 0, .slice none 0 0] 40)).heap.size := by rw [size_al]; omega
          refine hK _ _ S1.out ?_
          clear hK K hb
          generalize v0.alloc (.cells #[.string ⟨#[]⟩, .bool false, .slice none 0 0, .slice none 0 0, .slice none 0 0] 40) = v1 at *
          have LB1 : wr.heap.size ≤ v1.heap.size := by omega
          refine HeadW_ready (rs := [11]) (by kernel_rfl) rfl rfl ?_
          refine AllW.cons rfl (fun K hK => ?_) AllW.nil
          go_simp
          have hb : Below v1.heap.size v1 (v1.alloc (.cells #[.string ⟨#[]⟩, .bool false, .slice none 0 0, .slice none 0 0, .slice none 0 0] 40)) := (Below.refl _ _).alloc (Nat.le_refl _) _
          have S2 := Lib.hid (S1.out.trans (hb.mono LB1))
          have E1 := Lib.hid (Ea.out.below hb Ea.out.lt)
          have E2 := Lib.hid (Ob.made v1 40 #[.string ⟨#[]⟩, .bool false, .slice none 0 0, .slice none 0 0, .slice none 0 0])
          refine hK _ _ S2.out ?_
          clear hK K hb
          generalize v1.alloc (.cells #[.string ⟨#[]⟩, .bool false, .slice none 0 0, .slice none 0 0, .slice none 0 0] 40) = v2 at *
          have sc1 := E1.out.cell 0
          have sf1 := E1.out.frozen 0
          have me1 : Hid (Ob (v2.setCell ⟨v0.heap.size, 0, none⟩ (.string r.id)) (v0.heap.size) 40 #[.string r.id, .bool false, .slice none 0 0, .slice none 0 0, .slice none 0 0]) := Lib.hid (by have := E1.out.put 0 (.string r.id); simpa using this)
          have ot1 := Lib.hid (E2.out.keep (Below.heap_setCell v2 ⟨v0.heap.size, 0, none⟩ (.string r.id) _ (by show v1.heap.size ≠ v0.heap.size; omega)))
          have bb1 := Lib.hid (S2.out.setCell (p := ⟨v0.heap.size, 0, none⟩) (by show wr.heap.size ≤ v0.heap.size; omega) (.string r.id))
          have sc2 := me1.out.cell 1
          have sf2 := me1.out.frozen 1
          have me2 : Hid (Ob ((v2.setCell ⟨v0.heap.size, 0, none⟩ (.string r.id)).setCell ⟨v0.heap.size, 1, none⟩ (.bool r.deny)) (v0.heap.size) 40 #[.string r.id, .bool r.deny, .slice none 0 0, .slice none 0 0, .slice none 0 0]) := Lib.hid (by have := me1.out.put 1 (.bool r.deny); simpa using this)
          have ot2 := Lib.hid (ot1.out.keep (Below.heap_setCell (v2.setCell ⟨v0.heap.size, 0, none⟩ (.string r.id)) ⟨v0.heap.size, 1, none⟩ (.bool r.deny) _ (by show v1.heap.size ≠ v0.heap.size; omega)))
          have bb2 := Lib.hid (bb1.out.setCell (p := ⟨v0.heap.size, 1, none⟩) (by show wr.heap.size ≤ v0.heap.size; omega) (.bool r.deny))
          have sc3 := me2.out.cell 2
          have sf3 := me2.out.frozen 2
          have me3 : Hid (Ob (((v2.setCell ⟨v0.heap.size, 0, none⟩ (.string r.id)).setCell ⟨v0.heap.size, 1, none⟩ (.bool r.deny)).setCell ⟨v0.heap.size, 2, none⟩ (.slice C1 m1 c1)) (v0.heap.size) 40 #[.string r.id, .bool r.deny, .slice C1 m1 c1, .slice none 0 0, .slice none 0 0]) := Lib.hid (by have := me2.out.put 2 (.slice C1 m1 c1); simpa using this)
          have ot3 := Lib.hid (ot2.out.keep (Below.heap_setCell ((v2.setCell ⟨v0.heap.size, 0, none⟩ (.string r.id)).setCell ⟨v0.heap.size, 1, none⟩ (.bool r.deny)) ⟨v0.heap.size, 2, none⟩ (.slice C1 m1 c1) _ (by show v1.heap.size ≠ v0.heap.size; omega)))
          have bb3 := Lib.hid (bb2.out.setCell (p := ⟨v0.heap.size, 2, none⟩) (by show wr.heap.size ≤ v0.heap.size; omega) (.slice C1 m1 c1))
          have sc4 := me3.out.cell 3
          have sf4 := me3.out.frozen 3
          have me4 : Hid (Ob ((((v2.setCell ⟨v0.heap.size, 0, none⟩ (.string r.id)).setCell ⟨v0.heap.size, 1, none⟩ (.bool r.deny)).setCell ⟨v0.heap.size, 2, none⟩ (.slice C1 m1 c1)).setCell ⟨v0.heap.size, 3, none⟩ (.slice C2 m2 c2)) (v0.heap.size) 40 #[.string r.id, .bool r.deny, .slice C1 m1 c1, .slice C2 m2 c2, .slice none 0 0]) := Lib.hid (by have := me3.out.put 3 (.slice C2 m2 c2); simpa using this)
          have ot4 := Lib.hid (ot3.out.keep (Below.heap_setCell (((v2.setCell ⟨v0.heap.size, 0, none⟩ (.string r.id)).setCell ⟨v0.heap.size, 1, none⟩ (.bool r.deny)).setCell ⟨v0.heap.size, 2, none⟩ (.slice C1 m1 c1)) ⟨v0.heap.size, 3, none⟩ (.slice C2 m2 c2) _ (by show v1.heap.size ≠ v0.heap.size; omega)))
          have bb4 := Lib.hid (bb3.out.setCell (p := ⟨v0.heap.size, 3, none⟩) (by show wr.heap.size ≤ v0.heap.size; omega) (.slice C2 m2 c2))
          have sc5 := me4.out.cell 4
          have sf5 := me4.out.frozen 4
          have me5 : Hid (Ob (((((v2.setCell ⟨v0.heap.size, 0, none⟩ (.string r.id)).setCell ⟨v0.heap.size, 1, none⟩ (.bool r.deny)).setCell ⟨v0.heap.size, 2, none⟩ (.slice C1 m1 c1)).setCell ⟨v0.heap.size, 3, none⟩ (.slice C2 m2 c2)).setCell ⟨v0.heap.size, 4, none⟩ (.slice C3 m3 c3)) (v0.heap.size) 40 #[.string r.id, .bool r.deny, .slice C1 m1 c1, .slice C2 m2 c2, .slice C3 m3 c3]) := Lib.hid (by have := me4.out.put 4 (.slice C3 m3 c3); simpa using this)
          have ot5 := Lib.hid (ot4.out.keep (Below.heap_setCell ((((v2.setCell ⟨v0.heap.size, 0, none⟩ (.string r.id)).setCell ⟨v0.heap.size, 1, none⟩ (.bool r.deny)).setCell ⟨v0.heap.size, 2, none⟩ (.slice C1 m1 c1)).setCell ⟨v0.heap.size, 3, none⟩ (.slice C2 m2 c2)) ⟨v0.heap.size, 4, none⟩ (.slice C3 m3 c3) _ (by show v1.heap.size ≠ v0.heap.size; omega)))
          have bb5 := Lib.hid (bb4.out.setCell (p := ⟨v0.heap.size, 4, none⟩) (by show wr.heap.size ≤ v0.heap.size; omega) (.slice C3 m3 c3))
          refine HeadW_ready (rs := [12]) (by kernel_rfl) rfl rfl ?_
          refine AllW.cons rfl (fun K hK => ?_) AllW.nil
          go_simp
          refine hK _ _ bb5.out ?_
          clear hK K
          intro _
          refine ⟨by kernel_rfl, ?_⟩
          simp only [List.drop_succ_cons, List.drop_zero]
          have sc6 := ot5.out.cell 0
          have sf6 := ot5.out.frozen 0
          have me6 : Hid (Ob ((((((v2.setCell ⟨v0.heap.size, 0, none⟩ (.string r.id)).setCell ⟨v0.heap.size, 1, none⟩ (.bool r.deny)).setCell ⟨v0.heap.size, 2, none⟩ (.slice C1 m1 c1)).setCell ⟨v0.heap.size, 3, none⟩ (.slice C2 m2 c2)).setCell ⟨v0.heap.size, 4, none⟩ (.slice C3 m3 c3)).setCell ⟨v1.heap.size, 0, none⟩ (.string r.id)) (v1.heap.size) 40 #[.string r.id, .bool false, .slice none 0 0, .slice none 0 0, .slice none 0 0]) := Lib.hid (by have := ot5.out.put 0 (.string r.id); simpa using this)
          have ot6 := Lib.hid (me5.out.keep (Below.heap_setCell (((((v2.setCell ⟨v0.heap.size, 0, none⟩ (.string r.id)).setCell ⟨v0.heap.size, 1, none⟩ (.bool r.deny)).setCell ⟨v0.heap.size, 2, none⟩ (.slice C1 m1 c1)).setCell ⟨v0.heap.size, 3, none⟩ (.slice C2 m2 c2)).setCell ⟨v0.heap.size, 4, none⟩ (.slice C3 m3 c3)) ⟨v1.heap.size, 0, none⟩ (.string r.id) _ (by show v0.heap.size ≠ v1.heap.size; omega)))
          have bb6 := Lib.hid (bb5.out.setCell (p := ⟨v1.heap.size, 0, none⟩) (by show wr.heap.size ≤ v1.heap.size; omega) (.string r.id))
          have sc7 := me6.out.cell 1
          have sf7 := me6.out.frozen 1
          have me7 : Hid (Ob (((((((v2.setCell ⟨v0.heap.size, 0, none⟩ (.string r.id)).setCell ⟨v0.heap.size, 1, none⟩ (.bool r.deny)).setCell ⟨v0.heap.size, 2, none⟩ (.slice C1 m1 c1)).setCell ⟨v0.heap.size, 3, none⟩ (.slice C2 m2 c2)).setCell ⟨v0.heap.size, 4, none⟩ (.slice C3 m3 c3)).setCell ⟨v1.heap.size, 0, none⟩ (.string r.id)).setCell ⟨v1.heap.size, 1, none⟩ (.bool r.deny)) (v1.heap.size) 40 #[.string r.id, .bool r.deny, .slice none 0 0, .slice none 0 0, .slice none 0 0]) := Lib.hid (by have := me6.out.put 1 (.bool r.deny); simpa using this)
          have ot7 := Lib.hid (ot6.out.keep (Below.heap_setCell ((((((v2.setCell ⟨v0.heap.size, 0, none⟩ (.string r.id)).setCell ⟨v0.heap.size, 1, none⟩ (.bool r.deny)).setCell ⟨v0.heap.size, 2, none⟩ (.slice C1 m1 c1)).setCell ⟨v0.heap.size, 3, none⟩ (.slice C2 m2 c2)).setCell ⟨v0.heap.size, 4, none⟩ (.slice C3 m3 c3)).setCell ⟨v1.heap.size, 0, none⟩ (.string r.id)) ⟨v1.heap.size, 1, none⟩ (.bool r.deny) _ (by show v0.heap.size ≠ v1.heap.size; omega)))
          have bb7 := Lib.hid (bb6.out.setCell (p := ⟨v1.heap.size, 1, none⟩) (by show wr.heap.size ≤ v1.heap.size; omega) (.bool r.deny))
          have sc8 := me7.out.cell 2
          have sf8 := me7.out.frozen 2
          have me8 : Hid (Ob ((((((((v2.setCell ⟨v0.heap.size, 0, none⟩ (.string r.id)).setCell ⟨v0.heap.size, 1, none⟩ (.bool r.deny)).setCell ⟨v0.heap.size, 2, none⟩ (.slice C1 m1 c1)).setCell ⟨v0.heap.size, 3, none⟩ (.slice C2 m2 c2)).setCell ⟨v0.heap.size, 4, none⟩ (.slice C3 m3 c3)).setCell ⟨v1.heap.size, 0, none⟩ (.string r.id)).setCell ⟨v1.heap.size, 1, none⟩ (.bool r.deny)).setCell ⟨v1.heap.size, 2, none⟩ (.slice D1 m1 d1)) (v1.heap.size) 40 #[.string r.id, .bool r.deny, .slice D1 m1 d1, .slice none 0 0, .slice none 0 0]) := Lib.hid (by have := me7.out.put 2 (.slice D1 m1 d1); simpa using this)
          have ot8 := Lib.hid (ot7.out.keep (Below.heap_setCell (((((((v2.setCell ⟨v0.heap.size, 0, none⟩ (.string r.id)).setCell ⟨v0.heap.size, 1, none⟩ (.bool r.deny)).setCell ⟨v0.heap.size, 2, none⟩ (.slice C1 m1 c1)).setCell ⟨v0.heap.size, 3, none⟩ (.slice C2 m2 c2)).setCell ⟨v0.heap.size, 4, none⟩ (.slice C3 m3 c3)).setCell ⟨v1.heap.size, 0, none⟩ (.string r.id)).setCell ⟨v1.heap.size, 1, none⟩ (.bool r.deny)) ⟨v1.heap.size, 2, none⟩ (.slice D1 m1 d1) _ (by show v0.heap.size ≠ v1.heap.size; omega)))
          have bb8 := Lib.hid (bb7.out.setCell (p := ⟨v1.heap.size, 2, none⟩) (by show wr.heap.size ≤ v1.heap.size; omega) (.slice D1 m1 d1))
          have sc9 := me8.out.cell 3
          have sf9 := me8.out.frozen 3
          have me9 : Hid (Ob (((((((((v2.setCell ⟨v0.heap.size, 0, none⟩ (.string r.id)).setCell ⟨v0.heap.size, 1, none⟩ (.bool r.deny)).setCell ⟨v0.heap.size, 2, none⟩ (.slice C1 m1 c1)).setCell ⟨v0.heap.size, 3, none⟩ (.slice C2 m2 c2)).setCell ⟨v0.heap.size, 4, none⟩ (.slice C3 m3 c3)).setCell ⟨v1.heap.size, 0, none⟩ (.string r.id)).setCell ⟨v1.heap.size, 1, none⟩ (.bool r.deny)).setCell ⟨v1.heap.size, 2, none⟩ (.slice D1 m1 d1)).setCell ⟨v1.heap.size, 3, none⟩ (.slice D2 m2 d2)) (v1.heap.size) 40 #[.string r.id, .bool r.deny, .slice D1 m1 d1, .slice D2 m2 d2, .slice none 0 0]) := Lib.hid (by have := me8.out.put 3 (.slice D2 m2 d2); simpa using this)
          have ot9 := Lib.hid (ot8.out.keep (Below.heap_setCell ((((((((v2.setCell ⟨v0.heap.size, 0, none⟩ (.string r.id)).setCell ⟨v0.heap.size, 1, none⟩ (.bool r.deny)).setCell ⟨v0.heap.size, 2, none⟩ (.slice C1 m1 c1)).setCell ⟨v0.heap.size, 3, none⟩ (.slice C2 m2 c2)).setCell ⟨v0.heap.size, 4, none⟩ (.slice C3 m3 c3)).setCell ⟨v1.heap.size, 0, none⟩ (.string r.id)).setCell ⟨v1.heap.size, 1, none⟩ (.bool r.deny)).setCell ⟨v1.heap.size, 2, none⟩ (.slice D1 m1 d1)) ⟨v1.heap.size, 3, none⟩ (.slice D2 m2 d2) _ (by show v0.heap.size ≠ v1.heap.size; omega)))
          have bb9 := Lib.hid (bb8.out.setCell (p := ⟨v1.heap.size, 3, none⟩) (by show wr.heap.size ≤ v1.heap.size; omega) (.slice D2 m2 d2))
          have sc10 := me9.out.cell 4
          have sf10 := me9.out.frozen 4
          have me10 : Hid (Ob ((((((((((v2.setCell ⟨v0.heap.size, 0, none⟩ (.string r.id)).setCell ⟨v0.heap.size, 1, none⟩ (.bool r.deny)).setCell ⟨v0.heap.size, 2, none⟩ (.slice C1 m1 c1)).setCell ⟨v0.heap.size, 3, none⟩ (.slice C2 m2 c2)).setCell ⟨v0.heap.size, 4, none⟩ (.slice C3 m3 c3)).setCell ⟨v1.heap.size, 0, none⟩ (.string r.id)).setCell ⟨v1.heap.size, 1, none⟩ (.bool r.deny)).setCell ⟨v1.heap.size, 2, none⟩ (.slice D1 m1 d1)).setCell ⟨v1.heap.size, 3, none⟩ (.slice D2 m2 d2)).setCell ⟨v1.heap.size, 4, none⟩ (.slice D3 m3 d3)) (v1.heap.size) 40 #[.string r.id, .bool r.deny, .slice D1 m1 d1, .slice D2 m2 d2, .slice D3 m3 d3]) := Lib.hid (by have := me9.out.put 4 (.slice D3 m3 d3); simpa using this)
          have ot10 := Lib.hid (ot9.out.keep (Below.heap_setCell (((((((((v2.setCell ⟨v0.heap.size, 0, none⟩ (.string r.id)).setCell ⟨v0.heap.size, 1, none⟩ (.bool r.deny)).setCell ⟨v0.heap.size, 2, none⟩ (.slice C1 m1 c1)).setCell ⟨v0.heap.size, 3, none⟩ (.slice C2 m2 c2)).setCell ⟨v0.heap.size, 4, none⟩ (.slice C3 m3 c3)).setCell ⟨v1.heap.size, 0, none⟩ (.string r.id)).setCell ⟨v1.heap.size, 1, none⟩ (.bool r.deny)).setCell ⟨v1.heap.size, 2, none⟩ (.slice D1 m1 d1)).setCell ⟨v1.heap.size, 3, none⟩ (.slice D2 m2 d2)) ⟨v1.heap.size, 4, none⟩ (.slice D3 m3 d3) _ (by show v0.heap.size ≠ v1.heap.size; omega)))
          have bb10 := Lib.hid (bb9.out.setCell (p := ⟨v1.heap.size, 4, none⟩) (by show wr.heap.size ≤ v1.heap.size; omega) (.slice D3 m3 d3))
          go_wp2_with fail
          go_meet
          case rel => exact ⟨_, _, rfl, rfl, ot10.out, me10.out, bb10.out⟩
        · go_simp
          have hb : Below v0.heap.size v0 (v0.alloc (.cells #[.string ⟨#[]⟩, .bool false, .slice none 0 0, .slice none 0 0, .slice none 0 0] 40)) := (Below.refl _ _).alloc (Nat.le_refl _) _
          have S1 := Lib.hid (S0.out.trans (hb.mono LB0))
          have Ea := Lib.hid (Ob.made v0 40 #[.string ⟨#[]⟩, .bool false, .slice none 0 0, .slice none 0 0, .slice none 0 0])
          have Xa : v0.heap.size < (v0.alloc (.cells #[.string ⟨#[]⟩, .bool false, .slice none 0 0, .slice none 0 0, .slice none 0 0] 40)).heap.size := by rw [size_al]; omega
          refine hK _ _ S1.out ?_
          clear hK K hb
          generalize v0.alloc (.cells #[.string ⟨#[]⟩, .bool false, .slice none 0 0, .slice none 0 0, .slice none 0 0] 40) = v1 at *
          have LB1 : wr.heap.size ≤ v1.heap.size := by omega
          refine HeadW_ready (rs := [10]) (by kernel_rfl) rfl rfl ?_
          refine AllW.cons rfl (fun K hK => ?_) AllW.nil
          go_simp
          have hb : Below v1.heap.size v1 (v1.alloc (.cells #[.string ⟨#[]⟩, .bool false, .slice none 0 0, .slice none 0 0, .slice none 0 0] 40)) := (Below.refl _ _).alloc (Nat.le_refl _) _
          have S2 := Lib.hid (S1.out.trans (hb.mono LB1))
          have E2 := Lib.hid (Ea.out.below hb Ea.out.lt)
          have E1 := Lib.hid (Ob.made v1 40 #[.string ⟨#[]⟩, .bool false, .slice none 0 0, .slice none 0 0, .slice none 0 0])
          refine hK _ _ S2.out ?_
          clear hK K hb
          generalize v1.alloc (.cells #[.string ⟨#[]⟩, .bool false, .slice none 0 0, .slice none 0 0, .slice none 0 0] 40) = v2 at *
          have sc1 := E1.out.cell 0
          have sf1 := E1.out.frozen 0
          have me1 : Hid (Ob (v2.setCell ⟨v1.heap.size, 0, none⟩ (.string r.id)) (v1.heap.size) 40 #[.string r.id, .bool false, .slice none 0 0, .slice none 0 0, .slice none 0 0]) := Lib.hid (by have := E1.out.put 0 (.string r.id); simpa using this)
          have ot1 := Lib.hid (E2.out.keep (Below.heap_setCell v2 ⟨v1.heap.size, 0, none⟩ (.string r.id) _ (by show v0.heap.size ≠ v1.heap.size; omega)))
          have bb1 := Lib.hid (S2.out.setCell (p := ⟨v1.heap.size, 0, none⟩) (by show wr.heap.size ≤ v1.heap.size; omega) (.string r.id))
          have sc2 := me1.out.cell 1
          have sf2 := me1.out.frozen 1
          have me2 : Hid (Ob ((v2.setCell ⟨v1.heap.size, 0, none⟩ (.string r.id)).setCell ⟨v1.heap.size, 1, none⟩ (.bool r.deny)) (v1.heap.size) 40 #[.string r.id, .bool r.deny, .slice none 0 0, .slice none 0 0, .slice none 0 0]) := Lib.hid (by have := me1.out.put 1 (.bool r.deny); simpa using this)
          have ot2 := Lib.hid (ot1.out.keep (Below.heap_setCell (v2.setCell ⟨v1.heap.size, 0, none⟩ (.string r.id)) ⟨v1.heap.size, 1, none⟩ (.bool r.deny) _ (by show v0.heap.size ≠ v1.heap.size; omega)))
          have bb2 := Lib.hid (bb1.out.setCell (p := ⟨v1.heap.size, 1, none⟩) (by show wr.heap.size ≤ v1.heap.size; omega) (.bool r.deny))
          have sc3 := me2.out.cell 2
          have sf3 := me2.out.frozen 2
          have me3 : Hid (Ob (((v2.setCell ⟨v1.heap.size, 0, none⟩ (.string r.id)).setCell ⟨v1.heap.size, 1, none⟩ (.bool r.deny)).setCell ⟨v1.heap.size, 2, none⟩ (.slice C1 m1 c1)) (v1.heap.size) 40 #[.string r.id, .bool r.deny, .slice C1 m1 c1, .slice none 0 0, .slice none 0 0]) := Lib.hid (by have := me2.out.put 2 (.slice C1 m1 c1); simpa using this)
          have ot3 := Lib.hid (ot2.out.keep (Below.heap_setCell ((v2.setCell ⟨v1.heap.size, 0, none⟩ (.string r.id)).setCell ⟨v1.heap.size, 1, none⟩ (.bool r.deny)) ⟨v1.heap.size, 2, none⟩ (.slice C1 m1 c1) _ (by show v0.heap.size ≠ v1.heap.size; omega)))
          have bb3 := Lib.hid (bb2.out.setCell (p := ⟨v1.heap.size, 2, none⟩) (by show wr.heap.size ≤ v1.heap.size; omega) (.slice C1 m1 c1))
          have sc4 := me3.out.cell 3
          have sf4 := me3.out.frozen 3
          have me4 : Hid (Ob ((((v2.setCell ⟨v1.heap.size, 0, none⟩ (.string r.id)).setCell ⟨v1.heap.size, 1, none⟩ (.bool r.deny)).setCell ⟨v1.heap.size, 2, none⟩ (.slice C1 m1 c1)).setCell ⟨v1.heap.size, 3, none⟩ (.slice C2 m2 c2)) (v1.heap.size) 40 #[.string r.id, .bool r.deny, .slice C1 m1 c1, .slice C2 m2 c2, .slice none 0 0]) := Lib.hid (by have := me3.out.put 3 (.slice C2 m2 c2); simpa using this)
          have ot4 := Lib.hid (ot3.out.keep (Below.heap_setCell (((v2.setCell ⟨v1.heap.size, 0, none⟩ (.string r.id)).setCell ⟨v1.heap.size, 1, none⟩ (.bool r.deny)).setCell ⟨v1.heap.size, 2, none⟩ (.slice C1 m1 c1)) ⟨v1.heap.size, 3, none⟩ (.slice C2 m2 c2) _ (by show v0.heap.size ≠ v1.heap.size; omega)))
          have bb4 := Lib.hid (bb3.out.setCell (p := ⟨v1.heap.size, 3, none⟩) (by show wr.heap.size ≤ v1.heap.size; omega) (.slice C2 m2 c2))
          have sc5 := me4.out.cell 4
          have sf5 := me4.out.frozen 4
          have me5 : Hid (Ob (((((v2.setCell ⟨v1.heap.size, 0, none⟩ (.string r.id)).setCell ⟨v1.heap.size, 1, none⟩ (.bool r.deny)).setCell ⟨v1.heap.size, 2, none⟩ (.slice C1 m1 c1)).setCell ⟨v1.heap.size, 3, none⟩ (.slice C2 m2 c2)).setCell ⟨v1.heap.size, 4, none⟩ (.slice C3 m3 c3)) (v1.heap.size) 40 #[.string r.id, .bool r.deny, .slice C1 m1 c1, .slice C2 m2 c2, .slice C3 m3 c3]) := Lib.hid (by have := me4.out.put 4 (.slice C3 m3 c3); simpa using this)
          have ot5 := Lib.hid (ot4.out.keep (Below.heap_setCell ((((v2.setCell ⟨v1.heap.size, 0, none⟩ (.string r.id)).setCell ⟨v1.heap.size, 1, none⟩ (.bool r.deny)).setCell ⟨v1.heap.size, 2, none⟩ (.slice C1 m1 c1)).setCell ⟨v1.heap.size, 3, none⟩ (.slice C2 m2 c2)) ⟨v1.heap.size, 4, none⟩ (.slice C3 m3 c3) _ (by show v0.heap.size ≠ v1.heap.size; omega)))
          have bb5 := Lib.hid (bb4.out.setCell (p := ⟨v1.heap.size, 4, none⟩) (by show wr.heap.size ≤ v1.heap.size; omega) (.slice C3 m3 c3))
          refine HeadW_ready (rs := [12]) (by kernel_rfl) rfl rfl ?_
          refine AllW.cons rfl (fun K hK => ?_) AllW.nil
          go_simp
          refine hK _ _ bb5.out ?_
          clear hK K
          intro _
          refine ⟨by kernel_rfl, ?_⟩
          simp only [List.drop_succ_cons, List.drop_zero]
          have sc6 := ot5.out.cell 0
          have sf6 := ot5.out.frozen 0
          have me6 : Hid (Ob ((((((v2.setCell ⟨v1.heap.size, 0, none⟩ (.string r.id)).setCell ⟨v1.heap.size, 1, none⟩ (.bool r.deny)).setCell ⟨v1.heap.size, 2, none⟩ (.slice C1 m1 c1)).setCell ⟨v1.heap.size, 3, none⟩ (.slice C2 m2 c2)).setCell ⟨v1.heap.size, 4, none⟩ (.slice C3 m3 c3)).setCell ⟨v0.heap.size, 0, none⟩ (.string r.id)) (v0.heap.size) 40 #[.string r.id, .bool false, .slice none 0 0, .slice none 0 0, .slice none 0 0]) := Lib.hid (by have := ot5.out.put 0 (.string r.id); simpa using this)
          have ot6 := Lib.hid (me5.out.keep (Below.heap_setCell (((((v2.setCell ⟨v1.heap.size, 0, none⟩ (.string r.id)).setCell ⟨v1.heap.size, 1, none⟩ (.bool r.deny)).setCell ⟨v1.heap.size, 2, none⟩ (.slice C1 m1 c1)).setCell ⟨v1.heap.size, 3, none⟩ (.slice C2 m2 c2)).setCell ⟨v1.heap.size, 4, none⟩ (.slice C3 m3 c3)) ⟨v0.heap.size, 0, none⟩ (.string r.id) _ (by show v1.heap.size ≠ v0.heap.size; omega)))
          have bb6 := Lib.hid (bb5.out.setCell (p := ⟨v0.heap.size, 0, none⟩) (by show wr.heap.size ≤ v0.heap.size; omega) (.string r.id))
          have sc7 := me6.out.cell 1
          have sf7 := me6.out.frozen 1
          have me7 : Hid (Ob (((((((v2.setCell ⟨v1.heap.size, 0, none⟩ (.string r.id)).setCell ⟨v1.heap.size, 1, none⟩ (.bool r.deny)).setCell ⟨v1.heap.size, 2, none⟩ (.slice C1 m1 c1)).setCell ⟨v1.heap.size, 3, none⟩ (.slice C2 m2 c2)).setCell ⟨v1.heap.size, 4, none⟩ (.slice C3 m3 c3)).setCell ⟨v0.heap.size, 0, none⟩ (.string r.id)).setCell ⟨v0.heap.size, 1, none⟩ (.bool r.deny)) (v0.heap.size) 40 #[.string r.id, .bool r.deny, .slice none 0 0, .slice none 0 0, .slice none 0 0]) := Lib.hid (by have := me6.out.put 1 (.bool r.deny); simpa using this)
          have ot7 := Lib.hid (ot6.out.keep (Below.heap_setCell ((((((v2.setCell ⟨v1.heap.size, 0, none⟩ (.string r.id)).setCell ⟨v1.heap.size, 1, none⟩ (.bool r.deny)).setCell ⟨v1.heap.size, 2, none⟩ (.slice C1 m1 c1)).setCell ⟨v1.heap.size, 3, none⟩ (.slice C2 m2 c2)).setCell ⟨v1.heap.size, 4, none⟩ (.slice C3 m3 c3)).setCell ⟨v0.heap.size, 0, none⟩ (.string r.id)) ⟨v0.heap.size, 1, none⟩ (.bool r.deny) _ (by show v1.heap.size ≠ v0.heap.size; omega)))
          have bb7 := Lib.hid (bb6.out.setCell (p := ⟨v0.heap.size, 1, none⟩) (by show wr.heap.size ≤ v0.heap.size; omega) (.bool r.deny))
          have sc8 := me7.out.cell 2
          have sf8 := me7.out.frozen 2
          have me8 : Hid (Ob ((((((((v2.setCell ⟨v1.heap.size, 0, none⟩ (.string r.id)).setCell ⟨v1.heap.size, 1, none⟩ (.bool r.deny)).setCell ⟨v1.heap.size, 2, none⟩ (.slice C1 m1 c1)).setCell ⟨v1.heap.size, 3, none⟩ (.slice C2 m2 c2)).setCell ⟨v1.heap.size, 4, none⟩ (.slice C3 m3 c3)).setCell ⟨v0.heap.size, 0, none⟩ (.string r.id)).setCell ⟨v0.heap.size, 1, none⟩ (.bool r.deny)).setCell ⟨v0.heap.size, 2, none⟩ (.slice D1 m1 d1)) (v0.heap.size) 40 #[.string r.id, .bool r.deny, .slice D1 m1 d1, .slice none 0 0, .slice none 0 0]) := Lib.hid (by have := me7.out.put 2 (.slice D1 m1 d1); simpa using this)
          have ot8 := Lib.hid (ot7.out.keep (Below.heap_setCell (((((((v2.setCell ⟨v1.heap.size, 0, none⟩ (.string r.id)).setCell ⟨v1.heap.size, 1, none⟩ (.bool r.deny)).setCell ⟨v1.heap.size, 2, none⟩ (.slice C1 m1 c1)).setCell ⟨v1.heap.size, 3, none⟩ (.slice C2 m2 c2)).setCell ⟨v1.heap.size, 4, none⟩ (.slice C3 m3 c3)).setCell ⟨v0.heap.size, 0, none⟩ (.string r.id)).setCell ⟨v0.heap.size, 1, none⟩ (.bool r.deny)) ⟨v0.heap.size, 2, none⟩ (.slice D1 m1 d1) _ (by show v1.heap.size ≠ v0.heap.size; omega)))
          have bb8 := Lib.hid (bb7.out.setCell (p := ⟨v0.heap.size, 2, none⟩) (by show wr.heap.size ≤ v0.heap.size; omega) (.slice D1 m1 d1))
          have sc9 := me8.out.cell 3
          have sf9 := me8.out.frozen 3
          have me9 : Hid (Ob (((((((((v2.setCell ⟨v1.heap.size, 0, none⟩ (.string r.id)).setCell ⟨v1.heap.size, 1, none⟩ (.bool r.deny)).setCell ⟨v1.heap.size, 2, none⟩ (.slice C1 m1 c1)).setCell ⟨v1.heap.size, 3, none⟩ (.slice C2 m2 c2)).setCell ⟨v1.heap.size, 4, none⟩ (.slice C3 m3 c3)).setCell ⟨v0.heap.size, 0, none⟩ (.string r.id)).setCell ⟨v0.heap.size, 1, none⟩ (.bool r.deny)).setCell ⟨v0.heap.size, 2, none⟩ (.slice D1 m1 d1)).setCell ⟨v0.heap.size, 3, none⟩ (.slice D2 m2 d2)) (v0.heap.size) 40 #[.string r.id, .bool r.deny, .slice D1 m1 d1, .slice D2 m2 d2, .slice none 0 0]) := Lib.hid (by have := me8.out.put 3 (.slice D2 m2 d2); simpa using this)
          have ot9 := Lib.hid (ot8.out.keep (Below.heap_setCell ((((((((v2.setCell ⟨v1.heap.size, 0, none⟩ (.string r.id)).setCell ⟨v1.heap.size, 1, none⟩ (.bool r.deny)).setCell ⟨v1.heap.size, 2, none⟩ (.slice C1 m1 c1)).setCell ⟨v1.heap.size, 3, none⟩ (.slice C2 m2 c2)).setCell ⟨v1.heap.size, 4, none⟩ (.slice C3 m3 c3)).setCell ⟨v0.heap.size, 0, none⟩ (.string r.id)).setCell ⟨v0.heap.size, 1, none⟩ (.bool r.deny)).setCell ⟨v0.heap.size, 2, none⟩ (.slice D1 m1 d1)) ⟨v0.heap.size, 3, none⟩ (.slice D2 m2 d2) _ (by show v1.heap.size ≠ v0.heap.size; omega)))
          have bb9 := Lib.hid (bb8.out.setCell (p := ⟨v0.heap.size, 3, none⟩) (by show wr.heap.size ≤ v0.heap.size; omega) (.slice D2 m2 d2))
          have sc10 := me9.out.cell 4
          have sf10 := me9.out.frozen 4
          have me10 : Hid (Ob ((((((((((v2.setCell ⟨v1.heap.size, 0, none⟩ (.string r.id)).setCell ⟨v1.heap.size, 1, none⟩ (.bool r.deny)).setCell ⟨v1.heap.size, 2, none⟩ (.slice C1 m1 c1)).setCell ⟨v1.heap.size, 3, none⟩ (.slice C2 m2 c2)).setCell ⟨v1.heap.size, 4, none⟩ (.slice C3 m3 c3)).setCell ⟨v0.heap.size, 0, none⟩ (.string r.id)).setCell ⟨v0.heap.size, 1, none⟩ (.bool r.deny)).setCell ⟨v0.heap.size, 2, none⟩ (.slice D1 m1 d1)).setCell ⟨v0.heap.size, 3, none⟩ (.slice D2 m2 d2)).setCell ⟨v0.heap.size, 4, none⟩ (.slice D3 m3 d3)) (v0.heap.size) 40 #[.string r.id, .bool r.deny, .slice D1 m1 d1, .slice D2 m2 d2, .slice D3 m3 d3]) := Lib.hid (by have := me9.out.put 4 (.slice D3 m3 d3); simpa using this)
          have ot10 := Lib.hid (ot9.out.keep (Below.heap_setCell (((((((((v2.setCell ⟨v1.heap.size, 0, none⟩ (.string r.id)).setCell ⟨v1.heap.size, 1, none⟩ (.bool r.deny)).setCell ⟨v1.heap.size, 2, none⟩ (.slice C1 m1 c1)).setCell ⟨v1.heap.size, 3, none⟩ (.slice C2 m2 c2)).setCell ⟨v1.heap.size, 4, none⟩ (.slice C3 m3 c3)).setCell ⟨v0.heap.size, 0, none⟩ (.string r.id)).setCell ⟨v0.heap.size, 1, none⟩ (.bool r.deny)).setCell ⟨v0.heap.size, 2, none⟩ (.slice D1 m1 d1)).setCell ⟨v0.heap.size, 3, none⟩ (.slice D2 m2 d2)) ⟨v0.heap.size, 4, none⟩ (.slice D3 m3 d3) _ (by show v1.heap.size ≠ v0.heap.size; omega)))
          have bb10 := Lib.hid (bb9.out.setCell (p := ⟨v0.heap.size, 4, none⟩) (by show wr.heap.size ≤ v0.heap.size; omega) (.slice D3 m3 d3))
          go_wp2_with fail
          go_meet
          case rel => exact ⟨_, _, rfl, rfl, ot10.out, me10.out, bb10.out⟩
      case rest =>
        obtain ⟨g1, g2, rfl, rfl, o1, o2, hb⟩ := hcut
        have BA4 := Lib.hid (below_step BA3.out hb)
        have HB4 := Lib.hid (below_step HBR.out hb)
        have M1 := Lib.hid (L1.out.keep (Kept.all hb R) (fun _ h _ => h))
        have M1' := Lib.hid (L1'.out.keep (Kept.all hb R') (fun _ h _ => h))
        have M2 := Lib.hid (L2.out.keep (Kept.all hb R) (fun _ h _ => h))
        have M2' := Lib.hid (L2'.out.keep (Kept.all hb R') (fun _ h _ => h))
        have M3 := Lib.hid (L3.out.keep (Kept.all hb R) (fun _ h _ => h))
        have M3' := Lib.hid (L3'.out.keep (Kept.all hb R') (fun _ h _ => h))
        have P1 := Lib.hid o1
        have P2 := Lib.hid o2
        clear hb o1 o2 L1 L2 L3 L1' L2' L3' KF BA3 HBR
        have ra00 := P1.out.cell 0
        have rb00 := P2.out.cell 0
        have ra01 := P1.out.cell 1
        have rb01 := P2.out.cell 1
        have ra02 := P1.out.cell 2
        have rb02 := P2.out.cell 2
        have ra03 := P1.out.cell 3
        have rb03 := P2.out.cell 3
        have ra04 := P1.out.cell 4
        have rb04 := P2.out.cell 4
        go_wp2_with fail
        go_at_call 18
        refine (same_tgt M1.out M1'.out).mono ?_
        rintro e u1 ⟨rfl, hb⟩
        have BA5 := Lib.hid (below_step BA4.out hb)
        have HB5 := Lib.hid (below_step HB4.out hb)
        have N2 := Lib.hid (M2.out.keep (Kept.all hb R) (fun _ h _ => h))
        have N2' := Lib.hid (M2'.out.keep (Kept.all hb R') (fun _ h _ => h))
        have N3 := Lib.hid (M3.out.keep (Kept.all hb R) (fun _ h _ => h))
        have N3' := Lib.hid (M3'.out.keep (Kept.all hb R') (fun _ h _ => h))
        have P3 := Lib.hid (P1.out.below hb P1.out.lt)
        have P4 := Lib.hid (P2.out.below hb P2.out.lt)
        clear hb M1 M1' M2 M2' M3 M3' P1 P2 BA4 HB4
        have ra10 := P3.out.cell 0
        have rb10 := P4.out.cell 0
        have ra11 := P3.out.cell 1
        have rb11 := P4.out.cell 1
        have ra12 := P3.out.cell 2
        have rb12 := P4.out.cell 2
        have ra13 := P3.out.cell 3
        have rb13 := P4.out.cell 3
        have ra14 := P3.out.cell 4
        have rb14 := P4.out.cell 4
        go_wp2_with fail
        go_at_call 20
        refine (same_nod N2.out N2'.out).mono ?_
        rintro e u2 ⟨rfl, hb⟩
        have BA6 := Lib.hid (below_step BA5.out hb)
        have HB6 := Lib.hid (below_step HB5.out hb)
        have K3 := Lib.hid (N3.out.keep (Kept.all hb R) (fun _ h _ => h))
        have K3' := Lib.hid (N3'.out.keep (Kept.all hb R') (fun _ h _ => h))
        have P5 := Lib.hid (P3.out.below hb P3.out.lt)
        have P6 := Lib.hid (P4.out.below hb P4.out.lt)
        clear hb N2 N2' N3 N3' P3 P4 BA5 HB5
        have ra20 := P5.out.cell 0
        have rb20 := P6.out.cell 0
        have ra21 := P5.out.cell 1
        have rb21 := P6.out.cell 1
        have ra22 := P5.out.cell 2
        have rb22 := P6.out.cell 2
        have ra23 := P5.out.cell 3
        have rb23 := P6.out.cell 3
        have ra24 := P5.out.cell 4
        have rb24 := P6.out.cell 4
        go_wp2_with fail
        go_at_call 19
        refine (same_dut K3.out K3'.out).mono ?_
        rintro e u3 ⟨rfl, hb⟩
        have HB7 := Lib.hid (below_step HB6.out hb)
        clear hb K3 K3' P5 P6 BA6 HB6
        go_wp2_with fail
        go_roundw
        case rel => exact ⟨k + 1, by omega, by go_num, HB7.out⟩
        case measure => simp [intOf]; omega
    · obtain rfl : k = n2 := by omega
      have z5 := PA3.out.cell 5
      have z5' := PB3.out.cell 5
      have HSW : Hid (w.heap.size + 1 < wr.heap.size) := PB3.out.lt
      go_wp2_with fail
      obtain ⟨wo, hwo⟩ : ∃ wo, wo = wr := ⟨wr, rfl⟩
      subst hwo
      go_loopw [118] (fun i wq => ∃ j : Nat, j ≤ n3 ∧ i = .int .i64 j ∧ Below wo.heap.size wo wq) (fun i _ => n3 - (intOf i).toNat)
      case atStart => exact ⟨0, Nat.zero_le _, rfl, Below.refl _ _⟩
      case round =>
        obtain ⟨j, hj, rfl, hb⟩ := hrel
        have BA4 := Lib.hid (below_step BA3.out hb)
        have HBJ := Lib.hid hb
        have PA4 := Lib.hid (PA3.out.below hb PA3.out.lt)
        have PB4 := Lib.hid (PB3.out.below hb PB3.out.lt)
        clear hb
        by_cases hlt : j < n3
        · obtain ⟨b, o, q, e, C1, m1, c1, C2, m2, c2, C3, m3, c3, C4, m4, c4, rfl, _, _, hq, hd, ⟨hid, halg⟩, ⟨x0, x1, x2, x3, x4, x5, x6⟩, ht, hn, hp, hdu⟩ := (Pls.keep HA.out.2.2.1 (Kept.all BA4.out R) (fun _ h _ => h)).at_ hlt
          obtain ⟨b', o', q', e', D1, q1, d1, D2, q2, d2, D3, q3, d3, D4, q4, d4, rfl, _, _, hq', hd', _, ⟨y0, y1, y2, y3, y4, y5, y6⟩, ht', hn', hp', hdu'⟩ := (Pls.keep HB.out.2.2.1 (Kept.all BA4.out R') (fun _ h _ => h)).at_ hlt
          obtain rfl := Option.some.inj (hq.symm.trans hq')
          obtain rfl := Rw.same_len ht ht'
          obtain rfl := Rw.same_len hn hn'
          obtain rfl := Rw.same_len hp hp'
          obtain rfl := Rw.same_len hdu hdu'
          have Q1 : Hid (∀ d os, Calls Try.prog 11 #[.agg #[.string q.id, .bool q.set, .int .i64 q.alg, .slice C1 m1 c1, .slice C2 m2 c2, .slice C3 m3 c3, .slice C4 m4 c4], .agg #[.string q.id, .bool q.set, .int .i64 q.alg, .slice D1 m1 d1, .slice D2 m2 d2, .slice D3 m3 d3, .slice D4 m4 d4]] (grow (redrawn wr d) os) fun e w'' => e = .returned (.bool true) ∧ ∃ p : Regrown, w'' = grow (redrawn wr p.d) p.os) := by
            have h1 := Lib.hid ht; have h2 := Lib.hid hn; have h3 := Lib.hid hp; have h4 := Lib.hid hdu
            have k1 := Lib.hid ht'; have k2 := Lib.hid hn'; have k3 := Lib.hid hp'; have k4 := Lib.hid hdu'
            exact same_q (@ih e hd) hid ⟨h1.out, h2.out, h3.out, h4.out⟩ ⟨k1.out, k2.out, k3.out, k4.out⟩
          have z6 := PA4.out.cell 5
          have z6' := PB4.out.cell 5
          have v6 := fun d os => cell_regrown z6 d os
          have v6' := fun d os => cell_regrown z6' d os
          have xx0 := fun d os => cell_regrown x0 d os
          have yy0 := fun d os => cell_regrown y0 d os
          have xx1 := fun d os => cell_regrown x1 d os
          have yy1 := fun d os => cell_regrown y1 d os
          have xx2 := fun d os => cell_regrown x2 d os
          have yy2 := fun d os => cell_regrown y2 d os
          have xx3 := fun d os => cell_regrown x3 d os
          have yy3 := fun d os => cell_regrown y3 d os
          have xx4 := fun d os => cell_regrown x4 d os
          have yy4 := fun d os => cell_regrown y4 d os
          have xx5 := fun d os => cell_regrown x5 d os
          have yy5 := fun d os => cell_regrown y5 d os
          have xx6 := fun d os => cell_regrown x6 d os
          have yy6 := fun d os => cell_regrown y6 d os
          clear hq hq' hd hd' hid halg ht hn hp hdu ht' hn' hp' hdu' z5 z5' z6 z6' x0 x1 x2 x3 x4 x5 x6 y0 y1 y2 y3 y4 y5 y6
          go_wp2_with fail
          refine wp_region_quiet_below (by kernel_rfl) (by kernel_rfl) ?_
          repeat (go_big_quiet_step ((go_at_call 11; exact Q1.out _ _)))
          refine wpQuiet_nil ?_
          intro _ hw'
          obtain ⟨⟨dq, osq⟩, hw''⟩ := hw'
          subst hw''
          have BQ2 := Lib.hid (below_regrown wr dq osq)
          clear v6 v6' Q1 xx0 yy0 xx1 yy1 xx2 yy2 xx3 yy3 xx4 yy4 xx5 yy5 xx6 yy6
          generalize grow (redrawn wr dq) osq = w5 at *
          go_wp2_with fail
          go_roundw
          case rel => exact ⟨j + 1, by omega, by go_num, HBJ.out.trans (BQ2.out.mono HBJ.out.size)⟩
          case measure => simp [intOf]; omega
        · obtain rfl : j = n3 := by omega
          clear z5 z5'
          go_wp2_with fail
          go_ret
          exact ⟨rfl, BA4.out⟩
theorem same_all : ∀ d, PSame d
  | 0 => same_step 0 (fun d' e => by omega)
  | d + 1 => same_step (d + 1) (fun d' e => by obtain rfl : d = d' := by omega
                                               exact same_all d)
end
end Go.Proofs.Ythppdgiobflfpaa
