/- Several texts in one: Parse11. -/
import Derived.Test.YtmoglaknmlhpgaaGreatDoorOnlV
import Derived.Test.YtmoglaknmlhpgaaGreatDoorOnlW
import Derived.Test.YtmoglaknmlhpgaaGreatDoorOnlZ
import Derived.Test.YtmoglaknmlhpgaaGreatDoorOnlF
/- The parser: a policy from a text. -/
namespace Go.Proofs.YtmoglaknmlhpgaaGreatDoor
set_option linter.unusedVariables false
open Go.RowKit

theorem results_cell_tmp2 {fn : Func} {p u v : Tmp} {ty : TypeId} (h : fn.results = #[.cell p ty, .tmp u, .tmp v]) (tmps : Array Value) (P : Program) (w : World) :
  (results fn tmps).run P w =
   ((asAddr (tmps.getD p undef)).run P w).andThen fun a w₁ => ((loadVar ty a).run P w₁).andThen fun x w₂ => .ok (.tuple #[x, tmps.getD u undef, tmps.getD v undef]) w₂ := by
 simp only [results, h]
 simp [Sem.run_bind, Result.andThen]
theorem policy_ret3 {fn : Func} {t u1 u2 : Tmp} {tmps : Array Value} {w : World} {g : Nat} {cs : Array Value} {a b : Value} (h : fn.results = #[.cell t 28, .tmp u1, .tmp u2]) (hp : tmps.getD t undef = .pointer (some ⟨g, 0, none⟩)) (h1 : tmps.getD u1 undef = a) (h2 : tmps.getD u2 undef = b) (hg : Ob w g 28 cs) (h3 : cs.size = 7) :
  (results fn tmps).run Tryz.prog w = .ok (.tuple #[.agg cs, a, b]) w := by
 rw [results_cell_tmp2 h, hp, h1, h2]
 have hl := run_loadVar_row (P := Tryz.prog) w g 28 _ _ (0, 0) _ hg Tryz.underlying28 rfl (by rw [h3]; kernel_rfl)
 simp [asAddr, hl, Result.andThen]
theorem noPol_of (w w' : World) : PolOf w w' 5 noPol (.agg #[.string ⟨#[]⟩, .bool false, .int .i64 0, .slice none 0 0, .slice none 0 0, .slice none 0 0, .slice none 0 0]) :=
 ⟨none, 0, 0, none, 0, 0, none, 0, 0, none, 0, 0, rfl, none, 0, 0, none, 0, 0, none, 0, 0, none, 0, 0, rfl, Nat.zero_le _, by unfold InI; exact ⟨by show (-9223372036854775808 : Int) ≤ 0; omega, by show (0 : Int) ≤ 9223372036854775807; omega⟩, Rw.nil_ _ _ _ _, Rw.nil_ _ _ _ _, Rw.nil_ _ _ _ _, Rw.nil_ _ _ _ _⟩
theorem Rd.start {L : Nat} {w : World} {A : Option Addr} {n c : Nat} {ts : List Tk} (h : Ts w w.heap.size A n c ts) (hok : (⟨ts, 0, 0, 0⟩ : Pz).ok L) : Rd L (w.alloc (.cells #[.slice A n c, .int .i64 0, .int .i64 0, .int .i64 0] 129)) w.heap.size ⟨ts, 0, 0, 0⟩ := by
 have h' := h.below ((Below.refl _ w).alloc (Nat.le_refl _) (.cells #[.slice A n c, .int .i64 0, .int .i64 0, .int .i64 0] 129))
 have hp : 1 ≤ ts.length := hok.pos
 obtain ⟨h1, h2, h3, h4⟩ := h'
 rcases h4 with h4 | ⟨b, o, e, hb, hc⟩
 ·omega
 ·subst e
  exact ⟨b, o, n, c, Ob.made _ _ _, hok, ⟨h1, h2, h3⟩, hb, hc⟩
theorem Ob.drew9 {w : World} {g : Nat} {t : TypeId} {cs : Array Value} (h : Ob w g t cs) : Ob w.drew g t cs := h
section
variable {w : World}
def ParseP (s : ByteArray) (w : World) (x : Ending) (w' : World) : Prop := ∃ y, x = .returned (.tuple #[y, .int .i64 (parseR s).2.1, .int .i64 (parseR s).2.2]) ∧ Below w.heap.size w w' ∧ PolOf w w' 5 (parseR s).1 y

set_option maxHeartbeats 1600000 in
theorem parse_big (s : ByteArray) (hs : 4096 < s.size) (hm : s.size ≤ maxLen) : Calls Tryz.prog 31 #[.string s] w (ParseP s w) := by
 have HC := Lib.hid (all_big s hs hm (w.alloc (.cells #[.string ⟨#[]⟩, .bool false, .int .i64 0, .slice none 0 0, .slice none 0 0, .slice none 0 0, .slice none 0 0] 28)))
 have OB := Lib.hid (Ob.made w 28 #[.string ⟨#[]⟩, .bool false, .int .i64 0, .slice none 0 0, .slice none 0 0, .slice none 0 0, .slice none 0 0])
 unfold ParseP
 rw [parseR_big hs]
 simp only
 go_enter Tryz.func31, Tryz.ntmps31
 go_wp2_with fail
 go_at_call 60
 refine HC.out.mono ?_
 rintro x w1 ⟨rfl, hw⟩
 have HB : Hid (Below w.heap.size w w1) := Lib.hid (by rw [hw]; exact (Below.refl _ w).alloc (Nat.le_refl _) _)
 have O1 : Hid (Ob w1 w.heap.size 28 #[.string ⟨#[]⟩, .bool false, .int .i64 0, .slice none 0 0, .slice none 0 0, .slice none 0 0, .slice none 0 0]) := Lib.hid (by rw [hw]; exact OB.out)
 clear hw
 have zc0 := O1.out.cell 0
 have zf0 := O1.out.frozen 0
 have OZ1 : Hid (Ob (w1.setCell ⟨w.heap.size, 0, none⟩ (.string ⟨#[]⟩)) (w.heap.size) 28 #[.string ⟨#[]⟩, .bool false, .int .i64 0, .slice none 0 0, .slice none 0 0, .slice none 0 0, .slice none 0 0]) := Lib.hid (by have := O1.out.put 0 (.string ⟨#[]⟩); simpa using this)
 have BZ1 := Lib.hid (HB.out.setCell (p := ⟨w.heap.size, 0, none⟩) (Nat.le_refl _) (.string ⟨#[]⟩))
 have zc1 := OZ1.out.cell 1
 have zf1 := OZ1.out.frozen 1
 have OZ2 : Hid (Ob ((w1.setCell ⟨w.heap.size, 0, none⟩ (.string ⟨#[]⟩)).setCell ⟨w.heap.size, 1, none⟩ (.bool false)) (w.heap.size) 28 #[.string ⟨#[]⟩, .bool false, .int .i64 0, .slice none 0 0, .slice none 0 0, .slice none 0 0, .slice none 0 0]) := Lib.hid (by have := OZ1.out.put 1 (.bool false); simpa using this)
 have BZ2 := Lib.hid (BZ1.out.setCell (p := ⟨w.heap.size, 1, none⟩) (Nat.le_refl _) (.bool false))
 have zc2 := OZ2.out.cell 2
 have zf2 := OZ2.out.frozen 2
 have OZ3 : Hid (Ob (((w1.setCell ⟨w.heap.size, 0, none⟩ (.string ⟨#[]⟩)).setCell ⟨w.heap.size, 1, none⟩ (.bool false)).setCell ⟨w.heap.size, 2, none⟩ (.int .i64 0)) (w.heap.size) 28 #[.string ⟨#[]⟩, .bool false, .int .i64 0, .slice none 0 0, .slice none 0 0, .slice none 0 0, .slice none 0 0]) := Lib.hid (by have := OZ2.out.put 2 (.int .i64 0); simpa using this)
 have BZ3 := Lib.hid (BZ2.out.setCell (p := ⟨w.heap.size, 2, none⟩) (Nat.le_refl _) (.int .i64 0))
 have zc3 := OZ3.out.cell 3
 have zf3 := OZ3.out.frozen 3
 have OZ4 : Hid (Ob ((((w1.setCell ⟨w.heap.size, 0, none⟩ (.string ⟨#[]⟩)).setCell ⟨w.heap.size, 1, none⟩ (.bool false)).setCell ⟨w.heap.size, 2, none⟩ (.int .i64 0)).setCell ⟨w.heap.size, 3, none⟩ (.slice none 0 0)) (w.heap.size) 28 #[.string ⟨#[]⟩, .bool false, .int .i64 0, .slice none 0 0, .slice none 0 0, .slice none 0 0, .slice none 0 0]) := Lib.hid (by have := OZ3.out.put 3 (.slice none 0 0); simpa using this)
 have BZ4 := Lib.hid (BZ3.out.setCell (p := ⟨w.heap.size, 3, none⟩) (Nat.le_refl _) (.slice none 0 0))
 have zc4 := OZ4.out.cell 4
 have zf4 := OZ4.out.frozen 4
 have OZ5 : Hid (Ob (((((w1.setCell ⟨w.heap.size, 0, none⟩ (.string ⟨#[]⟩)).setCell ⟨w.heap.size, 1, none⟩ (.bool false)).setCell ⟨w.heap.size, 2, none⟩ (.int .i64 0)).setCell ⟨w.heap.size, 3, none⟩ (.slice none 0 0)).setCell ⟨w.heap.size, 4, none⟩ (.slice none 0 0)) (w.heap.size) 28 #[.string ⟨#[]⟩, .bool false, .int .i64 0, .slice none 0 0, .slice none 0 0, .slice none 0 0, .slice none 0 0]) := Lib.hid (by have := OZ4.out.put 4 (.slice none 0 0); simpa using this)
 have BZ5 := Lib.hid (BZ4.out.setCell (p := ⟨w.heap.size, 4, none⟩) (Nat.le_refl _) (.slice none 0 0))
 have zc5 := OZ5.out.cell 5
 have zf5 := OZ5.out.frozen 5
 have OZ6 : Hid (Ob ((((((w1.setCell ⟨w.heap.size, 0, none⟩ (.string ⟨#[]⟩)).setCell ⟨w.heap.size, 1, none⟩ (.bool false)).setCell ⟨w.heap.size, 2, none⟩ (.int .i64 0)).setCell ⟨w.heap.size, 3, none⟩ (.slice none 0 0)).setCell ⟨w.heap.size, 4, none⟩ (.slice none 0 0)).setCell ⟨w.heap.size, 5, none⟩ (.slice none 0 0)) (w.heap.size) 28 #[.string ⟨#[]⟩, .bool false, .int .i64 0, .slice none 0 0, .slice none 0 0, .slice none 0 0, .slice none 0 0]) := Lib.hid (by have := OZ5.out.put 5 (.slice none 0 0); simpa using this)
 have BZ6 := Lib.hid (BZ5.out.setCell (p := ⟨w.heap.size, 5, none⟩) (Nat.le_refl _) (.slice none 0 0))
 have zc6 := OZ6.out.cell 6
 have zf6 := OZ6.out.frozen 6
 have OZ7 : Hid (Ob (((((((w1.setCell ⟨w.heap.size, 0, none⟩ (.string ⟨#[]⟩)).setCell ⟨w.heap.size, 1, none⟩ (.bool false)).setCell ⟨w.heap.size, 2, none⟩ (.int .i64 0)).setCell ⟨w.heap.size, 3, none⟩ (.slice none 0 0)).setCell ⟨w.heap.size, 4, none⟩ (.slice none 0 0)).setCell ⟨w.heap.size, 5, none⟩ (.slice none 0 0)).setCell ⟨w.heap.size, 6, none⟩ (.slice none 0 0)) (w.heap.size) 28 #[.string ⟨#[]⟩, .bool false, .int .i64 0, .slice none 0 0, .slice none 0 0, .slice none 0 0, .slice none 0 0]) := Lib.hid (by have := OZ6.out.put 6 (.slice none 0 0); simpa using this)
 have BZ7 := Lib.hid (BZ6.out.setCell (p := ⟨w.heap.size, 6, none⟩) (Nat.le_refl _) (.slice none 0 0))
 go_wp2_with fail
 try simp only [Exit.inBlock, Exit.then]
 refine bodyPost_ret (policy_ret3 rfl rfl rfl rfl OZ7.out rfl) rfl ?_
 exact ⟨_, rfl, BZ7.out, noPol_of _ _⟩
set_option maxHeartbeats 1600000 in
theorem parse_bad (s : ByteArray) {p : Nat} (hs : s.size ≤ 4096) (hl : lexB s.data.toList 0 = .error p) : Calls Tryz.prog 31 #[.string s] w (ParseP s w) := by
 have HC := Lib.hid (all_any s hs (w.alloc (.cells #[.string ⟨#[]⟩, .bool false, .int .i64 0, .slice none 0 0, .slice none 0 0, .slice none 0 0, .slice none 0 0] 28)))
 have OB := Lib.hid (Ob.made w 28 #[.string ⟨#[]⟩, .bool false, .int .i64 0, .slice none 0 0, .slice none 0 0, .slice none 0 0, .slice none 0 0])
 unfold ParseP
 rw [parseR_bad hs hl]
 simp only
 rw [hl] at HC
 clear hl
 go_enter Tryz.func31, Tryz.ntmps31
 go_wp2_with fail
 go_at_call 60
 refine HC.out.mono ?_
 rintro x w1 ⟨rfl, hb⟩
 have HB := Lib.hid (Below.lit hb)
 have O1 := Lib.hid (OB.out.below hb OB.out.lt)
 clear hb
 have zc0 := O1.out.cell 0
 have zf0 := O1.out.frozen 0
 have OZ1 : Hid (Ob (w1.setCell ⟨w.heap.size, 0, none⟩ (.string ⟨#[]⟩)) (w.heap.size) 28 #[.string ⟨#[]⟩, .bool false, .int .i64 0, .slice none 0 0, .slice none 0 0, .slice none 0 0, .slice none 0 0]) := Lib.hid (by have := O1.out.put 0 (.string ⟨#[]⟩); simpa using this)
 have BZ1 := Lib.hid (HB.out.setCell (p := ⟨w.heap.size, 0, none⟩) (Nat.le_refl _) (.string ⟨#[]⟩))
 have zc1 := OZ1.out.cell 1
 have zf1 := OZ1.out.frozen 1
 have OZ2 : Hid (Ob ((w1.setCell ⟨w.heap.size, 0, none⟩ (.string ⟨#[]⟩)).setCell ⟨w.heap.size, 1, none⟩ (.bool false)) (w.heap.size) 28 #[.string ⟨#[]⟩, .bool false, .int .i64 0, .slice none 0 0, .slice none 0 0, .slice none 0 0, .slice none 0 0]) := Lib.hid (by have := OZ1.out.put 1 (.bool false); simpa using this)
 have BZ2 := Lib.hid (BZ1.out.setCell (p := ⟨w.heap.size, 1, none⟩) (Nat.le_refl _) (.bool false))
 have zc2 := OZ2.out.cell 2
 have zf2 := OZ2.out.frozen 2
 have OZ3 : Hid (Ob (((w1.setCell ⟨w.heap.size, 0, none⟩ (.string ⟨#[]⟩)).setCell ⟨w.heap.size, 1, none⟩ (.bool false)).setCell ⟨w.heap.size, 2, none⟩ (.int .i64 0)) (w.heap.size) 28 #[.string ⟨#[]⟩, .bool false, .int .i64 0, .slice none 0 0, .slice none 0 0, .slice none 0 0, .slice none 0 0]) := Lib.hid (by have := OZ2.out.put 2 (.int .i64 0); simpa using this)
 have BZ3 := Lib.hid (BZ2.out.setCell (p := ⟨w.heap.size, 2, none⟩) (Nat.le_refl _) (.int .i64 0))
 have zc3 := OZ3.out.cell 3
 have zf3 := OZ3.out.frozen 3
 have OZ4 : Hid (Ob ((((w1.setCell ⟨w.heap.size, 0, none⟩ (.string ⟨#[]⟩)).setCell ⟨w.heap.size, 1, none⟩ (.bool false)).setCell ⟨w.heap.size, 2, none⟩ (.int .i64 0)).setCell ⟨w.heap.size, 3, none⟩ (.slice none 0 0)) (w.heap.size) 28 #[.string ⟨#[]⟩, .bool false, .int .i64 0, .slice none 0 0, .slice none 0 0, .slice none 0 0, .slice none 0 0]) := Lib.hid (by have := OZ3.out.put 3 (.slice none 0 0); simpa using this)
 have BZ4 := Lib.hid (BZ3.out.setCell (p := ⟨w.heap.size, 3, none⟩) (Nat.le_refl _) (.slice none 0 0))
 have zc4 := OZ4.out.cell 4
 have zf4 := OZ4.out.frozen 4
 have OZ5 : Hid (Ob (((((w1.setCell ⟨w.heap.size, 0, none⟩ (.string ⟨#[]⟩)).setCell ⟨w.heap.size, 1, none⟩ (.bool false)).setCell ⟨w.heap.size, 2, none⟩ (.int .i64 0)).setCell ⟨w.heap.size, 3, none⟩ (.slice none 0 0)).setCell ⟨w.heap.size, 4, none⟩ (.slice none 0 0)) (w.heap.size) 28 #[.string ⟨#[]⟩, .bool false, .int .i64 0, .slice none 0 0, .slice none 0 0, .slice none 0 0, .slice none 0 0]) := Lib.hid (by have := OZ4.out.put 4 (.slice none 0 0); simpa using this)
 have BZ5 := Lib.hid (BZ4.out.setCell (p := ⟨w.heap.size, 4, none⟩) (Nat.le_refl _) (.slice none 0 0))
 have zc5 := OZ5.out.cell 5
 have zf5 := OZ5.out.frozen 5
 have OZ6 : Hid (Ob ((((((w1.setCell ⟨w.heap.size, 0, none⟩ (.string ⟨#[]⟩)).setCell ⟨w.heap.size, 1, none⟩ (.bool false)).setCell ⟨w.heap.size, 2, none⟩ (.int .i64 0)).setCell ⟨w.heap.size, 3, none⟩ (.slice none 0 0)).setCell ⟨w.heap.size, 4, none⟩ (.slice none 0 0)).setCell ⟨w.heap.size, 5, none⟩ (.slice none 0 0)) (w.heap.size) 28 #[.string ⟨#[]⟩, .bool false, .int .i64 0, .slice none 0 0, .slice none 0 0, .slice none 0 0, .slice none 0 0]) := Lib.hid (by have := OZ5.out.put 5 (.slice none 0 0); simpa using this)
 have BZ6 := Lib.hid (BZ5.out.setCell (p := ⟨w.heap.size, 5, none⟩) (Nat.le_refl _) (.slice none 0 0))
 have zc6 := OZ6.out.cell 6
 have zf6 := OZ6.out.frozen 6
 have OZ7 : Hid (Ob (((((((w1.setCell ⟨w.heap.size, 0, none⟩ (.string ⟨#[]⟩)).setCell ⟨w.heap.size, 1, none⟩ (.bool false)).setCell ⟨w.heap.size, 2, none⟩ (.int .i64 0)).setCell ⟨w.heap.size, 3, none⟩ (.slice none 0 0)).setCell ⟨w.heap.size, 4, none⟩ (.slice none 0 0)).setCell ⟨w.heap.size, 5, none⟩ (.slice none 0 0)).setCell ⟨w.heap.size, 6, none⟩ (.slice none 0 0)) (w.heap.size) 28 #[.string ⟨#[]⟩, .bool false, .int .i64 0, .slice none 0 0, .slice none 0 0, .slice none 0 0, .slice none 0 0]) := Lib.hid (by have := OZ6.out.put 6 (.slice none 0 0); simpa using this)
 have BZ7 := Lib.hid (BZ6.out.setCell (p := ⟨w.heap.size, 6, none⟩) (Nat.le_refl _) (.slice none 0 0))
 go_wp2_with fail
 try simp only [Exit.inBlock, Exit.then]
 refine bodyPost_ret (policy_ret3 rfl rfl rfl rfl OZ7.out rfl) rfl ?_
 exact ⟨_, rfl, BZ7.out, noPol_of _ _⟩
theorem Only.down {g B : Nat} {w w' : World} (h : Only g w w') (hB : B ≤ g) (hw : g < w.heap.size) : Below B w w' := ⟨h.os, h.tape, h.output, h.size, fun k hk => h.heap (by omega) (by omega)⟩
set_option maxHeartbeats 3200000 in
theorem parse_ok (s : ByteArray) {ts : List Tk} (hs : s.size ≤ 4096) (hl : lexB s.data.toList 0 = .ok ts) : Calls Tryz.prog 31 #[.string s] w (ParseP s w) := by
 have HC := Lib.hid (all_any s hs (w.alloc (.cells #[.string ⟨#[]⟩, .bool false, .int .i64 0, .slice none 0 0, .slice none 0 0, .slice none 0 0, .slice none 0 0] 28)))
 have OB := Lib.hid (Ob.made w 28 #[.string ⟨#[]⟩, .bool false, .int .i64 0, .slice none 0 0, .slice none 0 0, .slice none 0 0, .slice none 0 0])
 unfold ParseP
 obtain ⟨h0, hlen⟩ := start_ok hs hl
 obtain ⟨q, s1, hq⟩ := pair_eq (polR 5 ⟨ts, 0, 0, 0⟩)
 obtain ⟨z, hz⟩ : ∃ z, endR s1 = z := ⟨_, rfl⟩
 obtain ⟨res, hres⟩ : ∃ r, (if z.err = 0 then (if rightE q = 0 then (q, 0, 0) else (noPol, 5, (s.size : Int))) else (noPol, z.err, z.at_) : Pol × Int × Int) = r := ⟨_, rfl⟩
 rw [parseR_ok hs hl hq hz, hres]
 have HRES := Lib.hid hres
 clear hres
 rw [hl] at HC
 have H0 := Lib.hid h0
 have HSUM : Hid ((⟨ts, 0, 0, 0⟩ : Pz).met + (⟨ts, 0, 0, 0⟩ : Pz).rest.length ≤ 5990) := by show 0 + ts.length ≤ 5990; omega
 have HQ := Lib.hid hq
 have HZ := Lib.hid hz
 have HS := Lib.hid hs
 clear hl hq hz h0 hlen hs
 go_enter Tryz.func31, Tryz.ntmps31
 go_wp2_with fail
 go_at_call 60
 refine HC.out.mono ?_
 rintro x w1 ⟨A, n, c, rfl, hown, hb⟩
 have HB := Lib.hid (Below.lit hb)
 have O1 := Lib.hid (OB.out.below hb OB.out.lt)
 have HG : Hid (w.heap.size < w1.heap.size) := O1.out.lt
 have HR := Lib.hid (Rd.start (Ts.of_own hown) H0.out)
 have O2 := Lib.hid (O1.out.keep (Below.heap_alloc w1 (.cells #[.slice A n c, .int .i64 0, .int .i64 0, .int .i64 0] 129) _ O1.out.lt))
 have HB2 := Lib.hid (HB.out.trans ((Below.refl w.heap.size w1).alloc HB.out.size (.cells #[.slice A n c, .int .i64 0, .int .i64 0, .int .i64 0] 129)))
 clear hb hown
 go_wp2_with fail
 go_at_call 61
 refine (pol_read_all 4 (Nat.le_refl _) _ ⟨ts, 0, 0, 0⟩ 1 (by omega) (Nat.le_refl _) HR.out HSUM.out).mono ?_
 rintro x w3 ⟨y, rfl, ho, hr, hp⟩
 change Rd _ _ _ (polR 5 _).2 at hr
 change PolOf _ _ 5 (polR 5 _).1 _ at hp
 rw [HQ.out] at hr hp
 obtain ⟨A1, n1, c1, A2, n2, c2, A3, n3, c3, A4, n4, c4, rfl, hp⟩ := hp
 have HS3 : Hid (w1.heap.size < w3.heap.size) := hr.lt
 have O3 := Lib.hid (O2.out.keep (ho.heap O2.out.lt (by have := HG.out; omega)))
 have HB3 := Lib.hid (HB2.out.trans (ho.down (by have := HG.out; omega) (by rw [size_al]; omega)))
 have O4 := Lib.hid (O3.out.keep (Below.heap_alloc w3 (.cells #[.string q.id, .bool q.set, .int .i64 q.alg, .slice A1 n1 c1, .slice A2 n2 c2, .slice A3 n3 c3, .slice A4 n4 c4] 28) _ O3.out.lt))
 have P4 := Lib.hid (Ob.made w3 28 #[.string q.id, .bool q.set, .int .i64 q.alg, .slice A1 n1 c1, .slice A2 n2 c2, .slice A3 n3 c3, .slice A4 n4 c4])
 have HB4 := Lib.hid (HB3.out.trans ((Below.refl w.heap.size w3).alloc HB3.out.size (.cells #[.string q.id, .bool q.set, .int .i64 q.alg, .slice A1 n1 c1, .slice A2 n2 c2, .slice A3 n3 c3, .slice A4 n4 c4] 28)))
 have HR4 := Lib.hid (hr.alloc (.cells #[.string q.id, .bool q.set, .int .i64 q.alg, .slice A1 n1 c1, .slice A2 n2 c2, .slice A3 n3 c3, .slice A4 n4 c4] 28))
 have HP4 := Lib.hid (PolAt.keep (Kept.all ((Below.refl w3.heap.size w3).alloc (Nat.le_refl _) (.cells #[.string q.id, .bool q.set, .int .i64 q.alg, .slice A1 n1 c1, .slice A2 n2 c2, .slice A3 n3 c3, .slice A4 n4 c4] 28)) _) (fun _ h _ => h) hp)
 clear ho hr hp
 go_wp2_with fail
 go_at_call 62
 refine (pend_any HR4.out).mono ?_
 rintro x w4 ⟨rfl, ho, hr⟩
 rw [HZ.out] at hr
 have HS4 : Hid (w3.heap.size < w4.heap.size) := by have := ho.size; rw [size_al] at this; show _ < _; omega
 have O5 := Lib.hid (O4.out.keep (ho.heap O4.out.lt (by have := HG.out; omega)))
 have P5 := Lib.hid (P4.out.keep (ho.heap P4.out.lt (by have := HS3.out; omega)))
 have HB5 := Lib.hid (HB4.out.trans (ho.down (by have := HG.out; omega) HR4.out.lt))
 have HP5 := Lib.hid (PolAt.keep (w' := w4) ⟨ho.size, fun b hb hlt => ho.heap hlt (by have hb : (w1.alloc (.cells #[.slice A n c, .int .i64 0, .int .i64 0, .int .i64 0] 129)).heap.size ≤ b := hb; rw [size_al] at hb; omega)⟩ (fun _ h _ => h) HP4.out)
 obtain ⟨b0, o0, n0, c0, hob, hok, _, _, _, _⟩ := hr.at_
 have q2 := hob.cell 2
 have q3 := hob.cell 3
 have R5 := Lib.hid hob
 clear ho hr hob hok
 by_cases hz : z.err = 0
 ·rw [hz] at q2
  have HZ0 := Lib.hid hz
  clear hz
  have HIN : Hid (PolIn w4 (fun b => (w1.alloc (.cells #[.slice A n c, .int .i64 0, .int .i64 0, .int .i64 0] 129)).heap.size ≤ b) q A1 n1 c1 A2 n2 c2 A3 n3 c3 A4 n4 c4) := by
   obtain ⟨B1, m1, d1, B2, m2, d2, B3, m3, d3, B4, m4, d4, e, h0, h00, h1, h2, h3, h4⟩ := HP5.out
   simp at e
   obtain ⟨⟨rfl, rfl, rfl⟩, ⟨rfl, rfl, rfl⟩, ⟨rfl, rfl, rfl⟩, ⟨rfl, rfl, rfl⟩⟩ := e
   exact ⟨⟨h0, h00⟩, h1, h2, ⟨4, h3⟩, h4⟩
  have pc0 := P5.out.cell 0
  have pc1 := P5.out.cell 1
  have pc2 := P5.out.cell 2
  have pc3 := P5.out.cell 3
  have pc4 := P5.out.cell 4
  have pc5 := P5.out.cell 5
  have pc6 := P5.out.cell 6
  go_wp2_with fail
  go_at_call 7
  refine (right_pol HIN.out).mono ?_
  rintro x w5 ⟨rfl, hb⟩
  have O6 := Lib.hid (O5.out.below hb O5.out.lt)
  have P6 := Lib.hid (P5.out.below hb P5.out.lt)
  have HB6 := Lib.hid (HB5.out.trans (hb.mono HB5.out.size))
  have HP6 := Lib.hid (PolAt.keep (Kept.all hb _) (fun _ h _ => h) HP5.out)
  clear hb
  by_cases hE : rightE q = 0
  ·rw [hE]
   have HF := Lib.hid (show (q, 0, 0) = res from by have := HRES.out; rwa [if_pos HZ0.out, if_pos hE] at this)
   have pd0 := P6.out.cell 0
   have pd1 := P6.out.cell 1
   have pd2 := P6.out.cell 2
   have pd3 := P6.out.cell 3
   have pd4 := P6.out.cell 4
   have pd5 := P6.out.cell 5
   have pd6 := P6.out.cell 6
   have zc0 := O6.out.cell 0
   have zf0 := O6.out.frozen 0
   have OZ1 : Hid (Ob (w5.setCell ⟨w.heap.size, 0, none⟩ (.string q.id)) (w.heap.size) 28 #[.string q.id, .bool false, .int .i64 0, .slice none 0 0, .slice none 0 0, .slice none 0 0, .slice none 0 0]) := Lib.hid (by have := O6.out.put 0 (.string q.id); simpa using this)
   have BZ1 := Lib.hid (HB6.out.setCell (p := ⟨w.heap.size, 0, none⟩) (Nat.le_refl _) (.string q.id))
   have zc1 := OZ1.out.cell 1
   have zf1 := OZ1.out.frozen 1
   have OZ2 : Hid (Ob ((w5.setCell ⟨w.heap.size, 0, none⟩ (.string q.id)).setCell ⟨w.heap.size, 1, none⟩ (.bool q.set)) (w.heap.size) 28 #[.string q.id, .bool q.set, .int .i64 0, .slice none 0 0, .slice none 0 0, .slice none 0 0, .slice none 0 0]) := Lib.hid (by have := OZ1.out.put 1 (.bool q.set); simpa using this)
   have BZ2 := Lib.hid (BZ1.out.setCell (p := ⟨w.heap.size, 1, none⟩) (Nat.le_refl _) (.bool q.set))
   have zc2 := OZ2.out.cell 2
   have zf2 := OZ2.out.frozen 2
   have OZ3 : Hid (Ob (((w5.setCell ⟨w.heap.size, 0, none⟩ (.string q.id)).setCell ⟨w.heap.size, 1, none⟩ (.bool q.set)).setCell ⟨w.heap.size, 2, none⟩ (.int .i64 q.alg)) (w.heap.size) 28 #[.string q.id, .bool q.set, .int .i64 q.alg, .slice none 0 0, .slice none 0 0, .slice none 0 0, .slice none 0 0]) := Lib.hid (by have := OZ2.out.put 2 (.int .i64 q.alg); simpa using this)
   have BZ3 := Lib.hid (BZ2.out.setCell (p := ⟨w.heap.size, 2, none⟩) (Nat.le_refl _) (.int .i64 q.alg))
   have zc3 := OZ3.out.cell 3
   have zf3 := OZ3.out.frozen 3
   have OZ4 : Hid (Ob ((((w5.setCell ⟨w.heap.size, 0, none⟩ (.string q.id)).setCell ⟨w.heap.size, 1, none⟩ (.bool q.set)).setCell ⟨w.heap.size, 2, none⟩ (.int .i64 q.alg)).setCell ⟨w.heap.size, 3, none⟩ (.slice A1 n1 c1)) (w.heap.size) 28 #[.string q.id, .bool q.set, .int .i64 q.alg, .slice A1 n1 c1, .slice none 0 0, .slice none 0 0, .slice none 0 0]) := Lib.hid (by have := OZ3.out.put 3 (.slice A1 n1 c1); simpa using this)
   have BZ4 := Lib.hid (BZ3.out.setCell (p := ⟨w.heap.size, 3, none⟩) (Nat.le_refl _) (.slice A1 n1 c1))
   have zc4 := OZ4.out.cell 4
   have zf4 := OZ4.out.frozen 4
   have OZ5 : Hid (Ob (((((w5.setCell ⟨w.heap.size, 0, none⟩ (.string q.id)).setCell ⟨w.heap.size, 1, none⟩ (.bool q.set)).setCell ⟨w.heap.size, 2, none⟩ (.int .i64 q.alg)).setCell ⟨w.heap.size, 3, none⟩ (.slice A1 n1 c1)).setCell ⟨w.heap.size, 4, none⟩ (.slice A2 n2 c2)) (w.heap.size) 28 #[.string q.id, .bool q.set, .int .i64 q.alg, .slice A1 n1 c1, .slice A2 n2 c2, .slice none 0 0, .slice none 0 0]) := Lib.hid (by have := OZ4.out.put 4 (.slice A2 n2 c2); simpa using this)
   have BZ5 := Lib.hid (BZ4.out.setCell (p := ⟨w.heap.size, 4, none⟩) (Nat.le_refl _) (.slice A2 n2 c2))
   have zc5 := OZ5.out.cell 5
   have zf5 := OZ5.out.frozen 5
   have OZ6 : Hid (Ob ((((((w5.setCell ⟨w.heap.size, 0, none⟩ (.string q.id)).setCell ⟨w.heap.size, 1, none⟩ (.bool q.set)).setCell ⟨w.heap.size, 2, none⟩ (.int .i64 q.alg)).setCell ⟨w.heap.size, 3, none⟩ (.slice A1 n1 c1)).setCell ⟨w.heap.size, 4, none⟩ (.slice A2 n2 c2)).setCell ⟨w.heap.size, 5, none⟩ (.slice A3 n3 c3)) (w.heap.size) 28 #[.string q.id, .bool q.set, .int .i64 q.alg, .slice A1 n1 c1, .slice A2 n2 c2, .slice A3 n3 c3, .slice none 0 0]) := Lib.hid (by have := OZ5.out.put 5 (.slice A3 n3 c3); simpa using this)
   have BZ6 := Lib.hid (BZ5.out.setCell (p := ⟨w.heap.size, 5, none⟩) (Nat.le_refl _) (.slice A3 n3 c3))
   have zc6 := OZ6.out.cell 6
   have zf6 := OZ6.out.frozen 6
   have OZ7 : Hid (Ob (((((((w5.setCell ⟨w.heap.size, 0, none⟩ (.string q.id)).setCell ⟨w.heap.size, 1, none⟩ (.bool q.set)).setCell ⟨w.heap.size, 2, none⟩ (.int .i64 q.alg)).setCell ⟨w.heap.size, 3, none⟩ (.slice A1 n1 c1)).setCell ⟨w.heap.size, 4, none⟩ (.slice A2 n2 c2)).setCell ⟨w.heap.size, 5, none⟩ (.slice A3 n3 c3)).setCell ⟨w.heap.size, 6, none⟩ (.slice A4 n4 c4)) (w.heap.size) 28 #[.string q.id, .bool q.set, .int .i64 q.alg, .slice A1 n1 c1, .slice A2 n2 c2, .slice A3 n3 c3, .slice A4 n4 c4]) := Lib.hid (by have := OZ6.out.put 6 (.slice A4 n4 c4); simpa using this)
   have BZ7 := Lib.hid (BZ6.out.setCell (p := ⟨w.heap.size, 6, none⟩) (Nat.le_refl _) (.slice A4 n4 c4))
   have KQ : Hid (Kept (fun b => (w1.alloc (.cells #[.slice A n c, .int .i64 0, .int .i64 0, .int .i64 0] 129)).heap.size ≤ b) w5 (((((((w5.setCell ⟨w.heap.size, 0, none⟩ (.string q.id)).setCell ⟨w.heap.size, 1, none⟩ (.bool q.set)).setCell ⟨w.heap.size, 2, none⟩ (.int .i64 q.alg)).setCell ⟨w.heap.size, 3, none⟩ (.slice A1 n1 c1)).setCell ⟨w.heap.size, 4, none⟩ (.slice A2 n2 c2)).setCell ⟨w.heap.size, 5, none⟩ (.slice A3 n3 c3)).setCell ⟨w.heap.size, 6, none⟩ (.slice A4 n4 c4))) := Lib.hid (Only.kept9 ((((((((Only.refl (r := w.heap.size) (w := w5)).at_g 0 (.string q.id)).at_g 1 (.bool q.set)).at_g 2 (.int .i64 q.alg)).at_g 3 (.slice A1 n1 c1)).at_g 4 (.slice A2 n2 c2)).at_g 5 (.slice A3 n3 c3)).at_g 6 (.slice A4 n4 c4)) (fun b hb => by have hb : (w1.alloc (.cells #[.slice A n c, .int .i64 0, .int .i64 0, .int .i64 0] 129)).heap.size ≤ b := hb; rw [size_al] at hb; have := HG.out; omega))
   go_wp2_with fail
   try simp only [Exit.inBlock, Exit.then]
   refine bodyPost_ret (policy_ret3 rfl rfl rfl rfl OZ7.out rfl) rfl ?_
   rw [← HF.out]
   exact ⟨_, rfl, BZ7.out, A1, n1, c1, A2, n2, c2, A3, n3, c3, A4, n4, c4, rfl, PolAt.keep (w' := (((((((w5.setCell ⟨w.heap.size, 0, none⟩ (.string q.id)).setCell ⟨w.heap.size, 1, none⟩ (.bool q.set)).setCell ⟨w.heap.size, 2, none⟩ (.int .i64 q.alg)).setCell ⟨w.heap.size, 3, none⟩ (.slice A1 n1 c1)).setCell ⟨w.heap.size, 4, none⟩ (.slice A2 n2 c2)).setCell ⟨w.heap.size, 5, none⟩ (.slice A3 n3 c3)).setCell ⟨w.heap.size, 6, none⟩ (.slice A4 n4 c4))) (KQ.out) (fun b hb _ => by have hb : (w1.alloc (.cells #[.slice A n c, .int .i64 0, .int .i64 0, .int .i64 0] 129)).heap.size ≤ b := hb; rw [size_al] at hb; have := HG.out; show w.heap.size ≤ b; omega) HP6.out⟩
  ·have HF := Lib.hid (show (noPol, 5, (s.size : Int)) = res from by have := HRES.out; rwa [if_pos HZ0.out, if_neg hE] at this)
   have hE2 : (rightE q != 0) = true := by rw [bne_iff_ne]; exact hE
   have HE := Lib.hid hE
   clear hE
   generalize rightE q = rq at *
   have zc0 := O6.out.cell 0
   have zf0 := O6.out.frozen 0
   have OZ1 : Hid (Ob (w5.setCell ⟨w.heap.size, 0, none⟩ (.string ⟨#[]⟩)) (w.heap.size) 28 #[.string ⟨#[]⟩, .bool false, .int .i64 0, .slice none 0 0, .slice none 0 0, .slice none 0 0, .slice none 0 0]) := Lib.hid (by have := O6.out.put 0 (.string ⟨#[]⟩); simpa using this)
   have BZ1 := Lib.hid (HB6.out.setCell (p := ⟨w.heap.size, 0, none⟩) (Nat.le_refl _) (.string ⟨#[]⟩))
   have zc1 := OZ1.out.cell 1
   have zf1 := OZ1.out.frozen 1
   have OZ2 : Hid (Ob ((w5.setCell ⟨w.heap.size, 0, none⟩ (.string ⟨#[]⟩)).setCell ⟨w.heap.size, 1, none⟩ (.bool false)) (w.heap.size) 28 #[.string ⟨#[]⟩, .bool false, .int .i64 0, .slice none 0 0, .slice none 0 0, .slice none 0 0, .slice none 0 0]) := Lib.hid (by have := OZ1.out.put 1 (.bool false); simpa using this)
   have BZ2 := Lib.hid (BZ1.out.setCell (p := ⟨w.heap.size, 1, none⟩) (Nat.le_refl _) (.bool false))
   have zc2 := OZ2.out.cell 2
   have zf2 := OZ2.out.frozen 2
   have OZ3 : Hid (Ob (((w5.setCell ⟨w.heap.size, 0, none⟩ (.string ⟨#[]⟩)).setCell ⟨w.heap.size, 1, none⟩ (.bool false)).setCell ⟨w.heap.size, 2, none⟩ (.int .i64 0)) (w.heap.size) 28 #[.string ⟨#[]⟩, .bool false, .int .i64 0, .slice none 0 0, .slice none 0 0, .slice none 0 0, .slice none 0 0]) := Lib.hid (by have := OZ2.out.put 2 (.int .i64 0); simpa using this)
   have BZ3 := Lib.hid (BZ2.out.setCell (p := ⟨w.heap.size, 2, none⟩) (Nat.le_refl _) (.int .i64 0))
   have zc3 := OZ3.out.cell 3
   have zf3 := OZ3.out.frozen 3
   have OZ4 : Hid (Ob ((((w5.setCell ⟨w.heap.size, 0, none⟩ (.string ⟨#[]⟩)).setCell ⟨w.heap.size, 1, none⟩ (.bool false)).setCell ⟨w.heap.size, 2, none⟩ (.int .i64 0)).setCell ⟨w.heap.size, 3, none⟩ (.slice none 0 0)) (w.heap.size) 28 #[.string ⟨#[]⟩, .bool false, .int .i64 0, .slice none 0 0, .slice none 0 0, .slice none 0 0, .slice none 0 0]) := Lib.hid (by have := OZ3.out.put 3 (.slice none 0 0); simpa using this)
   have BZ4 := Lib.hid (BZ3.out.setCell (p := ⟨w.heap.size, 3, none⟩) (Nat.le_refl _) (.slice none 0 0))
   have zc4 := OZ4.out.cell 4
   have zf4 := OZ4.out.frozen 4
   have OZ5 : Hid (Ob (((((w5.setCell ⟨w.heap.size, 0, none⟩ (.string ⟨#[]⟩)).setCell ⟨w.heap.size, 1, none⟩ (.bool false)).setCell ⟨w.heap.size, 2, none⟩ (.int .i64 0)).setCell ⟨w.heap.size, 3, none⟩ (.slice none 0 0)).setCell ⟨w.heap.size, 4, none⟩ (.slice none 0 0)) (w.heap.size) 28 #[.string ⟨#[]⟩, .bool false, .int .i64 0, .slice none 0 0, .slice none 0 0, .slice none 0 0, .slice none 0 0]) := Lib.hid (by have := OZ4.out.put 4 (.slice none 0 0); simpa using this)
   have BZ5 := Lib.hid (BZ4.out.setCell (p := ⟨w.heap.size, 4, none⟩) (Nat.le_refl _) (.slice none 0 0))
   have zc5 := OZ5.out.cell 5
   have zf5 := OZ5.out.frozen 5
   have OZ6 : Hid (Ob ((((((w5.setCell ⟨w.heap.size, 0, none⟩ (.string ⟨#[]⟩)).setCell ⟨w.heap.size, 1, none⟩ (.bool false)).setCell ⟨w.heap.size, 2, none⟩ (.int .i64 0)).setCell ⟨w.heap.size, 3, none⟩ (.slice none 0 0)).setCell ⟨w.heap.size, 4, none⟩ (.slice none 0 0)).setCell ⟨w.heap.size, 5, none⟩ (.slice none 0 0)) (w.heap.size) 28 #[.string ⟨#[]⟩, .bool false, .int .i64 0, .slice none 0 0, .slice none 0 0, .slice none 0 0, .slice none 0 0]) := Lib.hid (by have := OZ5.out.put 5 (.slice none 0 0); simpa using this)
   have BZ6 := Lib.hid (BZ5.out.setCell (p := ⟨w.heap.size, 5, none⟩) (Nat.le_refl _) (.slice none 0 0))
   have zc6 := OZ6.out.cell 6
   have zf6 := OZ6.out.frozen 6
   have OZ7 : Hid (Ob (((((((w5.setCell ⟨w.heap.size, 0, none⟩ (.string ⟨#[]⟩)).setCell ⟨w.heap.size, 1, none⟩ (.bool false)).setCell ⟨w.heap.size, 2, none⟩ (.int .i64 0)).setCell ⟨w.heap.size, 3, none⟩ (.slice none 0 0)).setCell ⟨w.heap.size, 4, none⟩ (.slice none 0 0)).setCell ⟨w.heap.size, 5, none⟩ (.slice none 0 0)).setCell ⟨w.heap.size, 6, none⟩ (.slice none 0 0)) (w.heap.size) 28 #[.string ⟨#[]⟩, .bool false, .int .i64 0, .slice none 0 0, .slice none 0 0, .slice none 0 0, .slice none 0 0]) := Lib.hid (by have := OZ6.out.put 6 (.slice none 0 0); simpa using this)
   have BZ7 := Lib.hid (BZ6.out.setCell (p := ⟨w.heap.size, 6, none⟩) (Nat.le_refl _) (.slice none 0 0))
   go_wp2_with fail
   try simp only [Exit.inBlock, Exit.then]
   refine bodyPost_ret (policy_ret3 rfl rfl rfl rfl OZ7.out rfl) rfl ?_
   rw [← HF.out]
   exact ⟨_, rfl, BZ7.out, noPol_of _ _⟩
 ·have HF := Lib.hid (show (noPol, z.err, z.at_) = res from by have := HRES.out; rwa [if_neg hz] at this)
  have hz2 : (z.err != 0) = true := by rw [bne_iff_ne]; exact hz
  clear hz
  go_wp2_with fail
  have zc0 := O5.out.cell 0
  have zf0 := O5.out.frozen 0
  have OZ1 : Hid (Ob (w4.setCell ⟨w.heap.size, 0, none⟩ (.string ⟨#[]⟩)) (w.heap.size) 28 #[.string ⟨#[]⟩, .bool false, .int .i64 0, .slice none 0 0, .slice none 0 0, .slice none 0 0, .slice none 0 0]) := Lib.hid (by have := O5.out.put 0 (.string ⟨#[]⟩); simpa using this)
  have BZ1 := Lib.hid (HB5.out.setCell (p := ⟨w.heap.size, 0, none⟩) (Nat.le_refl _) (.string ⟨#[]⟩))
  have zc1 := OZ1.out.cell 1
  have zf1 := OZ1.out.frozen 1
  have OZ2 : Hid (Ob ((w4.setCell ⟨w.heap.size, 0, none⟩ (.string ⟨#[]⟩)).setCell ⟨w.heap.size, 1, none⟩ (.bool false)) (w.heap.size) 28 #[.string ⟨#[]⟩, .bool false, .int .i64 0, .slice none 0 0, .slice none 0 0, .slice none 0 0, .slice none 0 0]) := Lib.hid (by have := OZ1.out.put 1 (.bool false); simpa using this)
  have BZ2 := Lib.hid (BZ1.out.setCell (p := ⟨w.heap.size, 1, none⟩) (Nat.le_refl _) (.bool false))
  have zc2 := OZ2.out.cell 2
  have zf2 := OZ2.out.frozen 2
  have OZ3 : Hid (Ob (((w4.setCell ⟨w.heap.size, 0, none⟩ (.string ⟨#[]⟩)).setCell ⟨w.heap.size, 1, none⟩ (.bool false)).setCell ⟨w.heap.size, 2, none⟩ (.int .i64 0)) (w.heap.size) 28 #[.string ⟨#[]⟩, .bool false, .int .i64 0, .slice none 0 0, .slice none 0 0, .slice none 0 0, .slice none 0 0]) := Lib.hid (by have := OZ2.out.put 2 (.int .i64 0); simpa using this)
  have BZ3 := Lib.hid (BZ2.out.setCell (p := ⟨w.heap.size, 2, none⟩) (Nat.le_refl _) (.int .i64 0))
  have zc3 := OZ3.out.cell 3
  have zf3 := OZ3.out.frozen 3
  have OZ4 : Hid (Ob ((((w4.setCell ⟨w.heap.size, 0, none⟩ (.string ⟨#[]⟩)).setCell ⟨w.heap.size, 1, none⟩ (.bool false)).setCell ⟨w.heap.size, 2, none⟩ (.int .i64 0)).setCell ⟨w.heap.size, 3, none⟩ (.slice none 0 0)) (w.heap.size) 28 #[.string ⟨#[]⟩, .bool false, .int .i64 0, .slice none 0 0, .slice none 0 0, .slice none 0 0, .slice none 0 0]) := Lib.hid (by have := OZ3.out.put 3 (.slice none 0 0); simpa using this)
  have BZ4 := Lib.hid (BZ3.out.setCell (p := ⟨w.heap.size, 3, none⟩) (Nat.le_refl _) (.slice none 0 0))
  have zc4 := OZ4.out.cell 4
  have zf4 := OZ4.out.frozen 4
  have OZ5 : Hid (Ob (((((w4.setCell ⟨w.heap.size, 0, none⟩ (.string ⟨#[]⟩)).setCell ⟨w.heap.size, 1, none⟩ (.bool false)).setCell ⟨w.heap.size, 2, none⟩ (.int .i64 0)).setCell ⟨w.heap.size, 3, none⟩ (.slice none 0 0)).setCell ⟨w.heap.size, 4, none⟩ (.slice none 0 0)) (w.heap.size) 28 #[.string ⟨#[]⟩, .bool false, .int .i64 0, .slice none 0 0, .slice none 0 0, .slice none 0 0, .slice none 0 0]) := Lib.hid (by have := OZ4.out.put 4 (.slice none 0 0); simpa using this)
  have BZ5 := Lib.hid (BZ4.out.setCell (p := ⟨w.heap.size, 4, none⟩) (Nat.le_refl _) (.slice none 0 0))
  have zc5 := OZ5.out.cell 5
  have zf5 := OZ5.out.frozen 5
  have OZ6 : Hid (Ob ((((((w4.setCell ⟨w.heap.size, 0, none⟩ (.string ⟨#[]⟩)).setCell ⟨w.heap.size, 1, none⟩ (.bool false)).setCell ⟨w.heap.size, 2, none⟩ (.int .i64 0)).setCell ⟨w.heap.size, 3, none⟩ (.slice none 0 0)).setCell ⟨w.heap.size, 4, none⟩ (.slice none 0 0)).setCell ⟨w.heap.size, 5, none⟩ (.slice none 0 0)) (w.heap.size) 28 #[.string ⟨#[]⟩, .bool false, .int .i64 0, .slice none 0 0, .slice none 0 0, .slice none 0 0, .slice none 0 0]) := Lib.hid (by have := OZ5.out.put 5 (.slice none 0 0); simpa using this)
  have BZ6 := Lib.hid (BZ5.out.setCell (p := ⟨w.heap.size, 5, none⟩) (Nat.le_refl _) (.slice none 0 0))
  have zc6 := OZ6.out.cell 6
  have zf6 := OZ6.out.frozen 6
  have OZ7 : Hid (Ob (((((((w4.setCell ⟨w.heap.size, 0, none⟩ (.string ⟨#[]⟩)).setCell ⟨w.heap.size, 1, none⟩ (.bool false)).setCell ⟨w.heap.size, 2, none⟩ (.int .i64 0)).setCell ⟨w.heap.size, 3, none⟩ (.slice none 0 0)).setCell ⟨w.heap.size, 4, none⟩ (.slice none 0 0)).setCell ⟨w.heap.size, 5, none⟩ (.slice none 0 0)).setCell ⟨w.heap.size, 6, none⟩ (.slice none 0 0)) (w.heap.size) 28 #[.string ⟨#[]⟩, .bool false, .int .i64 0, .slice none 0 0, .slice none 0 0, .slice none 0 0, .slice none 0 0]) := Lib.hid (by have := OZ6.out.put 6 (.slice none 0 0); simpa using this)
  have BZ7 := Lib.hid (BZ6.out.setCell (p := ⟨w.heap.size, 6, none⟩) (Nat.le_refl _) (.slice none 0 0))
  have RZ1 := Lib.hid (R5.out.keep (Below.heap_setCell w4 ⟨w.heap.size, 0, none⟩ (.string ⟨#[]⟩) _ (by show w1.heap.size ≠ w.heap.size; have := HG.out; omega)))
  have RZ2 := Lib.hid (RZ1.out.keep (Below.heap_setCell (w4.setCell ⟨w.heap.size, 0, none⟩ (.string ⟨#[]⟩)) ⟨w.heap.size, 1, none⟩ (.bool false) _ (by show w1.heap.size ≠ w.heap.size; have := HG.out; omega)))
  have RZ3 := Lib.hid (RZ2.out.keep (Below.heap_setCell ((w4.setCell ⟨w.heap.size, 0, none⟩ (.string ⟨#[]⟩)).setCell ⟨w.heap.size, 1, none⟩ (.bool false)) ⟨w.heap.size, 2, none⟩ (.int .i64 0) _ (by show w1.heap.size ≠ w.heap.size; have := HG.out; omega)))
  have RZ4 := Lib.hid (RZ3.out.keep (Below.heap_setCell (((w4.setCell ⟨w.heap.size, 0, none⟩ (.string ⟨#[]⟩)).setCell ⟨w.heap.size, 1, none⟩ (.bool false)).setCell ⟨w.heap.size, 2, none⟩ (.int .i64 0)) ⟨w.heap.size, 3, none⟩ (.slice none 0 0) _ (by show w1.heap.size ≠ w.heap.size; have := HG.out; omega)))
  have RZ5 := Lib.hid (RZ4.out.keep (Below.heap_setCell ((((w4.setCell ⟨w.heap.size, 0, none⟩ (.string ⟨#[]⟩)).setCell ⟨w.heap.size, 1, none⟩ (.bool false)).setCell ⟨w.heap.size, 2, none⟩ (.int .i64 0)).setCell ⟨w.heap.size, 3, none⟩ (.slice none 0 0)) ⟨w.heap.size, 4, none⟩ (.slice none 0 0) _ (by show w1.heap.size ≠ w.heap.size; have := HG.out; omega)))
  have RZ6 := Lib.hid (RZ5.out.keep (Below.heap_setCell (((((w4.setCell ⟨w.heap.size, 0, none⟩ (.string ⟨#[]⟩)).setCell ⟨w.heap.size, 1, none⟩ (.bool false)).setCell ⟨w.heap.size, 2, none⟩ (.int .i64 0)).setCell ⟨w.heap.size, 3, none⟩ (.slice none 0 0)).setCell ⟨w.heap.size, 4, none⟩ (.slice none 0 0)) ⟨w.heap.size, 5, none⟩ (.slice none 0 0) _ (by show w1.heap.size ≠ w.heap.size; have := HG.out; omega)))
  have RZ7 := Lib.hid (RZ6.out.keep (Below.heap_setCell ((((((w4.setCell ⟨w.heap.size, 0, none⟩ (.string ⟨#[]⟩)).setCell ⟨w.heap.size, 1, none⟩ (.bool false)).setCell ⟨w.heap.size, 2, none⟩ (.int .i64 0)).setCell ⟨w.heap.size, 3, none⟩ (.slice none 0 0)).setCell ⟨w.heap.size, 4, none⟩ (.slice none 0 0)).setCell ⟨w.heap.size, 5, none⟩ (.slice none 0 0)) ⟨w.heap.size, 6, none⟩ (.slice none 0 0) _ (by show w1.heap.size ≠ w.heap.size; have := HG.out; omega)))
  have RZc2 := RZ7.out.cell 2
  have RZc3 := RZ7.out.cell 3
  have OD0 : Hid (Ob w4.drew w.heap.size 28 #[.string ⟨#[]⟩, .bool false, .int .i64 0, .slice none 0 0, .slice none 0 0, .slice none 0 0, .slice none 0 0]) := Lib.hid O5.out
  have BD0 : Hid (Below w.heap.size w w4.drew) := Lib.hid (below_drewN HB5.out 1)
  have yc0 := OD0.out.cell 0
  have yf0 := OD0.out.frozen 0
  have OY1 : Hid (Ob (w4.drew.setCell ⟨w.heap.size, 0, none⟩ (.string ⟨#[]⟩)) (w.heap.size) 28 #[.string ⟨#[]⟩, .bool false, .int .i64 0, .slice none 0 0, .slice none 0 0, .slice none 0 0, .slice none 0 0]) := Lib.hid (by have := OD0.out.put 0 (.string ⟨#[]⟩); simpa using this)
  have BY1 := Lib.hid (BD0.out.setCell (p := ⟨w.heap.size, 0, none⟩) (Nat.le_refl _) (.string ⟨#[]⟩))
  have yc1 := OY1.out.cell 1
  have yf1 := OY1.out.frozen 1
  have OY2 : Hid (Ob ((w4.drew.setCell ⟨w.heap.size, 0, none⟩ (.string ⟨#[]⟩)).setCell ⟨w.heap.size, 1, none⟩ (.bool false)) (w.heap.size) 28 #[.string ⟨#[]⟩, .bool false, .int .i64 0, .slice none 0 0, .slice none 0 0, .slice none 0 0, .slice none 0 0]) := Lib.hid (by have := OY1.out.put 1 (.bool false); simpa using this)
  have BY2 := Lib.hid (BY1.out.setCell (p := ⟨w.heap.size, 1, none⟩) (Nat.le_refl _) (.bool false))
  have yc2 := OY2.out.cell 2
  have yf2 := OY2.out.frozen 2
  have OY3 : Hid (Ob (((w4.drew.setCell ⟨w.heap.size, 0, none⟩ (.string ⟨#[]⟩)).setCell ⟨w.heap.size, 1, none⟩ (.bool false)).setCell ⟨w.heap.size, 2, none⟩ (.int .i64 0)) (w.heap.size) 28 #[.string ⟨#[]⟩, .bool false, .int .i64 0, .slice none 0 0, .slice none 0 0, .slice none 0 0, .slice none 0 0]) := Lib.hid (by have := OY2.out.put 2 (.int .i64 0); simpa using this)
  have BY3 := Lib.hid (BY2.out.setCell (p := ⟨w.heap.size, 2, none⟩) (Nat.le_refl _) (.int .i64 0))
  have yc3 := OY3.out.cell 3
  have yf3 := OY3.out.frozen 3
  have OY4 : Hid (Ob ((((w4.drew.setCell ⟨w.heap.size, 0, none⟩ (.string ⟨#[]⟩)).setCell ⟨w.heap.size, 1, none⟩ (.bool false)).setCell ⟨w.heap.size, 2, none⟩ (.int .i64 0)).setCell ⟨w.heap.size, 3, none⟩ (.slice none 0 0)) (w.heap.size) 28 #[.string ⟨#[]⟩, .bool false, .int .i64 0, .slice none 0 0, .slice none 0 0, .slice none 0 0, .slice none 0 0]) := Lib.hid (by have := OY3.out.put 3 (.slice none 0 0); simpa using this)
  have BY4 := Lib.hid (BY3.out.setCell (p := ⟨w.heap.size, 3, none⟩) (Nat.le_refl _) (.slice none 0 0))
  have yc4 := OY4.out.cell 4
  have yf4 := OY4.out.frozen 4
  have OY5 : Hid (Ob (((((w4.drew.setCell ⟨w.heap.size, 0, none⟩ (.string ⟨#[]⟩)).setCell ⟨w.heap.size, 1, none⟩ (.bool false)).setCell ⟨w.heap.size, 2, none⟩ (.int .i64 0)).setCell ⟨w.heap.size, 3, none⟩ (.slice none 0 0)).setCell ⟨w.heap.size, 4, none⟩ (.slice none 0 0)) (w.heap.size) 28 #[.string ⟨#[]⟩, .bool false, .int .i64 0, .slice none 0 0, .slice none 0 0, .slice none 0 0, .slice none 0 0]) := Lib.hid (by have := OY4.out.put 4 (.slice none 0 0); simpa using this)
  have BY5 := Lib.hid (BY4.out.setCell (p := ⟨w.heap.size, 4, none⟩) (Nat.le_refl _) (.slice none 0 0))
  have yc5 := OY5.out.cell 5
  have yf5 := OY5.out.frozen 5
  have OY6 : Hid (Ob ((((((w4.drew.setCell ⟨w.heap.size, 0, none⟩ (.string ⟨#[]⟩)).setCell ⟨w.heap.size, 1, none⟩ (.bool false)).setCell ⟨w.heap.size, 2, none⟩ (.int .i64 0)).setCell ⟨w.heap.size, 3, none⟩ (.slice none 0 0)).setCell ⟨w.heap.size, 4, none⟩ (.slice none 0 0)).setCell ⟨w.heap.size, 5, none⟩ (.slice none 0 0)) (w.heap.size) 28 #[.string ⟨#[]⟩, .bool false, .int .i64 0, .slice none 0 0, .slice none 0 0, .slice none 0 0, .slice none 0 0]) := Lib.hid (by have := OY5.out.put 5 (.slice none 0 0); simpa using this)
  have BY6 := Lib.hid (BY5.out.setCell (p := ⟨w.heap.size, 5, none⟩) (Nat.le_refl _) (.slice none 0 0))
  have yc6 := OY6.out.cell 6
  have yf6 := OY6.out.frozen 6
  have OY7 : Hid (Ob (((((((w4.drew.setCell ⟨w.heap.size, 0, none⟩ (.string ⟨#[]⟩)).setCell ⟨w.heap.size, 1, none⟩ (.bool false)).setCell ⟨w.heap.size, 2, none⟩ (.int .i64 0)).setCell ⟨w.heap.size, 3, none⟩ (.slice none 0 0)).setCell ⟨w.heap.size, 4, none⟩ (.slice none 0 0)).setCell ⟨w.heap.size, 5, none⟩ (.slice none 0 0)).setCell ⟨w.heap.size, 6, none⟩ (.slice none 0 0)) (w.heap.size) 28 #[.string ⟨#[]⟩, .bool false, .int .i64 0, .slice none 0 0, .slice none 0 0, .slice none 0 0, .slice none 0 0]) := Lib.hid (by have := OY6.out.put 6 (.slice none 0 0); simpa using this)
  have BY7 := Lib.hid (BY6.out.setCell (p := ⟨w.heap.size, 6, none⟩) (Nat.le_refl _) (.slice none 0 0))
  have RD0 : Hid (Ob w4.drew w1.heap.size 129 #[.slice (some ⟨b0, o0, none⟩) n0 c0, .int .i64 (z.met : Int), .int .i64 z.err, .int .i64 z.at_]) := Lib.hid R5.out
  have RY1 := Lib.hid (RD0.out.keep (Below.heap_setCell w4.drew ⟨w.heap.size, 0, none⟩ (.string ⟨#[]⟩) _ (by show w1.heap.size ≠ w.heap.size; have := HG.out; omega)))
  have RY2 := Lib.hid (RY1.out.keep (Below.heap_setCell (w4.drew.setCell ⟨w.heap.size, 0, none⟩ (.string ⟨#[]⟩)) ⟨w.heap.size, 1, none⟩ (.bool false) _ (by show w1.heap.size ≠ w.heap.size; have := HG.out; omega)))
  have RY3 := Lib.hid (RY2.out.keep (Below.heap_setCell ((w4.drew.setCell ⟨w.heap.size, 0, none⟩ (.string ⟨#[]⟩)).setCell ⟨w.heap.size, 1, none⟩ (.bool false)) ⟨w.heap.size, 2, none⟩ (.int .i64 0) _ (by show w1.heap.size ≠ w.heap.size; have := HG.out; omega)))
  have RY4 := Lib.hid (RY3.out.keep (Below.heap_setCell (((w4.drew.setCell ⟨w.heap.size, 0, none⟩ (.string ⟨#[]⟩)).setCell ⟨w.heap.size, 1, none⟩ (.bool false)).setCell ⟨w.heap.size, 2, none⟩ (.int .i64 0)) ⟨w.heap.size, 3, none⟩ (.slice none 0 0) _ (by show w1.heap.size ≠ w.heap.size; have := HG.out; omega)))
  have RY5 := Lib.hid (RY4.out.keep (Below.heap_setCell ((((w4.drew.setCell ⟨w.heap.size, 0, none⟩ (.string ⟨#[]⟩)).setCell ⟨w.heap.size, 1, none⟩ (.bool false)).setCell ⟨w.heap.size, 2, none⟩ (.int .i64 0)).setCell ⟨w.heap.size, 3, none⟩ (.slice none 0 0)) ⟨w.heap.size, 4, none⟩ (.slice none 0 0) _ (by show w1.heap.size ≠ w.heap.size; have := HG.out; omega)))
  have RY6 := Lib.hid (RY5.out.keep (Below.heap_setCell (((((w4.drew.setCell ⟨w.heap.size, 0, none⟩ (.string ⟨#[]⟩)).setCell ⟨w.heap.size, 1, none⟩ (.bool false)).setCell ⟨w.heap.size, 2, none⟩ (.int .i64 0)).setCell ⟨w.heap.size, 3, none⟩ (.slice none 0 0)).setCell ⟨w.heap.size, 4, none⟩ (.slice none 0 0)) ⟨w.heap.size, 5, none⟩ (.slice none 0 0) _ (by show w1.heap.size ≠ w.heap.size; have := HG.out; omega)))
  have RY7 := Lib.hid (RY6.out.keep (Below.heap_setCell ((((((w4.drew.setCell ⟨w.heap.size, 0, none⟩ (.string ⟨#[]⟩)).setCell ⟨w.heap.size, 1, none⟩ (.bool false)).setCell ⟨w.heap.size, 2, none⟩ (.int .i64 0)).setCell ⟨w.heap.size, 3, none⟩ (.slice none 0 0)).setCell ⟨w.heap.size, 4, none⟩ (.slice none 0 0)).setCell ⟨w.heap.size, 5, none⟩ (.slice none 0 0)) ⟨w.heap.size, 6, none⟩ (.slice none 0 0) _ (by show w1.heap.size ≠ w.heap.size; have := HG.out; omega)))
  have RYc2 := RY7.out.cell 2
  have RYc3 := RY7.out.cell 3
  have q2d : w4.drew.cell? ⟨w1.heap.size, 2, none⟩ = some (.int .i64 z.err) := q2
  have q3d : w4.drew.cell? ⟨w1.heap.size, 3, none⟩ = some (.int .i64 z.at_) := q3
  go_region
  have OF := Lib.hid (Ob.drew9 OZ7.out)
  have BF : Hid (Below w.heap.size w ((((((((w4.setCell ⟨w.heap.size, 0, none⟩ (.string ⟨#[]⟩)).setCell ⟨w.heap.size, 1, none⟩ (.bool false)).setCell ⟨w.heap.size, 2, none⟩ (.int .i64 0)).setCell ⟨w.heap.size, 3, none⟩ (.slice none 0 0)).setCell ⟨w.heap.size, 4, none⟩ (.slice none 0 0)).setCell ⟨w.heap.size, 5, none⟩ (.slice none 0 0)).setCell ⟨w.heap.size, 6, none⟩ (.slice none 0 0)).drew)) := Lib.hid (below_drewN BZ7.out 1)
  obtain ⟨w9, hw9⟩ : ∃ w9, w9 = (((((((w4.setCell ⟨w.heap.size, 0, none⟩ (.string ⟨#[]⟩)).setCell ⟨w.heap.size, 1, none⟩ (.bool false)).setCell ⟨w.heap.size, 2, none⟩ (.int .i64 0)).setCell ⟨w.heap.size, 3, none⟩ (.slice none 0 0)).setCell ⟨w.heap.size, 4, none⟩ (.slice none 0 0)).setCell ⟨w.heap.size, 5, none⟩ (.slice none 0 0)).setCell ⟨w.heap.size, 6, none⟩ (.slice none 0 0)).drew := ⟨_, rfl⟩
  rw [← hw9] at OF BF ⊢
  clear hw9
  go_wp2_with fail
  try simp only [Exit.inBlock, Exit.then]
  refine bodyPost_ret (policy_ret3 rfl rfl rfl rfl OF.out rfl) rfl ?_
  rw [← HF.out]
  exact ⟨_, rfl, BF.out, noPol_of _ _⟩

theorem parse_any (s : ByteArray) (hs : s.size ≤ maxLen) : Calls Tryz.prog 31 #[.string s] w (ParseP s w) := by
 by_cases h : 4096 < s.size
 ·exact parse_big s h hs
 ·cases hl : lexB s.data.toList 0 with
  | error p => exact parse_bad s (by omega) hl
  | ok ts => exact parse_ok s (by omega) hl
end
end Go.Proofs.YtmoglaknmlhpgaaGreatDoor
