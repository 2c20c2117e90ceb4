/- ParseWords: the walk. -/
import Derived.Test.YthppdgiobflfpaaParWordsW
import Derived.Test.YthppdgiobflfpaaParseRight
namespace Go.Proofs.Ythppdgiobflfpaa
set_option linter.unusedVariables false
open Go.RowKit Go.Sort

/-- The read policy's parts in memory. -/
theorem words_at {w : World} {R : Nat → Prop} {x c y d : ByteArray} {A1 A2 A3 A4 : Option Addr} {n1 n2 n3 n4 c1 c2 c3 c4 : Nat} (hp : PolAt w R 5 [.string (wordsP x c y d).id, .bool (wordsP x c y d).set, .int .i64 (wordsP x c y d).alg, .slice A1 n1 c1, .slice A2 n2 c2, .slice A3 n3 c3, .slice A4 n4 c4] (wordsP x c y d)) :
    ∃ b1 o1 b2 o2 b5 o5 e5 b6 o6 e6 b7 o7 e7, (A1 = some ⟨b1, o1, none⟩ ∧ n1 = 1) ∧ (A2 = some ⟨b2, o2, none⟩ ∧ n2 = 1) ∧ (1 ≤ c1 ∧ 1 ≤ c2 ∧ 1 ≤ e5 ∧ 1 ≤ e6 ∧ 1 ≤ e7) ∧
      w.cell? ⟨b1, o1, none⟩ = some (.slice (some ⟨b5, o5, none⟩) 1 e5) ∧ w.cell? ⟨b5, o5, none⟩ = some (.slice (some ⟨b6, o6, none⟩) 1 e6) ∧ w.cell? ⟨b6, o6 + 1, none⟩ = some (.string c) ∧
      w.cell? ⟨b2, o2, none⟩ = some (.string y) ∧ w.cell? ⟨b2, o2 + 1, none⟩ = some (.bool true) ∧ w.cell? ⟨b2, o2 + 4, none⟩ = some (.slice (some ⟨b7, o7, none⟩) 1 e7) ∧
      w.cell? ⟨b7, o7, none⟩ = some (.int .i64 2) ∧ w.cell? ⟨b7, o7 + 1, none⟩ = some (.int .i64 4) ∧ w.cell? ⟨b7, o7 + 2, none⟩ = some (.string d) := by
  obtain ⟨_, h1, h2, _, _⟩ := PolAt.in_ hp
  obtain rfl : n1 = 1 := (Rw.len h1).symm
  obtain rfl : n2 = 1 := (Rw.len h2).symm
  have l1 := Rw.le h1
  have l2 := Rw.le h2
  obtain ⟨b1, o1, t1, A5, n5, e5, rfl, _, _, ht1, k1, h5⟩ := Tg.at_ h1 (j := 0) (by omega)
  obtain rfl : [[⟨⟨3, c, false⟩, 1, ⟨2, 1, ⟨#[]⟩⟩⟩]] = t1 := Option.some.inj ht1
  obtain rfl : n5 = 1 := (Rw.len h5).symm
  have l5 := Rw.le h5
  obtain ⟨b5, o5, t5, A6, n6, e6, rfl, _, _, ht5, k5, h6⟩ := Als.at_ h5 (j := 0) (by omega)
  obtain rfl : [⟨⟨3, c, false⟩, 1, ⟨2, 1, ⟨#[]⟩⟩⟩] = t5 := Option.some.inj ht5
  obtain rfl : n6 = 1 := (Rw.len h6).symm
  have l6 := Rw.le h6
  obtain ⟨b6, o6, m6, rfl, _, _, hm6, _, _, k6, _⟩ := Ms.at_ h6 (j := 0) (by omega)
  obtain rfl : ⟨⟨3, c, false⟩, 1, ⟨2, 1, ⟨#[]⟩⟩⟩ = m6 := Option.some.inj hm6
  obtain ⟨b2, o2, r2, A8, m8, e8, A9, m9, e9, A7, n7, e7, rfl, _, _, hr2, _, ⟨r0, r1, _, _, r4⟩, _, _, h7⟩ := Rus.at_ h2 (j := 0) (by omega)
  obtain rfl : ⟨y, true, [], [], [⟨2, 4, d⟩]⟩ = r2 := Option.some.inj hr2
  obtain rfl : n7 = 1 := (Rw.len h7).symm
  have l7 := Rw.le h7
  obtain ⟨b7, o7, d7, rfl, _, _, hd7, _, q0, q1, q2⟩ := Dus.at_ h7 (j := 0) (by omega)
  obtain rfl : ⟨2, 4, d⟩ = d7 := Option.some.inj hd7
  simp only [Nat.zero_mul, Nat.add_zero] at k1 k5 k6 r0 r1 r4 q0 q1 q2
  exact ⟨b1, o1, b2, o2, b5, o5, e5, b6, o6, e6, b7, o7, e7, ⟨rfl, rfl⟩, ⟨rfl, rfl⟩, ⟨l1, l2, l5, l6, l7⟩, k1, k5, k6, r0, r1, r4, q0, q1, q2⟩
theorem word_q {n : Int} {u : ByteArray} (h : ∀ w : World, Calls Try.prog 14 #[.int .i64 n] w fun e w' => e = .returned (.string u) ∧ Below w.heap.size w w') (w : World) (d : Nat) (os : Array Obj) : Calls Try.prog 14 #[.int .i64 n] (grow (redrawn w d) os) fun e w'' => e = .returned (.string u) ∧ ∃ p : Regrown, w'' = grow (redrawn w p.d) p.os := Calls.regrown_of (h _)
theorem runs_q (w : World) (d : Nat) (os : Array Obj) : Calls Try.prog 3 #[] (grow (redrawn w d) os) fun e w'' => e = .returned (.bool true) ∧ ∃ p : Regrown, w'' = grow (redrawn w p.d) p.os := Calls.regrown_of (runs9_any _)
set_option maxRecDepth 100000 in
set_option maxHeartbeats 3200000 in
theorem parseWords_walk (a : Int) (ha : (Lit.int .i64 a).wf = true) (b : Int) (hb : (Lit.int .i64 b).wf = true) (c : Int) (hc : (Lit.int .i64 c).wf = true) (d0 : Int) (hd : (Lit.int .i64 d0).wf = true) (w : World) : Calls Try.prog 7 #[.int .i64 a, .int .i64 b, .int .i64 c, .int .i64 d0] w fun e w' => e = .returned (.bool true) ∧ Below w.heap.size w w' := by
  have WA := Lib.hid (fun w => word_any a w)
  have WB := Lib.hid (fun w => word_any b w)
  have WC := Lib.hid (fun w => word_any c w)
  have WD := Lib.hid (fun w => word_any d0 w)
  have NA := Lib.hid (wordsL_named _ (wordOf_mem a))
  have NB := Lib.hid (wordsL_named _ (wordOf_mem b))
  have NC := Lib.hid (wordsL_named _ (wordOf_mem c))
  have ND := Lib.hid (wordsL_named _ (wordOf_mem d0))
  generalize wordOf a = x at *
  generalize wordOf b = y0 at *
  generalize wordOf c = u at *
  generalize wordOf d0 = v at *
  have HQ : Hid (∀ (w : World) (s y : ByteArray), Named (bl y) → x ≠ y → y.size ≤ 8 → s.data.toList = wordsT (bl x) (bl u) (bl y) (bl v) → Calls Try.prog 10 #[.string s] w fun e w' => ∃ z, e = .returned (.tuple #[z, .int .i64 0, .int .i64 0]) ∧ Below w.heap.size w w' ∧ PolOf w w' 5 (wordsP x u y v) z) := fun w s y hy hne hyl hs => by
    have e : s.size = s.data.toList.length := rfl
    have e1 : (bl x).length = x.size := rfl
    have e2 : (bl u).length = u.size := rfl
    have e3 : (bl y).length = y.size := rfl
    have e4 : (bl v).length = v.size := rfl
    have h1 := NA.out.2.2
    have h2 := NC.out.2.2
    have h3 := ND.out.2.2
    have hl : s.size ≤ 4096 := by
      rw [e, hs]
      unfold wordsT
      simp only [List.length_append, List.length_cons, List.length_nil, e1, e2, e3, e4]
      omega
    exact parse_is (words_read NA.out.1 NC.out.1 hy ND.out.1 hne hl hs) (by unfold maxLen; omega)
  have S1 : x.size ≤ 7 := NA.out.2.2
  have S2 : u.size ≤ 7 := NC.out.2.2
  have S3 : v.size ≤ 7 := ND.out.2.2
  have S4 : y0.size ≤ 7 := NB.out.2.2
  go_enter Try.func7, Try.ntmps7
  go_wp2_with fail
  go_at_call 14
  refine (WA.out _).mono ?_
  rintro e w1 ⟨rfl, hb1⟩
  have B1 := Lib.hid hb1
  clear hb1
  go_wp2_with fail
  go_at_call 14
  refine (WB.out _).mono ?_
  rintro e w2 ⟨rfl, hb2⟩
  have B2 := Lib.hid (below_step B1.out hb2)
  clear hb2
  have hy95 : (9223372036854775807 < y0.size + 1) = False := eq_false (by omega)
  by_cases hxy : x = y0
  case' pos =>
    have hq : (x.toList == y0.toList) = true := by rw [hxy]; exact str_self y0
    have HYY : Hid (∃ y : ByteArray, y = y0 ++ ⟨#[95]⟩ ∧ Named (bl y) ∧ x ≠ y ∧ y.size ≤ 8) := ⟨_, rfl, NB.out.2.1, by rw [hxy]; exact word_ne y0, by rw [ByteArray.size_append]; have : (⟨#[95]⟩ : ByteArray).size = 1 := rfl; omega⟩
  case' neg =>
    have hq : (x.toList == y0.toList) = false := str_other hxy
    have HYY : Hid (∃ y : ByteArray, y = y0 ∧ Named (bl y) ∧ x ≠ y ∧ y.size ≤ 8) := ⟨_, rfl, NB.out.1, hxy, by omega⟩
  all_goals
    obtain ⟨y, hy, hyn, hyne, S5⟩ := HYY.out
    clear hxy HYY
    have HYN := Lib.hid (And.intro hyn hyne)
    clear hyn hyne
    go_upto_region 5 with fail
    rw [← hy]
    clear hy hq
    have x1 : (9223372036854775807 < 7 + x.size) = False := eq_false (by omega)
    have x2 : (9223372036854775807 < 7 + x.size + 18) = False := eq_false (by omega)
    have x3 : (9223372036854775807 < 7 + x.size + 18 + u.size) = False := eq_false (by omega)
    have x4 : (9223372036854775807 < 7 + x.size + 18 + u.size + 13) = False := eq_false (by omega)
    have x5 : (9223372036854775807 < 7 + x.size + 18 + u.size + 13 + y.size) = False := eq_false (by omega)
    have x6 : (9223372036854775807 < 7 + x.size + 18 + u.size + 13 + y.size + 16) = False := eq_false (by omega)
    have x7 : (9223372036854775807 < 7 + x.size + 18 + u.size + 13 + y.size + 16 + v.size) = False := eq_false (by omega)
    have x8 : (9223372036854775807 < 7 + x.size + 18 + u.size + 13 + y.size + 16 + v.size + 3) = False := eq_false (by omega)
    go_wp2_with fail
    go_at_call 14
    refine (WC.out _).mono ?_
    rintro e w3 ⟨rfl, hb3⟩
    have B3 := Lib.hid (below_step B2.out hb3)
    clear hb3
    go_wp2_with fail
    go_at_call 14
    refine (WD.out _).mono ?_
    rintro e w4 ⟨rfl, hb4⟩
    have B4 := Lib.hid (below_step B3.out hb4)
    clear hb4
    go_wp2_with fail
    go_at_call 10
    refine (HQ.out _ _ y HYN.out.1 HYN.out.2 S5 (by simp [wordsT, bl])).mono ?_
    rintro e w5 ⟨z, rfl, hb5, A1, n1, c1, A2, n2, c2, A3, n3, c3, A4, n4, c4, hz, hp⟩
    obtain rfl : z = .agg #[.string x, .bool false, .int .i64 3, .slice A1 n1 c1, .slice A2 n2 c2, .slice A3 n3 c3, .slice A4 n4 c4] := hz
    obtain ⟨b1, o1, b2, o2, b5, o5, e5, b6, o6, e6, b7, o7, e7, ⟨rfl, rfl⟩, ⟨rfl, rfl⟩, ⟨l1, l2, l5, l6, l7⟩, k1, k5, k6, r0, r1, r4, q0, q1, q2⟩ := words_at hp
    have B5 := Lib.hid (below_step B4.out (hb5.alloc hb5.size (.cells #[.string x, .bool false, .int .i64 3, .slice (some ⟨b1, o1, none⟩) 1 c1, .slice (some ⟨b2, o2, none⟩) 1 c2, .slice A3 n3 c3, .slice A4 n4 c4] 28)))
    have ce : ∀ {p : Addr} {v : Value}, w5.cell? p = some v → (w5.alloc (.cells #[.string x, .bool false, .int .i64 3, .slice (some ⟨b1, o1, none⟩) 1 c1, .slice (some ⟨b2, o2, none⟩) 1 c2, .slice A3 n3 c3, .slice A4 n4 c4] 28)).cell? p = some v := fun h => ((al9 w5 (.cells #[.string x, .bool false, .int .i64 3, .slice (some ⟨b1, o1, none⟩) 1 c1, .slice (some ⟨b2, o2, none⟩) 1 c2, .slice A3 n3 c3, .slice A4 n4 c4] 28)).cell (block_lt_of_cell h)).trans h
    have f1 := ce k1
    have f2 := ce k5
    have f3 := ce k6
    have f4 := ce r0
    have f5 := ce r1
    have f6 := ce r4
    have f7 := ce q0
    have f8 := ce q1
    have f9 := ce q2
    have g0 := (Ob.made w5 28 #[.string x, .bool false, .int .i64 3, .slice (some ⟨b1, o1, none⟩) 1 c1, .slice (some ⟨b2, o2, none⟩) 1 c2, .slice A3 n3 c3, .slice A4 n4 c4]).cell 0
    have g3 := (Ob.made w5 28 #[.string x, .bool false, .int .i64 3, .slice (some ⟨b1, o1, none⟩) 1 c1, .slice (some ⟨b2, o2, none⟩) 1 c2, .slice A3 n3 c3, .slice A4 n4 c4]).cell 3
    have g4 := (Ob.made w5 28 #[.string x, .bool false, .int .i64 3, .slice (some ⟨b1, o1, none⟩) 1 c1, .slice (some ⟨b2, o2, none⟩) 1 c2, .slice A3 n3 c3, .slice A4 n4 c4]).cell 4
    clear hb5 hp k1 k5 k6 r0 r1 r4 q0 q1 q2 ce
    go_wp2_with fail
    generalize hW : w5.alloc (.cells #[.string x, .bool false, .int .i64 3, .slice (some ⟨b1, o1, none⟩) 1 c1, .slice (some ⟨b2, o2, none⟩) 1 c2, .slice A3 n3 c3, .slice A4 n4 c4] 28) = W5 at *
    have SZ : Hid (w5.heap.size < W5.heap.size) := by rw [← hW]; show _ < _; rw [size_al]; omega
    clear hW
    have QC : Hid (∀ d os, Calls Try.prog 14 #[.int .i64 c] (grow (redrawn W5 d) os) fun e w'' => e = .returned (.string u) ∧ ∃ p : Regrown, w'' = grow (redrawn W5 p.d) p.os) := word_q WC.out W5
    have QD : Hid (∀ d os, Calls Try.prog 14 #[.int .i64 d0] (grow (redrawn W5 d) os) fun e w'' => e = .returned (.string v) ∧ ∃ p : Regrown, w'' = grow (redrawn W5 p.d) p.os) := word_q WD.out W5
    have QR : Hid (∀ d os, Calls Try.prog 3 #[] (grow (redrawn W5 d) os) fun e w'' => e = .returned (.bool true) ∧ ∃ p : Regrown, w'' = grow (redrawn W5 p.d) p.os) := runs_q W5
    have F1 := fun d os => cell_regrown f1 d os
    have F2 := fun d os => cell_regrown f2 d os
    have F3 := fun d os => cell_regrown f3 d os
    have F4 := fun d os => cell_regrown f4 d os
    have F5 := fun d os => cell_regrown f5 d os
    have F6 := fun d os => cell_regrown f6 d os
    have F7 := fun d os => cell_regrown f7 d os
    have F8 := fun d os => cell_regrown f8 d os
    have F9 := fun d os => cell_regrown f9 d os
    have G0 := fun d os => cell_regrown g0 d os
    have G3 := fun d os => cell_regrown g3 d os
    have G4 := fun d os => cell_regrown g4 d os
    have s1 := str_self x
    have s2 := str_self y
    have s3 := str_self u
    have hve := fun w => dut_eq ⟨2, 4, v⟩ ⟨2, 4, v⟩ w
    simp only [decide_true] at hve
    clear f1 f2 f3 f4 f5 f6 f7 f8 f9 g0 g3 g4
    refine wp_region_quiet_below (by kernel_rfl) (by kernel_rfl) ?_
    repeat (go_big_quiet_step ((first
      | (go_at_call 14; (with_reducible exact QC.out _ _))
      | (go_at_call 14; (with_reducible exact QD.out _ _))
      | (go_at_call 3; exact QR.out _ _))))
    refine wpQuiet_nil ?_
    intro _ hw'
    obtain ⟨⟨dq, osq⟩, hw''⟩ := hw'
    subst hw''
    have BQ := Lib.hid (below_regrown W5 dq osq)
    clear F1 F2 F3 F4 F5 F6 F7 F8 F9 G0 G3 G4 QC QD QR
    generalize grow (redrawn W5 dq) osq = w9 at *
    go_wp2_with fail
    go_ret
    exact ⟨rfl, below_step B5.out BQ.out⟩
end Go.Proofs.Ythppdgiobflfpaa
