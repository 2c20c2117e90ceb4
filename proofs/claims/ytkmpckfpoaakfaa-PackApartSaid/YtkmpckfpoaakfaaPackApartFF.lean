/- PackApart: the walk where the numbers differ and the texts differ. -/
import Derived.Test.YtkmpckfpoaakfaaPackApartA
namespace Go.Proofs.Ytkmpckfpoaakfaa
set_option linter.unusedVariables false
open Go.RowKit Go.Sort

set_option maxHeartbeats 30000000 in
set_option maxRecDepth 100000 in
theorem packApart_FF (m : Int) (m1 : -9223372036854775808 ≤ m) (m2 : m ≤ 9223372036854775807) (n : Int) (n1 : -9223372036854775808 ≤ n) (n2 : n ≤ 9223372036854775807) (s : ByteArray) (hs : s.size ≤ maxLen) (t : ByteArray) (ht : t.size ≤ maxLen) (w : World) (hmn : m ≠ n) (hst : cut100 s ≠ cut100 t) :
    Calls Try.prog 7 #[.int .i64 m, .int .i64 n, .string s, .string t] w fun e w' => e = .returned (.bool true) ∧ Below w.heap.size w w' := by
  unfold maxLen at hs ht
  have HMN := Lib.hid hmn
  have HST0 := Lib.hid hst
  clear hmn hst
  go_enter Try.func7, Try.ntmps7
  go_upto_region 1 with fail
  go_cut [2, 3] (fun u v wx => ∃ (k : Nat), u = .string (cut100 s) ∧ v = .string (cut100 t) ∧ wx = w.drewN k)
  case first =>
    go_quiet (fail)
    go_wp2_with fail
    all_goals go_meet
    all_goals refine ⟨_, ?_, ?_, rfl⟩
    all_goals first | (rw [c100_s (by omega)]; done) | (rw [c100_b (by omega)]; done)
  case rest =>
    obtain ⟨k, rfl, rfl, rfl⟩ := hcut
    have hS := c100_size s
    have hT := c100_size t
    have hst := HST0.out
    clear HST0
    generalize cut100 s = S at *
    generalize cut100 t = T at *
    have hSl : S.data.toList.length ≤ 100 := by rw [Array.length_toList]; exact hS
    have hTl : T.data.toList.length ≤ 100 := by rw [Array.length_toList]; exact hT
    have HST := Lib.hid hst
    clear hst
    have p1 := numB_pos m
    have p2 := numB_pos n
    have p3 : 0 < (textB S.data.toList).length := by unfold textB; rw [List.length_append]; have := numB_pos (S.data.toList.length : Int); omega
    have p4 : 0 < (textB T.data.toList).length := by unfold textB; rw [List.length_append]; have := numB_pos (T.data.toList.length : Int); omega
    have C1 := fun W => num_nil' W m m1 m2
    have C2 := fun W => num_nil' W n n1 n2
    have C3 := fun W => text_nil' W S hS
    have C4 := fun W => text_nil' W T hT
    generalize hla : (numB m).length = la at *
    generalize hlb : (numB n).length = lb at *
    generalize hlx : (textB S.data.toList).length = lx at *
    generalize hly : (textB T.data.toList).length = ly at *
    have C1 := Lib.hid C1
    have C2 := Lib.hid C2
    have C3 := Lib.hid C3
    have C4 := Lib.hid C4
    have LA := Lib.hid hla
    have LB := Lib.hid hlb
    have LX := Lib.hid hlx
    have LY := Lib.hid hly
    have MN : Hid (m ≠ n → ∀ kk, kk = la ∨ kk = lb → (numB m).take kk ≠ (numB n).take kk) := fun h kk hk => numB_free m1 m2 n1 n2 h (by rw [LA.out, LB.out]; exact hk)
    have ST : Hid (S ≠ T → ∀ kk, kk = lx ∨ kk = ly → (textB S.data.toList).take kk ≠ (textB T.data.toList).take kk) := fun h kk hk => textB_free hSl hTl (fun e => h (bytes_ext e)) (by rw [LX.out, LY.out]; exact hk)
    have IMN : Hid (numB m = numB n → m = n) := numB_inj m1 m2 n1 n2
    have IST : Hid (textB S.data.toList = textB T.data.toList → S = T) := fun h => bytes_ext (textB_inj hSl hTl h)
    have d1 : decide ((la : Int) < 1) = false := by simp; omega
    have d2 : decide ((lb : Int) < 1) = false := by simp; omega
    have d3 : decide ((lx : Int) < 1) = false := by simp; omega
    have d4 : decide ((ly : Int) < 1) = false := by simp; omega
    clear hla hlb hlx hly hSl hTl
    have E1 : Hid (decide (numB m = numB n) = false) := decide_eq_false (fun h => HMN.out (IMN.out h))
    have e2 : (m == n) = false := by simpa using HMN.out
    have E3 : Hid (decide (textB S.data.toList = textB T.data.toList) = false) := decide_eq_false (fun h => HST.out (IST.out h))
    have e4 := str_ne HST.out
    by_cases hab : la ≤ lb
    · by_cases hxy : lx ≤ ly
      · go_wp2_with fail
        refine (C1.out _).mono ?_
        rintro e wn ⟨A1, c1, rfl, hown, hb⟩
        have BN := Lib.hid ((below_drewN (Below.refl w.heap.size w) k).trans hb)
        have BB := Lib.hid BN.out
        clear BN
        have S1 := Lib.hid (Sl.of_own hown)
        clear hown
        have qS1 := S1.out.le
        clear hb
        go_wp2_with fail
        refine (C2.out _).mono ?_
        rintro e wn ⟨A2, c2, rfl, hown, hb⟩
        have BN := Lib.hid (below_step BB.out hb)
        have S1n := Lib.hid (S1.out.then_ hb)
        clear S1
        have S1 := Lib.hid S1n.out
        clear S1n
        clear BB
        have BB := Lib.hid BN.out
        clear BN
        have S2 := Lib.hid (Sl.of_own hown)
        clear hown
        have qS2 := S2.out.le
        clear hb
        go_wp2_with fail
        refine (C3.out _).mono ?_
        rintro e wn ⟨A3, c3, rfl, hown, hb⟩
        have BN := Lib.hid (below_step BB.out hb)
        have S1n := Lib.hid (S1.out.then_ hb)
        have S2n := Lib.hid (S2.out.then_ hb)
        clear S1 S2
        have S1 := Lib.hid S1n.out
        have S2 := Lib.hid S2n.out
        clear S1n S2n
        clear BB
        have BB := Lib.hid BN.out
        clear BN
        have S3 := Lib.hid (Sl.of_own hown)
        clear hown
        have qS3 := S3.out.le
        clear hb
        go_wp2_with fail
        refine (C4.out _).mono ?_
        rintro e wn ⟨A4, c4, rfl, hown, hb⟩
        have BN := Lib.hid (below_step BB.out hb)
        have S1n := Lib.hid (S1.out.then_ hb)
        have S2n := Lib.hid (S2.out.then_ hb)
        have S3n := Lib.hid (S3.out.then_ hb)
        clear S1 S2 S3
        have S1 := Lib.hid S1n.out
        have S2 := Lib.hid S2n.out
        have S3 := Lib.hid S3n.out
        clear S1n S2n S3n
        clear BB
        have BB := Lib.hid BN.out
        clear BN
        have S4 := Lib.hid (Sl.of_own hown)
        clear hown
        have qS4 := S4.out.le
        clear hb
        go_wp2_with fail
        refine (same_is false S1.out S2.out E1.out).mono ?_
        rintro e wn ⟨rfl, hb⟩
        have BN := Lib.hid (below_step BB.out hb)
        have S1n := Lib.hid (S1.out.then_ hb)
        have S2n := Lib.hid (S2.out.then_ hb)
        have S3n := Lib.hid (S3.out.then_ hb)
        have S4n := Lib.hid (S4.out.then_ hb)
        clear S1 S2 S3 S4
        have S1 := Lib.hid S1n.out
        have S2 := Lib.hid S2n.out
        have S3 := Lib.hid S3n.out
        have S4 := Lib.hid S4n.out
        clear S1n S2n S3n S4n
        clear BB
        have BB := Lib.hid BN.out
        clear BN
        clear hb
        go_wp2_with fail
        refine (same_is false S3.out S4.out E3.out).mono ?_
        rintro e wn ⟨rfl, hb⟩
        have BN := Lib.hid (below_step BB.out hb)
        have S1n := Lib.hid (S1.out.then_ hb)
        have S2n := Lib.hid (S2.out.then_ hb)
        have S3n := Lib.hid (S3.out.then_ hb)
        have S4n := Lib.hid (S4.out.then_ hb)
        clear S1 S2 S3 S4
        have S1 := Lib.hid S1n.out
        have S2 := Lib.hid S2n.out
        have S3 := Lib.hid S3n.out
        have S4 := Lib.hid S4n.out
        clear S1n S2n S3n S4n
        clear BB
        have BB := Lib.hid BN.out
        clear BN
        clear hb
        have r1 : (la : Int) ≤ (c1 : Int) := by omega
        have r2 : (la : Int) ≤ (c2 : Int) := by omega
        have r3 : (lx : Int) ≤ (c3 : Int) := by omega
        have r4 : (lx : Int) ≤ (c4 : Int) := by omega
        have Q1 : Hid (∀ d os, Calls Try.prog 14 #[.slice A1 la c1, .slice A2 la c2] (grow (redrawn wn d) os) fun e w'' => e = .returned (.bool false) ∧ ∃ p : Regrown, w'' = grow (redrawn wn p.d) p.os) := fun d os => Calls.regrown_of
          (same_is false (by rw [bv_take]; exact (S1.out.below (below_regrown wn d os)).take (by omega)) (by rw [bv_take]; exact (S2.out.below (below_regrown wn d os)).take (by omega)) (decide_eq_false (MN.out HMN.out la (by omega))))
        have Q2 : Hid (∀ d os, Calls Try.prog 14 #[.slice A3 lx c3, .slice A4 lx c4] (grow (redrawn wn d) os) fun e w'' => e = .returned (.bool false) ∧ ∃ p : Regrown, w'' = grow (redrawn wn p.d) p.os) := fun d os => Calls.regrown_of
          (same_is false (by rw [bv_take]; exact (S3.out.below (below_regrown wn d os)).take (by omega)) (by rw [bv_take]; exact (S4.out.below (below_regrown wn d os)).take (by omega)) (decide_eq_false (ST.out HST.out lx (by omega))))
        have QR : Hid (∀ d os, Calls Try.prog 3 #[] (grow (redrawn wn d) os) fun e w'' => e = .returned (.bool true) ∧ ∃ p : Regrown, w'' = grow (redrawn wn p.d) p.os) := fun d os => Calls.regrown_of (runs_any _)
        go_wp2_with fail
        refine wp_region_quiet_below (by kernel_rfl) (by kernel_rfl) ?_
        repeat (go_big_quiet_step ((first | (go_at_call 14; with_reducible exact Q1.out _ _) | (go_at_call 14; with_reducible exact Q2.out _ _) | (go_at_call 3; exact QR.out _ _))))
        refine wpQuiet_nil ?_
        intro _ hw'
        obtain ⟨⟨dq, osq⟩, hw''⟩ := hw'
        subst hw''
        go_wp2_with fail
        go_ret
        exact ⟨rfl, below_step BB.out (below_regrown wn dq osq)⟩
      · go_wp2_with fail
        refine (C1.out _).mono ?_
        rintro e wn ⟨A1, c1, rfl, hown, hb⟩
        have BN := Lib.hid ((below_drewN (Below.refl w.heap.size w) k).trans hb)
        have BB := Lib.hid BN.out
        clear BN
        have S1 := Lib.hid (Sl.of_own hown)
        clear hown
        have qS1 := S1.out.le
        clear hb
        go_wp2_with fail
        refine (C2.out _).mono ?_
        rintro e wn ⟨A2, c2, rfl, hown, hb⟩
        have BN := Lib.hid (below_step BB.out hb)
        have S1n := Lib.hid (S1.out.then_ hb)
        clear S1
        have S1 := Lib.hid S1n.out
        clear S1n
        clear BB
        have BB := Lib.hid BN.out
        clear BN
        have S2 := Lib.hid (Sl.of_own hown)
        clear hown
        have qS2 := S2.out.le
        clear hb
        go_wp2_with fail
        refine (C3.out _).mono ?_
        rintro e wn ⟨A3, c3, rfl, hown, hb⟩
        have BN := Lib.hid (below_step BB.out hb)
        have S1n := Lib.hid (S1.out.then_ hb)
        have S2n := Lib.hid (S2.out.then_ hb)
        clear S1 S2
        have S1 := Lib.hid S1n.out
        have S2 := Lib.hid S2n.out
        clear S1n S2n
        clear BB
        have BB := Lib.hid BN.out
        clear BN
        have S3 := Lib.hid (Sl.of_own hown)
        clear hown
        have qS3 := S3.out.le
        clear hb
        go_wp2_with fail
        refine (C4.out _).mono ?_
        rintro e wn ⟨A4, c4, rfl, hown, hb⟩
        have BN := Lib.hid (below_step BB.out hb)
        have S1n := Lib.hid (S1.out.then_ hb)
        have S2n := Lib.hid (S2.out.then_ hb)
        have S3n := Lib.hid (S3.out.then_ hb)
        clear S1 S2 S3
        have S1 := Lib.hid S1n.out
        have S2 := Lib.hid S2n.out
        have S3 := Lib.hid S3n.out
        clear S1n S2n S3n
        clear BB
        have BB := Lib.hid BN.out
        clear BN
        have S4 := Lib.hid (Sl.of_own hown)
        clear hown
        have qS4 := S4.out.le
        clear hb
        go_wp2_with fail
        refine (same_is false S1.out S2.out E1.out).mono ?_
        rintro e wn ⟨rfl, hb⟩
        have BN := Lib.hid (below_step BB.out hb)
        have S1n := Lib.hid (S1.out.then_ hb)
        have S2n := Lib.hid (S2.out.then_ hb)
        have S3n := Lib.hid (S3.out.then_ hb)
        have S4n := Lib.hid (S4.out.then_ hb)
        clear S1 S2 S3 S4
        have S1 := Lib.hid S1n.out
        have S2 := Lib.hid S2n.out
        have S3 := Lib.hid S3n.out
        have S4 := Lib.hid S4n.out
        clear S1n S2n S3n S4n
        clear BB
        have BB := Lib.hid BN.out
        clear BN
        clear hb
        go_wp2_with fail
        refine (same_is false S3.out S4.out E3.out).mono ?_
        rintro e wn ⟨rfl, hb⟩
        have BN := Lib.hid (below_step BB.out hb)
        have S1n := Lib.hid (S1.out.then_ hb)
        have S2n := Lib.hid (S2.out.then_ hb)
        have S3n := Lib.hid (S3.out.then_ hb)
        have S4n := Lib.hid (S4.out.then_ hb)
        clear S1 S2 S3 S4
        have S1 := Lib.hid S1n.out
        have S2 := Lib.hid S2n.out
        have S3 := Lib.hid S3n.out
        have S4 := Lib.hid S4n.out
        clear S1n S2n S3n S4n
        clear BB
        have BB := Lib.hid BN.out
        clear BN
        clear hb
        have r1 : (la : Int) ≤ (c1 : Int) := by omega
        have r2 : (la : Int) ≤ (c2 : Int) := by omega
        have r3 : (ly : Int) ≤ (c3 : Int) := by omega
        have r4 : (ly : Int) ≤ (c4 : Int) := by omega
        have Q1 : Hid (∀ d os, Calls Try.prog 14 #[.slice A1 la c1, .slice A2 la c2] (grow (redrawn wn d) os) fun e w'' => e = .returned (.bool false) ∧ ∃ p : Regrown, w'' = grow (redrawn wn p.d) p.os) := fun d os => Calls.regrown_of
          (same_is false (by rw [bv_take]; exact (S1.out.below (below_regrown wn d os)).take (by omega)) (by rw [bv_take]; exact (S2.out.below (below_regrown wn d os)).take (by omega)) (decide_eq_false (MN.out HMN.out la (by omega))))
        have Q2 : Hid (∀ d os, Calls Try.prog 14 #[.slice A3 ly c3, .slice A4 ly c4] (grow (redrawn wn d) os) fun e w'' => e = .returned (.bool false) ∧ ∃ p : Regrown, w'' = grow (redrawn wn p.d) p.os) := fun d os => Calls.regrown_of
          (same_is false (by rw [bv_take]; exact (S3.out.below (below_regrown wn d os)).take (by omega)) (by rw [bv_take]; exact (S4.out.below (below_regrown wn d os)).take (by omega)) (decide_eq_false (ST.out HST.out ly (by omega))))
        have QR : Hid (∀ d os, Calls Try.prog 3 #[] (grow (redrawn wn d) os) fun e w'' => e = .returned (.bool true) ∧ ∃ p : Regrown, w'' = grow (redrawn wn p.d) p.os) := fun d os => Calls.regrown_of (runs_any _)
        go_wp2_with fail
        refine wp_region_quiet_below (by kernel_rfl) (by kernel_rfl) ?_
        repeat (go_big_quiet_step ((first | (go_at_call 14; with_reducible exact Q1.out _ _) | (go_at_call 14; with_reducible exact Q2.out _ _) | (go_at_call 3; exact QR.out _ _))))
        refine wpQuiet_nil ?_
        intro _ hw'
        obtain ⟨⟨dq, osq⟩, hw''⟩ := hw'
        subst hw''
        go_wp2_with fail
        go_ret
        exact ⟨rfl, below_step BB.out (below_regrown wn dq osq)⟩
    · by_cases hxy : lx ≤ ly
      · go_wp2_with fail
        refine (C1.out _).mono ?_
        rintro e wn ⟨A1, c1, rfl, hown, hb⟩
        have BN := Lib.hid ((below_drewN (Below.refl w.heap.size w) k).trans hb)
        have BB := Lib.hid BN.out
        clear BN
        have S1 := Lib.hid (Sl.of_own hown)
        clear hown
        have qS1 := S1.out.le
        clear hb
        go_wp2_with fail
        refine (C2.out _).mono ?_
        rintro e wn ⟨A2, c2, rfl, hown, hb⟩
        have BN := Lib.hid (below_step BB.out hb)
        have S1n := Lib.hid (S1.out.then_ hb)
        clear S1
        have S1 := Lib.hid S1n.out
        clear S1n
        clear BB
        have BB := Lib.hid BN.out
        clear BN
        have S2 := Lib.hid (Sl.of_own hown)
        clear hown
        have qS2 := S2.out.le
        clear hb
        go_wp2_with fail
        refine (C3.out _).mono ?_
        rintro e wn ⟨A3, c3, rfl, hown, hb⟩
        have BN := Lib.hid (below_step BB.out hb)
        have S1n := Lib.hid (S1.out.then_ hb)
        have S2n := Lib.hid (S2.out.then_ hb)
        clear S1 S2
        have S1 := Lib.hid S1n.out
        have S2 := Lib.hid S2n.out
        clear S1n S2n
        clear BB
        have BB := Lib.hid BN.out
        clear BN
        have S3 := Lib.hid (Sl.of_own hown)
        clear hown
        have qS3 := S3.out.le
        clear hb
        go_wp2_with fail
        refine (C4.out _).mono ?_
        rintro e wn ⟨A4, c4, rfl, hown, hb⟩
        have BN := Lib.hid (below_step BB.out hb)
        have S1n := Lib.hid (S1.out.then_ hb)
        have S2n := Lib.hid (S2.out.then_ hb)
        have S3n := Lib.hid (S3.out.then_ hb)
        clear S1 S2 S3
        have S1 := Lib.hid S1n.out
        have S2 := Lib.hid S2n.out
        have S3 := Lib.hid S3n.out
        clear S1n S2n S3n
        clear BB
        have BB := Lib.hid BN.out
        clear BN
        have S4 := Lib.hid (Sl.of_own hown)
        clear hown
        have qS4 := S4.out.le
        clear hb
        go_wp2_with fail
        refine (same_is false S1.out S2.out E1.out).mono ?_
        rintro e wn ⟨rfl, hb⟩
        have BN := Lib.hid (below_step BB.out hb)
        have S1n := Lib.hid (S1.out.then_ hb)
        have S2n := Lib.hid (S2.out.then_ hb)
        have S3n := Lib.hid (S3.out.then_ hb)
        have S4n := Lib.hid (S4.out.then_ hb)
        clear S1 S2 S3 S4
        have S1 := Lib.hid S1n.out
        have S2 := Lib.hid S2n.out
        have S3 := Lib.hid S3n.out
        have S4 := Lib.hid S4n.out
        clear S1n S2n S3n S4n
        clear BB
        have BB := Lib.hid BN.out
        clear BN
        clear hb
        go_wp2_with fail
        refine (same_is false S3.out S4.out E3.out).mono ?_
        rintro e wn ⟨rfl, hb⟩
        have BN := Lib.hid (below_step BB.out hb)
        have S1n := Lib.hid (S1.out.then_ hb)
        have S2n := Lib.hid (S2.out.then_ hb)
        have S3n := Lib.hid (S3.out.then_ hb)
        have S4n := Lib.hid (S4.out.then_ hb)
        clear S1 S2 S3 S4
        have S1 := Lib.hid S1n.out
        have S2 := Lib.hid S2n.out
        have S3 := Lib.hid S3n.out
        have S4 := Lib.hid S4n.out
        clear S1n S2n S3n S4n
        clear BB
        have BB := Lib.hid BN.out
        clear BN
        clear hb
        have r1 : (lb : Int) ≤ (c1 : Int) := by omega
        have r2 : (lb : Int) ≤ (c2 : Int) := by omega
        have r3 : (lx : Int) ≤ (c3 : Int) := by omega
        have r4 : (lx : Int) ≤ (c4 : Int) := by omega
        have Q1 : Hid (∀ d os, Calls Try.prog 14 #[.slice A1 lb c1, .slice A2 lb c2] (grow (redrawn wn d) os) fun e w'' => e = .returned (.bool false) ∧ ∃ p : Regrown, w'' = grow (redrawn wn p.d) p.os) := fun d os => Calls.regrown_of
          (same_is false (by rw [bv_take]; exact (S1.out.below (below_regrown wn d os)).take (by omega)) (by rw [bv_take]; exact (S2.out.below (below_regrown wn d os)).take (by omega)) (decide_eq_false (MN.out HMN.out lb (by omega))))
        have Q2 : Hid (∀ d os, Calls Try.prog 14 #[.slice A3 lx c3, .slice A4 lx c4] (grow (redrawn wn d) os) fun e w'' => e = .returned (.bool false) ∧ ∃ p : Regrown, w'' = grow (redrawn wn p.d) p.os) := fun d os => Calls.regrown_of
          (same_is false (by rw [bv_take]; exact (S3.out.below (below_regrown wn d os)).take (by omega)) (by rw [bv_take]; exact (S4.out.below (below_regrown wn d os)).take (by omega)) (decide_eq_false (ST.out HST.out lx (by omega))))
        have QR : Hid (∀ d os, Calls Try.prog 3 #[] (grow (redrawn wn d) os) fun e w'' => e = .returned (.bool true) ∧ ∃ p : Regrown, w'' = grow (redrawn wn p.d) p.os) := fun d os => Calls.regrown_of (runs_any _)
        go_wp2_with fail
        refine wp_region_quiet_below (by kernel_rfl) (by kernel_rfl) ?_
        repeat (go_big_quiet_step ((first | (go_at_call 14; with_reducible exact Q1.out _ _) | (go_at_call 14; with_reducible exact Q2.out _ _) | (go_at_call 3; exact QR.out _ _))))
        refine wpQuiet_nil ?_
        intro _ hw'
        obtain ⟨⟨dq, osq⟩, hw''⟩ := hw'
        subst hw''
        go_wp2_with fail
        go_ret
        exact ⟨rfl, below_step BB.out (below_regrown wn dq osq)⟩
      · go_wp2_with fail
        refine (C1.out _).mono ?_
        rintro e wn ⟨A1, c1, rfl, hown, hb⟩
        have BN := Lib.hid ((below_drewN (Below.refl w.heap.size w) k).trans hb)
        have BB := Lib.hid BN.out
        clear BN
        have S1 := Lib.hid (Sl.of_own hown)
        clear hown
        have qS1 := S1.out.le
        clear hb
        go_wp2_with fail
        refine (C2.out _).mono ?_
        rintro e wn ⟨A2, c2, rfl, hown, hb⟩
        have BN := Lib.hid (below_step BB.out hb)
        have S1n := Lib.hid (S1.out.then_ hb)
        clear S1
        have S1 := Lib.hid S1n.out
        clear S1n
        clear BB
        have BB := Lib.hid BN.out
        clear BN
        have S2 := Lib.hid (Sl.of_own hown)
        clear hown
        have qS2 := S2.out.le
        clear hb
        go_wp2_with fail
        refine (C3.out _).mono ?_
        rintro e wn ⟨A3, c3, rfl, hown, hb⟩
        have BN := Lib.hid (below_step BB.out hb)
        have S1n := Lib.hid (S1.out.then_ hb)
        have S2n := Lib.hid (S2.out.then_ hb)
        clear S1 S2
        have S1 := Lib.hid S1n.out
        have S2 := Lib.hid S2n.out
        clear S1n S2n
        clear BB
        have BB := Lib.hid BN.out
        clear BN
        have S3 := Lib.hid (Sl.of_own hown)
        clear hown
        have qS3 := S3.out.le
        clear hb
        go_wp2_with fail
        refine (C4.out _).mono ?_
        rintro e wn ⟨A4, c4, rfl, hown, hb⟩
        have BN := Lib.hid (below_step BB.out hb)
        have S1n := Lib.hid (S1.out.then_ hb)
        have S2n := Lib.hid (S2.out.then_ hb)
        have S3n := Lib.hid (S3.out.then_ hb)
        clear S1 S2 S3
        have S1 := Lib.hid S1n.out
        have S2 := Lib.hid S2n.out
        have S3 := Lib.hid S3n.out
        clear S1n S2n S3n
        clear BB
        have BB := Lib.hid BN.out
        clear BN
        have S4 := Lib.hid (Sl.of_own hown)
        clear hown
        have qS4 := S4.out.le
        clear hb
        go_wp2_with fail
        refine (same_is false S1.out S2.out E1.out).mono ?_
        rintro e wn ⟨rfl, hb⟩
        have BN := Lib.hid (below_step BB.out hb)
        have S1n := Lib.hid (S1.out.then_ hb)
        have S2n := Lib.hid (S2.out.then_ hb)
        have S3n := Lib.hid (S3.out.then_ hb)
        have S4n := Lib.hid (S4.out.then_ hb)
        clear S1 S2 S3 S4
        have S1 := Lib.hid S1n.out
        have S2 := Lib.hid S2n.out
        have S3 := Lib.hid S3n.out
        have S4 := Lib.hid S4n.out
        clear S1n S2n S3n S4n
        clear BB
        have BB := Lib.hid BN.out
        clear BN
        clear hb
        go_wp2_with fail
        refine (same_is false S3.out S4.out E3.out).mono ?_
        rintro e wn ⟨rfl, hb⟩
        have BN := Lib.hid (below_step BB.out hb)
        have S1n := Lib.hid (S1.out.then_ hb)
        have S2n := Lib.hid (S2.out.then_ hb)
        have S3n := Lib.hid (S3.out.then_ hb)
        have S4n := Lib.hid (S4.out.then_ hb)
        clear S1 S2 S3 S4
        have S1 := Lib.hid S1n.out
        have S2 := Lib.hid S2n.out
        have S3 := Lib.hid S3n.out
        have S4 := Lib.hid S4n.out
        clear S1n S2n S3n S4n
        clear BB
        have BB := Lib.hid BN.out
        clear BN
        clear hb
        have r1 : (lb : Int) ≤ (c1 : Int) := by omega
        have r2 : (lb : Int) ≤ (c2 : Int) := by omega
        have r3 : (ly : Int) ≤ (c3 : Int) := by omega
        have r4 : (ly : Int) ≤ (c4 : Int) := by omega
        have Q1 : Hid (∀ d os, Calls Try.prog 14 #[.slice A1 lb c1, .slice A2 lb c2] (grow (redrawn wn d) os) fun e w'' => e = .returned (.bool false) ∧ ∃ p : Regrown, w'' = grow (redrawn wn p.d) p.os) := fun d os => Calls.regrown_of
          (same_is false (by rw [bv_take]; exact (S1.out.below (below_regrown wn d os)).take (by omega)) (by rw [bv_take]; exact (S2.out.below (below_regrown wn d os)).take (by omega)) (decide_eq_false (MN.out HMN.out lb (by omega))))
        have Q2 : Hid (∀ d os, Calls Try.prog 14 #[.slice A3 ly c3, .slice A4 ly c4] (grow (redrawn wn d) os) fun e w'' => e = .returned (.bool false) ∧ ∃ p : Regrown, w'' = grow (redrawn wn p.d) p.os) := fun d os => Calls.regrown_of
          (same_is false (by rw [bv_take]; exact (S3.out.below (below_regrown wn d os)).take (by omega)) (by rw [bv_take]; exact (S4.out.below (below_regrown wn d os)).take (by omega)) (decide_eq_false (ST.out HST.out ly (by omega))))
        have QR : Hid (∀ d os, Calls Try.prog 3 #[] (grow (redrawn wn d) os) fun e w'' => e = .returned (.bool true) ∧ ∃ p : Regrown, w'' = grow (redrawn wn p.d) p.os) := fun d os => Calls.regrown_of (runs_any _)
        go_wp2_with fail
        refine wp_region_quiet_below (by kernel_rfl) (by kernel_rfl) ?_
        repeat (go_big_quiet_step ((first | (go_at_call 14; with_reducible exact Q1.out _ _) | (go_at_call 14; with_reducible exact Q2.out _ _) | (go_at_call 3; exact QR.out _ _))))
        refine wpQuiet_nil ?_
        intro _ hw'
        obtain ⟨⟨dq, osq⟩, hw''⟩ := hw'
        subst hw''
        go_wp2_with fail
        go_ret
        exact ⟨rfl, below_step BB.out (below_regrown wn dq osq)⟩
end Go.Proofs.Ytkmpckfpoaakfaa
