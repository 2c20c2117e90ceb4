/- How values stand: the project's Less and the reference's; the laws' two helpers. -/
import Derived.Test.YtjcegpakacedoaaVRight
import Derived.Test.YtjcegpakacedoaaVBox
namespace Go.Proofs.Ytjcegpakacedoaa
set_option linter.unusedVariables false
open Go.RowKit

theorem vright_any (v : Vl) (hs : v.s.size ≤ maxLen) (w : World) :
    Calls Try.prog 30 #[v.val] w fun e w' => e = .returned (.bool (decide v.right)) ∧ Below w.heap.size w w' := right_any v.k v.n v.s hs w
theorem vrefright_any (v : Vl) (hs : v.s.size ≤ maxLen) (w : World) :
    Calls Try.prog 27 #[v.val] w fun e w' => e = .returned (.bool (decide v.right)) ∧ Below w.heap.size w w' := refright_any v.k v.n v.s hs w

/-- P3.3. -/
def lessOf (a b : Vl) : Bool × Int :=
  if a.right ∧ b.right then
    if a.k ≠ b.k ∨ a.k = 1 then (false, 2)
    else if inT a.k = true then (Op.bytesLess a.l b.l, 0)
    else (decide (a.n < b.n), 0)
  else (false, 1)

theorem below_two {w a : World} {o p : Obj} (h1 : Below ((w.alloc o).alloc p).heap.size ((w.alloc o).alloc p) a) : Below w.heap.size w a := Below.lit (Below.lit h1)

theorem lessOf_eq (a b : Vl) : lessOf a b = if a.right ∧ b.right then
    if a.k ≠ b.k ∨ a.k = 1 then (false, 2)
    else if inT a.k = true then (Op.bytesLess a.l b.l, 0)
    else (decide (a.n < b.n), 0)
  else (false, 1) := rfl
theorem less_wrong {a b : Vl} (h : ¬ a.right ∨ ¬ b.right) : lessOf a b = (false, 1) := by rw [lessOf_eq, if_neg (fun hh => h.elim (fun h => h hh.1) (fun h => h hh.2))]
theorem less_type {a b : Vl} (h1 : a.right) (h2 : b.right) (h : a.k ≠ b.k ∨ a.k = 1) : lessOf a b = (false, 2) := by rw [lessOf_eq, if_pos ⟨h1, h2⟩, if_pos h]
theorem less_text {a b : Vl} (h1 : a.right) (h2 : b.right) (h : a.k = b.k) (h' : a.k ≠ 1) (h3 : inT a.k = true) : lessOf a b = (Op.bytesLess a.l b.l, 0) := by
  rw [lessOf_eq, if_pos ⟨h1, h2⟩, if_neg (fun hh => hh.elim (fun x => x h) h'), if_pos h3]
theorem less_num {a b : Vl} (h1 : a.right) (h2 : b.right) (h : a.k = b.k) (h' : a.k ≠ 1) (h3 : inT a.k = false) : lessOf a b = (decide (a.n < b.n), 0) := by
  rw [lessOf_eq, if_pos ⟨h1, h2⟩, if_neg (fun hh => hh.elim (fun x => x h) h'), if_neg (by rw [h3]; simp)]
theorem ret_two {a : Bool} {x : Int} {p : Bool × Int} (h : p = (a, x)) : Ending.returned (.tuple #[.bool a, .int .i64 x]) = .returned (.tuple #[.bool p.1, .int .i64 p.2]) := by rw [h]

set_option maxHeartbeats 3200000 in
theorem less_any (a b : Vl) (ha : a.s.size ≤ maxLen) (hb : b.s.size ≤ maxLen) (w : World) :
    Calls Try.prog 32 #[a.val, b.val] w fun e w' => e = .returned (.tuple #[.bool (lessOf a b).1, .int .i64 (lessOf a b).2]) ∧ Below w.heap.size w w' := by
  generalize hLo : lessOf a b = lo
  have HLO := Lib.hid hLo.symm
  have hla : a.s.toList = a.l := ByteArray.toList_eq a.s
  have hlb : b.s.toList = b.l := ByteArray.toList_eq b.s
  generalize hal : a.l = la at *
  generalize hbl : b.l = lb at *
  have HAL := Lib.hid hal
  have HBL := Lib.hid hbl
  clear hLo hal hbl
  obtain ⟨k, n, s⟩ := a
  obtain ⟨k', n', s'⟩ := b
  have ra := right_any k n s ha
  have rb := right_any k' n' s' hb
  show Calls _ _ #[.agg #[.int .i64 k, .int .i64 n, .string s], .agg #[.int .i64 k', .int .i64 n', .string s']] w _
  dsimp only at hla hlb
  clear ha hb
  by_cases h1 : RightV k n s.data.toList
  · rw [decide_eq_true h1] at ra
    have H1 : Hid (Vl.right ⟨k, n, s⟩) := h1
    have RA := Lib.hid ra
    clear h1 ra
    by_cases h2 : RightV k' n' s'.data.toList
    · rw [decide_eq_true h2] at rb
      have H2 : Hid (Vl.right ⟨k', n', s'⟩) := h2
      have RB := Lib.hid rb
      clear h2 rb
      go_enter Try.func32, Try.ntmps32
      go_wp2_with fail
      refine (RA.out _).mono ?_
      rintro e w1 ⟨rfl, hb1⟩
      have B1 := Lib.hid (((Bx.made w k n s).alloc (.cells #[.int .i64 k', .int .i64 n', .string s'] 26)).then_ hb1)
      have C1 := Lib.hid ((Bx.made (w.alloc (.cells #[.int .i64 k, .int .i64 n, .string s] 26)) k' n' s').then_ hb1)
      have D1 := Lib.hid (below_two hb1)
      clear hb1
      have b1 := B1.out.c3
      have c1 := C1.out.c3
      rw [size_al] at c1
      go_wp2_with fail
      refine (RB.out _).mono ?_
      rintro e w2 ⟨rfl, hb2⟩
      have b2 := (B1.out.then_ hb2).c3
      have c2 := (C1.out.then_ hb2).c3
      rw [size_al] at c2
      have D2 := Lib.hid (below_step D1.out hb2)
      clear hb2 b1 c1 B1 C1
      by_cases hk : k = k'
      · subst hk
        by_cases h1 : k = 1
        · subst h1
          go_wp2_with fail
          go_ret2
          exact ⟨ret_two (HLO.out.trans (less_type H1.out H2.out (.inr rfl))), D2.out⟩
        · have K1 := Lib.hid h1
          have h1' : (k == 1) = false := by rw [beq_eq_false_iff_ne]; exact h1
          clear h1
          have hin := inT_any k w2
          cases ht : inT k
          · rw [ht] at hin
            have HI := Lib.hid hin
            have HT := Lib.hid ht
            clear hin ht
            go_wp2_with fail
            refine HI.out.mono ?_
            rintro e w3 ⟨rfl, rfl⟩
            go_wp2_with fail
            go_ret2
            exact ⟨ret_two (HLO.out.trans (less_num H1.out H2.out rfl K1.out HT.out)), D2.out⟩
          · rw [ht] at hin
            have HI := Lib.hid hin
            have HT := Lib.hid ht
            clear hin ht
            go_wp2_with fail
            refine HI.out.mono ?_
            rintro e w3 ⟨rfl, rfl⟩
            go_wp2_with fail
            go_ret2
            refine ⟨ret_two ?_, D2.out⟩
            have := HLO.out.trans (less_text H1.out H2.out rfl K1.out HT.out)
            rw [HAL.out, HBL.out] at this
            exact this
      · have hk' : (k != k') = true := by rw [bne_iff_ne]; exact hk
        have HK := Lib.hid hk
        clear hk
        go_wp2_with fail
        go_ret2
        exact ⟨ret_two (HLO.out.trans (less_type H1.out H2.out (.inl HK.out))), D2.out⟩
    · rw [decide_eq_false h2] at rb
      have H2 : Hid (¬ Vl.right ⟨k', n', s'⟩) := h2
      have RB := Lib.hid rb
      clear h2 rb
      go_enter Try.func32, Try.ntmps32
      go_wp2_with fail
      refine (RA.out _).mono ?_
      rintro e w1 ⟨rfl, hb1⟩
      have c1 := ((Bx.made (w.alloc (.cells #[.int .i64 k, .int .i64 n, .string s] 26)) k' n' s').then_ hb1).c3
      rw [size_al] at c1
      have D1 := Lib.hid (below_two hb1)
      clear hb1
      go_wp2_with fail
      refine (RB.out _).mono ?_
      rintro e w2 ⟨rfl, hb2⟩
      have D2 := Lib.hid (below_step D1.out hb2)
      clear hb2
      go_wp2_with fail
      go_ret2
      exact ⟨ret_two (HLO.out.trans (less_wrong (.inr H2.out))), D2.out⟩
  · rw [decide_eq_false h1] at ra
    have H1 : Hid (¬ Vl.right ⟨k, n, s⟩) := h1
    have RA := Lib.hid ra
    clear h1 ra rb
    go_enter Try.func32, Try.ntmps32
    go_wp2_with fail
    refine (RA.out _).mono ?_
    rintro e w1 ⟨rfl, hb1⟩
    have D1 := Lib.hid (below_two hb1)
    clear hb1
    go_wp2_with fail
    go_ret2
    exact ⟨ret_two (HLO.out.trans (less_wrong (.inl H1.out))), D1.out⟩

set_option maxHeartbeats 3200000 in
theorem refless_any (a b : Vl) (ha : a.s.size ≤ maxLen) (hb : b.s.size ≤ maxLen) (w : World) :
    Calls Try.prog 29 #[a.val, b.val] w fun e w' => e = .returned (.tuple #[.bool (lessOf a b).1, .int .i64 (lessOf a b).2]) ∧ Below w.heap.size w w' := by
  generalize hLo : lessOf a b = lo
  have HLO := Lib.hid hLo.symm
  have hla : a.s.toList = a.l := ByteArray.toList_eq a.s
  have hlb : b.s.toList = b.l := ByteArray.toList_eq b.s
  generalize hal : a.l = la at *
  generalize hbl : b.l = lb at *
  have HAL := Lib.hid hal
  have HBL := Lib.hid hbl
  clear hLo hal hbl
  obtain ⟨k, n, s⟩ := a
  obtain ⟨k', n', s'⟩ := b
  have ra := refright_any k n s ha
  have rb := refright_any k' n' s' hb
  show Calls _ _ #[.agg #[.int .i64 k, .int .i64 n, .string s], .agg #[.int .i64 k', .int .i64 n', .string s']] w _
  dsimp only at hla hlb
  clear ha hb
  by_cases h1 : RightV k n s.data.toList
  · rw [decide_eq_true h1] at ra
    have H1 : Hid (Vl.right ⟨k, n, s⟩) := h1
    have RA := Lib.hid ra
    clear h1 ra
    by_cases h2 : RightV k' n' s'.data.toList
    · rw [decide_eq_true h2] at rb
      have H2 : Hid (Vl.right ⟨k', n', s'⟩) := h2
      have RB := Lib.hid rb
      clear h2 rb
      go_enter Try.func29, Try.ntmps29
      go_wp2_with fail
      refine (RA.out _).mono ?_
      rintro e w1 ⟨rfl, hb1⟩
      have B1 := Lib.hid (((Bx.made w k n s).alloc (.cells #[.int .i64 k', .int .i64 n', .string s'] 26)).then_ hb1)
      have C1 := Lib.hid ((Bx.made (w.alloc (.cells #[.int .i64 k, .int .i64 n, .string s] 26)) k' n' s').then_ hb1)
      have D1 := Lib.hid (below_two hb1)
      clear hb1
      have b1 := B1.out.c3
      have c1 := C1.out.c3
      rw [size_al] at c1
      go_wp2_with fail
      refine (RB.out _).mono ?_
      rintro e w2 ⟨rfl, hb2⟩
      have b2 := (B1.out.then_ hb2).c3
      have c2 := (C1.out.then_ hb2).c3
      rw [size_al] at c2
      have D2 := Lib.hid (below_step D1.out hb2)
      clear hb2 b1 c1 B1 C1
      by_cases hk : k = k'
      · subst hk
        by_cases h1 : k = 1
        · subst h1
          go_wp2_with fail
          go_ret2
          exact ⟨ret_two (HLO.out.trans (less_type H1.out H2.out (.inr rfl))), D2.out⟩
        · have K1 := Lib.hid h1
          have h1' : (k == 1) = false := by rw [beq_eq_false_iff_ne]; exact h1
          clear h1
          have ttxt : inT k = true → lo = (Op.bytesLess la lb, 0) := fun h => by
            have := HLO.out.trans (less_text H1.out H2.out rfl K1.out h)
            rw [HAL.out, HBL.out] at this
            exact this
          have TT := Lib.hid ttxt
          clear ttxt
          by_cases h3 : k = 3
          · subst h3
            go_wp2_with fail
            go_ret2
            exact ⟨ret_two (TT.out rfl), D2.out⟩
          · have h3' : (k == 3) = false := by rw [beq_eq_false_iff_ne]; exact h3
            by_cases h5 : k = 5
            · subst h5
              go_wp2_with fail
              go_ret2
              exact ⟨ret_two (TT.out rfl), D2.out⟩
            · have h5' : (k == 5) = false := by rw [beq_eq_false_iff_ne]; exact h5
              have HT : Hid (inT k = false) := by show _ = _; unfold inT; rw [decide_eq_false h3, decide_eq_false h5]; rfl
              clear h3 h5
              go_wp2_with fail
              go_ret2
              exact ⟨ret_two (HLO.out.trans (less_num H1.out H2.out rfl K1.out HT.out)), D2.out⟩
      · have hk' : (k != k') = true := by rw [bne_iff_ne]; exact hk
        have HK := Lib.hid hk
        clear hk
        go_wp2_with fail
        go_ret2
        exact ⟨ret_two (HLO.out.trans (less_type H1.out H2.out (.inl HK.out))), D2.out⟩
    · rw [decide_eq_false h2] at rb
      have H2 : Hid (¬ Vl.right ⟨k', n', s'⟩) := h2
      have RB := Lib.hid rb
      clear h2 rb
      go_enter Try.func29, Try.ntmps29
      go_wp2_with fail
      refine (RA.out _).mono ?_
      rintro e w1 ⟨rfl, hb1⟩
      have c1 := ((Bx.made (w.alloc (.cells #[.int .i64 k, .int .i64 n, .string s] 26)) k' n' s').then_ hb1).c3
      rw [size_al] at c1
      have D1 := Lib.hid (below_two hb1)
      clear hb1
      go_wp2_with fail
      refine (RB.out _).mono ?_
      rintro e w2 ⟨rfl, hb2⟩
      have D2 := Lib.hid (below_step D1.out hb2)
      clear hb2
      go_wp2_with fail
      go_ret2
      exact ⟨ret_two (HLO.out.trans (less_wrong (.inr H2.out))), D2.out⟩
  · rw [decide_eq_false h1] at ra
    have H1 : Hid (¬ Vl.right ⟨k, n, s⟩) := h1
    have RA := Lib.hid ra
    clear h1 ra rb
    go_enter Try.func29, Try.ntmps29
    go_wp2_with fail
    refine (RA.out _).mono ?_
    rintro e w1 ⟨rfl, hb1⟩
    have D1 := Lib.hid (below_two hb1)
    clear hb1
    go_wp2_with fail
    go_ret2
    exact ⟨ret_two (HLO.out.trans (less_wrong (.inl H1.out))), D1.out⟩

end Go.Proofs.Ytjcegpakacedoaa
