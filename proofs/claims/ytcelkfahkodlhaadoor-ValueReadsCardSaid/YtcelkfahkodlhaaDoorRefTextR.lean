/- bailiffref1.Reader's In and Text. -/
import Derived.Test.YtcelkfahkodlhaaDoorRefNumR
namespace Go.Proofs.YtcelkfahkodlhaaDoor
set_option linter.unusedVariables false
open Go.RowKit

section
variable {w : World} {hb r p : Nat} {l : List UInt8} {q : Int}

set_option maxHeartbeats 1600000 in
theorem rrin {lo hi : Int} (h : RR w hb r l p q) : Calls Tryd.prog 52 #[.pointer (some ⟨r, 0, none⟩), .int .i64 lo, .int .i64 hi] w fun e w' =>
    e = .returned (.int .i64 (rIn l p q lo hi).1) ∧ RR w' hb r l (rIn l p q lo hi).2.1 (rIn l p q lo hi).2.2 ∧ Only r w w' := by
  have hnum := rrnum h
  obtain ⟨A, n, c, h0, h1, h2, f0, f1, f2, hs, hl, hp, hn⟩ := h.cells
  have hfacts := rNum_facts (l := l) (p := p) (q := q) (by omega)
  generalize hr : rNum l p q = res at *
  obtain ⟨x, p1, q1⟩ := res
  have hdef : rIn l p q lo hi = if q1 ≠ 0 then (0, p1, q1) else if x < lo ∨ hi < x then (0, p, 7) else (x, p1, q1) := by unfold rIn; rw [hr]
  have HDEF := Lib.hid hdef
  have HN := Lib.hid hnum
  have HF := Lib.hid hfacts
  have HL := Lib.hid hl
  clear hdef hnum hfacts hr hs hl
  go_enter Tryd.func52, Tryd.ntmps52
  go_wp2_with fail
  refine HN.out.mono ?_
  rintro e w1 ⟨rfl, hr1, ho1⟩
  obtain ⟨A1, n1, c1, g0, g1, g2, e0, e1, e2, hs1, hl1, hp1, hn1⟩ := hr1.cells
  have HR1 := Lib.hid hr1
  have HO1 := Lib.hid ho1
  clear hr1 ho1 hs1 hl1 h0 h1 h2 f0 f1 f2
  by_cases hq1 : q1 = 0
  · obtain rfl : q1 = 0 := hq1
    have hfl : ∀ W, W = w1.setCell ⟨r, 1, none⟩ (.int .i64 (p : Int)) → Calls Tryd.prog 55 #[.pointer (some ⟨r, 0, none⟩), .int .i64 7] W fun e w' => e = .returned (.int .i64 0) ∧ RR w' hb r l p 7 ∧ Only r w w' := fun W hW => by
      have hset := HR1.out.setp (p' := p) (by have := HL.out; omega) rfl
      rw [← hW] at hset
      exact (rrfail 7 hset).mono fun _ _ hh => ⟨hh.1, hh.2.1, (HO1.out.trans ((Only.refl.setCell (p := ⟨r, 1, none⟩) rfl _))).trans (by rw [hW] at hh; exact hh.2.2)⟩
    have HFL := Lib.hid hfl
    clear hfl
    by_cases hlo : x < lo
    · go_wp2_with fail
      refine (HFL.out _ rfl).mono ?_
      rintro e w2 ⟨rfl, hr2, ho2⟩
      have HR2 := Lib.hid hr2
      have HO2 := Lib.hid ho2
      clear hr2 ho2
      go_wp2_with fail
      go_ret
      rw [HDEF.out, if_neg (by simp), if_pos (by omega)]
      exact ⟨rfl, HR2.out, HO2.out⟩
    · by_cases hhi : hi < x
      · go_wp2_with fail
        refine (HFL.out _ rfl).mono ?_
        rintro e w2 ⟨rfl, hr2, ho2⟩
        have HR2 := Lib.hid hr2
        have HO2 := Lib.hid ho2
        clear hr2 ho2
        go_wp2_with fail
        go_ret
        rw [HDEF.out, if_neg (by simp), if_pos (by omega)]
        exact ⟨rfl, HR2.out, HO2.out⟩
      · go_wp2_with fail
        go_ret
        rw [HDEF.out, if_neg (by simp), if_neg (by omega)]
        exact ⟨rfl, HR1.out, HO1.out⟩
  · have hq' : (q1 == 0) = false := by rw [beq_eq_false_iff_ne]; exact hq1
    have HQ := Lib.hid hq1
    have hx0 : x = 0 := (HF.out.2.2.2.2.1 HQ.out).1
    subst hx0
    clear hq1
    go_wp2_with fail
    go_ret
    rw [HDEF.out, if_pos HQ.out]
    exact ⟨rfl, HR1.out, HO1.out⟩

set_option maxHeartbeats 3200000 in
theorem rrtext {most : Int} (h : RR w hb r l p q) : Calls Tryd.prog 53 #[.pointer (some ⟨r, 0, none⟩), .int .i64 most] w fun e w' =>
    e = .returned (.string ⟨(rText l p q most).1.toArray⟩) ∧ RR w' hb r l (rText l p q most).2.1 (rText l p q most).2.2 ∧ Only r w w' := by
  have hin := rrin (lo := 0) (hi := most) h
  obtain ⟨A, n, c, h0, h1, h2, f0, f1, f2, hs, hl, hp, hn⟩ := h.cells
  have hfacts := rIn_facts (l := l) (p := p) (q := q) (lo := 0) (hi := most) (by omega)
  generalize hr : rIn l p q 0 most = res at *
  obtain ⟨x, p1, q1⟩ := res
  have hdef : rText l p q most = if q1 ≠ 0 then ([], p1, q1) else if (l.length : Int) - p1 < x then ([], p, 7) else ((l.drop p1).take x.toNat, p1 + x.toNat, q1) := by unfold rText; rw [hr]
  have HDEF := Lib.hid hdef
  have HN := Lib.hid hin
  have HF := Lib.hid hfacts
  clear hdef hin hfacts hr hs hl
  go_enter Tryd.func53, Tryd.ntmps53
  go_wp2_with fail
  refine HN.out.mono ?_
  rintro e w1 ⟨rfl, hr1, ho1⟩
  obtain ⟨A1, n1, c1, g0, g1, g2, e0, e1, e2, hs1, hl1, hp1, hn1⟩ := hr1.cells
  have hnc := hs1.le
  have hcap := hs1.cap
  unfold maxLen at hcap
  have HR1 := Lib.hid hr1
  have HO1 := Lib.hid ho1
  have HS1 := Lib.hid hs1
  have HL1 := Lib.hid hl1
  clear hr1 ho1 hs1 hl1 h0 h1 h2 f0 f1 f2
  by_cases hq1 : q1 = 0
  · obtain rfl : q1 = 0 := hq1
    have hx0 : 0 ≤ x := (HF.out.2.2.2.2.2 rfl).2.2.1
    obtain ⟨m, rfl⟩ := Int.eq_ofNat_of_zero_le hx0
    have hm63 : (m : Int) ≤ 9223372036854775807 := HF.out.2.2.2.1
    by_cases hfit : n1 < p1 + m
    · have hd : decide ((n1 : Int) - (p1 : Int) < (m : Int)) = true := by simp; omega
      have hfl : ∀ j W, W = (w1.drewN j).setCell ⟨r, 1, none⟩ (.int .i64 (p : Int)) → Calls Tryd.prog 55 #[.pointer (some ⟨r, 0, none⟩), .int .i64 7] W fun e w' => e = .returned (.int .i64 0) ∧ RR w' hb r l p 7 ∧ Only r w w' := fun j W hW => by
        have hset := (HR1.out.drewN j).setp (p' := p) (by have := HL1.out; have := HF.out.2.1; omega) rfl
        rw [← hW] at hset
        exact (rrfail 7 hset).mono fun _ _ hh => ⟨hh.1, hh.2.1, ((HO1.out.drewN j).trans ((Only.refl.setCell (p := ⟨r, 1, none⟩) rfl _))).trans (by rw [hW] at hh; exact hh.2.2)⟩
      have HFL := Lib.hid hfl
      clear hfl
      go_wp2_with fail
      go_quiet (fail)
      go_wp2_with fail
      refine (HFL.out _ _ rfl).mono ?_
      rintro e w2 ⟨rfl, hr2, ho2⟩
      have HR2 := Lib.hid hr2
      have HO2 := Lib.hid ho2
      clear hr2 ho2
      go_wp2_with fail
      go_ret
      rw [HDEF.out, if_neg (by simp), if_pos (by have := HL1.out; omega)]
      exact ⟨rfl, HR2.out, HO2.out⟩
    · have hd : decide ((n1 : Int) - (p1 : Int) < (m : Int)) = false := by simp; omega
      have hsl : Sl w1 hb (if c1 = p1 then A1 else A1.map (·.add p1)) m (c1 - p1) (bv ((l.drop p1).take m)) := by
        rw [bv_take, bv_drop]; exact (HS1.out.drop hp1).take (by omega)
      have hcv : ∀ k, (convert 37 9 (.slice (if c1 = p1 then A1 else A1.map (·.add p1)) m (c1 - p1))).run Tryd.prog (w1.drewN k) = .ok (.string ⟨((l.drop p1).take m).toArray⟩) (w1.drewN k) :=
        fun k => conv_text Tryd.underlying37 Tryd.underlying5 Tryd.underlying9 (hsl.drewN k)
      clear hsl
      generalize hstr : (⟨((l.drop p1).take m).toArray⟩ : ByteArray) = str at hcv
      have HSTR := Lib.hid hstr
      clear hstr
      rcases Nat.lt_or_ge p1 c1 with hpc | hpc
      · have hne : ¬ c1 = p1 := by omega
        simp only [if_neg hne] at hcv
        go_wp2_with fail
        go_quiet (fail)
        go_wp2_with fail
        go_quiet (fail)
        go_wp2_with fail
        go_ret
        rw [HDEF.out, if_neg (by simp), if_neg (by have := HL1.out; omega)]
        exact ⟨by rw [← HSTR.out]; rfl, (HR1.out.drewN _).setp (p' := p1 + m) (by have := HL1.out; omega) (by rw [Int.natCast_add]), (HO1.out.drewN _).setCell (p := ⟨r, 1, none⟩) rfl _⟩
      · obtain rfl : c1 = p1 := by omega
        obtain rfl : n1 = c1 := by omega
        obtain rfl : m = 0 := by omega
        simp only [if_pos, Nat.sub_self] at hcv
        go_wp2_with fail
        go_quiet (fail)
        go_wp2_with fail
        go_quiet (fail)
        go_wp2_with fail
        go_ret
        rw [HDEF.out, if_neg (by simp), if_neg (by have := HL1.out; omega)]
        exact ⟨by rw [← HSTR.out]; rfl, (HR1.out.drewN _).setp (by have := HL1.out; show n1 + 0 ≤ _; omega) rfl, (HO1.out.drewN _).setCell (p := ⟨r, 1, none⟩) rfl _⟩
  · have hq' : (q1 != 0) = true := by rw [bne_iff_ne]; exact hq1
    have HQ := Lib.hid hq1
    clear hq1
    go_wp2_with fail
    go_ret
    rw [HDEF.out, if_pos HQ.out]
    exact ⟨rfl, HR1.out, HO1.out⟩
end
end Go.Proofs.YtcelkfahkodlhaaDoor
