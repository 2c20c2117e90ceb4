/- ValueReads: the walk. -/
import Derived.Test.YtcelkfahkodlhaaDoorVRefGet
import Derived.Test.YtcelkfahkodlhaaDoorVRuns
import Derived.Test.YtcelkfahkodlhaaDoorVGrown
import Derived.Test.YtcelkfahkodlhaaDoorWithin
import Derived.Test.YtcelkfahkodlhaaDoorOpen
import Derived.Test.YtcelkfahkodlhaaDoorLaws
import Derived.Test.YtcelkfahkodlhaaDoorVEq
import Derived.Deep.DeepCutAuto
namespace Go.Proofs.YtcelkfahkodlhaaDoor
set_option linter.unusedVariables false
open Go.RowKit Go.Sort

def ReadsRel (w : World) (r r' : Nat) (l : List UInt8) (i : Value) (wr : World) : Prop :=
  ∃ (j : Int) (p : Nat) (q : Int), i = .int .i64 j ∧ (-1 ≤ j ∧ j ≤ 5) ∧ Rdr wr 67 w.heap.size r l p q ∧ RR wr w.heap.size r' l p q ∧ Below w.heap.size w wr

theorem wrong_grown {w : World} {bs r p : Nat} {l : List UInt8} {q : Int} (h : Rdr w 67 bs r l p q) (d : Nat) (os : Array Obj) :
    Calls Tryd.prog 34 #[.pointer (some ⟨r, 0, none⟩)] (grow (redrawn w d) os) fun e w'' => e = .returned (.int .i64 q) ∧ ∃ p : Regrown, w'' = grow (redrawn w p.d) p.os :=
  (wrong_any (h.then_ (below_regrown w d os))).mono fun _ _ hh => ⟨hh.1, ⟨d, os⟩, hh.2.symm⟩
theorem at_grown {w : World} {bs r p : Nat} {l : List UInt8} {q : Int} (h : Rdr w 67 bs r l p q) (d : Nat) (os : Array Obj) :
    Calls Tryd.prog 35 #[.pointer (some ⟨r, 0, none⟩)] (grow (redrawn w d) os) fun e w'' => e = .returned (.int .i64 (p : Int)) ∧ ∃ p : Regrown, w'' = grow (redrawn w p.d) p.os :=
  (at_any (h.then_ (below_regrown w d os))).mono fun _ _ hh => ⟨hh.1, ⟨d, os⟩, hh.2.symm⟩

set_option maxHeartbeats 3200000 in
set_option maxRecDepth 100000 in
theorem valueReads_walk (w : World) (A : Option Addr) (n c : Nat) (hl0 : ∃ l, Sl w w.heap.size A n c (bv l)) (m : Int) (hm : (Lit.int .i64 m).wf = true) (htab : Tab w) :
    Calls Tryd.prog 5 #[.slice A n c, .int .i64 m] w fun e w' => e = .returned (.bool true) ∧ Below w.heap.size w w' := by
  obtain ⟨l0, hl⟩ := hl0
  have hnc := hl.le
  have hcap := hl.cap
  unfold maxLen at hcap
  have ht : ∀ w', Below w.heap.size w w' → Tab w' := fun w' hb => htab.then_ hb
  have HT := Lib.hid ht
  have H := Lib.hid hl
  clear hl ht htab hm
  go_enter Tryd.func5, Tryd.ntmps5
  go_upto_region 1 with fail
  go_cut [0] (fun u wx => ∃ (n1 : Nat) (l : List UInt8), u = .slice A n1 c ∧ Sl w w.heap.size A n1 c (bv l) ∧ n1 ≤ 200 ∧ n1 ≤ c ∧ w = wx)
  case first =>
    go_wp2_with fail
    go_meet
    exact ⟨(min (n : Int) 200).toNat, l0.take (min (n : Int) 200).toNat, rfl, by rw [bv_take]; exact H.out.take (by omega), by omega, by omega, rfl⟩
  case rest =>
    obtain ⟨n1, l, rfl, hl, hn1, hnc1, rfl⟩ := hcut
    have hlen : l.length = n1 := by rw [← bv_len]; exact hl.len
    have HL := Lib.hid hl
    have HLEN := Lib.hid hlen
    clear hl hlen
    go_wp2_with fail
    refine (read_any HL.out (by omega)).mono ?_
    rintro e w2 ⟨r, rfl, hr2, hb2⟩
    have R2 := Lib.hid (hr2.then_ ((Below.refl _ w2).alloc (Nat.le_refl _) (.cells #[.slice A n1 c, .int .i64 0, .int .i64 0] 48)))
    have B2 := Lib.hid (hb2.alloc hb2.size (.cells #[.slice A n1 c, .int .i64 0, .int .i64 0] 48))
    have Q2 : Hid (RR (w2.alloc (.cells #[.slice A n1 c, .int .i64 0, .int .i64 0] 48)) w.heap.size w2.heap.size l 0 0) :=
      ⟨A, n1, c, Ob.made _ _ _, HL.out.below B2.out, Nat.zero_le _, by omega, hb2.size⟩
    have HRR : Hid (r < w2.heap.size) := hr2.lt
    have HBR : Hid (w.heap.size ≤ r) := hr2.base
    clear hr2 hb2
    have hwi := within_le (n := m) (lo := 0) (hi := 5) (by omega)
    have WI := Lib.hid (fun W => within_any (n := m) (lo := 0) (hi := 5) (w := W) (by omega) (by omega) (by omega))
    generalize withinOf m 0 5 = i0 at *
    go_wp2_with fail
    generalize hq2 : w2.heap.size = r' at *
    generalize hwx : w2.alloc (.cells #[.slice A n1 c, .int .i64 0, .int .i64 0] 48) = wx at *
    clear hq2 hwx
    refine (WI.out _).mono ?_
    rintro e w3 ⟨rfl, hw3⟩
    subst hw3
    go_wp2_with fail
    go_loopw [7] (fun i wr => ReadsRel w r r' l i wr) (fun i _ => (intOf i + 1).toNat)
    case atStart => exact ⟨i0, 0, 0, rfl, by omega, R2.out, Q2.out, B2.out⟩
    case round =>
      obtain ⟨j, p, q, rfl, hj, hr, hrr, hb⟩ := hrel
      have R := Lib.hid hr
      have RQ := Lib.hid hrr
      have B := Lib.hid hb
      clear hr hrr hb
      by_cases hlt : 0 ≤ j
      · go_wp2_with fail
        refine (vget_any R.out).mono ?_
        rintro e wa ⟨rfl, hra, hoa⟩
        have RA := Lib.hid hra
        have QA := Lib.hid (RQ.out.only hoa (by have := HRR.out; omega) HBR.out)
        have BA := Lib.hid (only_step B.out hoa HBR.out)
        clear hra hoa
        go_wp2_with fail
        refine (vrefget_any QA.out).mono ?_
        rintro e wb ⟨rfl, hqb, hob⟩
        have QB := Lib.hid hqb
        have RB := Lib.hid (RA.out.only hob (.inl HRR.out))
        have BB := Lib.hid (only_step BA.out hob (by have h1 := HRR.out; have h2 := HBR.out; omega))
        clear hqb hob
        have hve := fun W => (val_eq (getV l p q).k (getV l p q).n (getV l p q).k (getV l p q).n (getV l p q).s (getV l p q).s W).trans (by rw [veq_true rfl])
        generalize (getV l p q).k = vk at *
        generalize (getV l p q).n = vn at *
        generalize (getV l p q).s = vs at *
        rcases hF : getF l p q with ⟨p2, q2⟩
        rw [hF] at QB RB
        clear hF
        dsimp only at QB RB
        go_wp2_with fail
        have X1 := Lib.hid ((Bx.made wb vk vn vs).alloc (.cells #[.int .i64 vk, .int .i64 vn, .string vs] 26))
        have Y1 : Hid (Bx _ (wb.heap.size + 1) vk vn vs) := (size_al wb (.cells #[.int .i64 vk, .int .i64 vn, .string vs] 26)) ▸ Bx.made (wb.alloc (.cells #[.int .i64 vk, .int .i64 vn, .string vs] 26)) vk vn vs
        have B4 := Lib.hid ((BB.out.alloc BB.out.size (.cells #[.int .i64 vk, .int .i64 vn, .string vs] 26)).alloc (by rw [size_al]; have := BB.out.size; omega) (.cells #[.int .i64 vk, .int .i64 vn, .string vs] 26))
        have R4 := Lib.hid ((RB.out.alloc (.cells #[.int .i64 vk, .int .i64 vn, .string vs] 26)).alloc (.cells #[.int .i64 vk, .int .i64 vn, .string vs] 26))
        have Q4 := Lib.hid ((QB.out.alloc (.cells #[.int .i64 vk, .int .i64 vn, .string vs] 26)).alloc (.cells #[.int .i64 vk, .int .i64 vn, .string vs] 26))
        generalize (wb.alloc (.cells #[.int .i64 vk, .int .i64 vn, .string vs] 26)).alloc (.cells #[.int .i64 vk, .int .i64 vn, .string vs] 26) = w4 at *
        obtain ⟨x0, x1, x2⟩ := X1.out.grown
        obtain ⟨y0, y1, y2⟩ := Y1.out.grown
        obtain ⟨A5, n5, c5, _, z1, z2, _⟩ := Q4.out.cells
        have z1' : ∀ d os, (grow (redrawn w4 d) os).cell? ⟨r', 1, none⟩ = some (.int .i64 (p2 : Int)) := fun d os => cell_regrown z1 d os
        have z2' : ∀ d os, (grow (redrawn w4 d) os).cell? ⟨r', 2, none⟩ = some (.int .i64 q2) := fun d os => cell_regrown z2 d os
        have QW := Lib.hid (fun d os => wrong_grown R4.out d os)
        have QT := Lib.hid (fun d os => at_grown R4.out d os)
        clear z1 z2
        by_cases hq : q2 = 0
        · subst hq
          refine wp_region_quiet_below (by kernel_rfl) (by kernel_rfl) ?_
          repeat (go_big_quiet_step ((first | (go_at_call 34; exact QW.out _ _) | (go_at_call 35; exact QT.out _ _))))
          refine wpQuiet_nil ?_
          intro _ hw'
          obtain ⟨⟨dq, osq⟩, hw''⟩ := hw'
          subst hw''
          have hbel := below_regrown w4 dq osq
          have R5 := Lib.hid (R4.out.then_ hbel)
          have Q5 := Lib.hid (Q4.out.then_ hbel)
          have B5 := Lib.hid (below_step B4.out hbel)
          clear x0 x1 x2 y0 y1 y2 z1' z2' hbel hve
          go_wp2_with fail
          go_roundw
          case rel => exact ⟨j - 1, p2, 0, by go_num, by omega, R5.out, Q5.out, B5.out⟩
          case measure => simp [intOf]; omega
        · have hq' : (q2 == 0) = false := by rw [beq_eq_false_iff_ne]; exact hq
          clear hq
          refine wp_region_quiet_below (by kernel_rfl) (by kernel_rfl) ?_
          repeat (go_big_quiet_step ((first | (go_at_call 34; exact QW.out _ _) | (go_at_call 35; exact QT.out _ _))))
          refine wpQuiet_nil ?_
          intro _ hw'
          obtain ⟨⟨dq, osq⟩, hw''⟩ := hw'
          subst hw''
          have hbel := below_regrown w4 dq osq
          have R5 := Lib.hid (R4.out.then_ hbel)
          have Q5 := Lib.hid (Q4.out.then_ hbel)
          have B5 := Lib.hid (below_step B4.out hbel)
          clear x0 x1 x2 y0 y1 y2 z1' z2' hbel hve
          go_wp2_with fail
          go_roundw
          case rel => exact ⟨j - 1, p2, q2, by go_num, by omega, R5.out, Q5.out, B5.out⟩
          case measure => simp [intOf]; omega
      · obtain rfl : j = -1 := by omega
        go_wp2_with fail
        refine (vruns_any _ (HT.out _ B.out)).mono ?_
        rintro e w9 ⟨rfl, hb9⟩
        have D9 := Lib.hid (below_step B.out hb9)
        clear hb9
        go_wp2_with fail
        go_ret
        exact ⟨rfl, D9.out⟩
end Go.Proofs.YtcelkfahkodlhaaDoor
