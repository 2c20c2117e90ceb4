/- The helper of EvalSure: is a duty one of a policy's, or below it? -/
import Derived.Test.YtmoglaknmlhpgaaGreatEvalSet
namespace Go.Proofs.YtmoglaknmlhpgaaGreat
set_option linter.unusedVariables false
open Go.RowKit

theorem any_step {α : Type} (f : α → Bool) {l : List α} {k : Nat} {x : α} (h : l[k]? = some x) : (l.take (k + 1)).any f = ((l.take k).any f || f x) := by
  obtain ⟨hk, e⟩ := List.getElem?_eq_some_iff.1 h
  rw [List.take_succ_eq_append_getElem hk, e, List.any_append]
  simp
theorem any_at {α : Type} (f : α → Bool) {l : List α} {k : Nat} {x : α} (h : l[k]? = some x) (hx : f x = true) : l.any f = true := List.any_eq_true.2 ⟨x, List.mem_of_getElem? h, hx⟩
theorem amongL_any (x : Dut) : ∀ l : List Pol, amongL x l = l.any (amongP x)
  | [] => rfl
  | p :: l => by rw [amongL, amongL_any x l]; rfl
def AmOk (d : Nat) : Prop :=
  ∀ {w : World} {R : Nat → Prop} {p : Pol} {A1 A2 A3 A4 : Option Addr} {n1 k1 n2 k2 n3 k3 n4 k4 : Nat} (x : Dut), Rus w R A2 n2 k2 p.rules → Pls w R d A3 n3 k3 p.kids → Dus w R A4 n4 k4 p.ob →
    Calls Tryz.prog 18 #[.agg #[.int .i64 x.on, .int .i64 x.kind, .string x.arg], .agg #[.string p.id, .bool p.set, .int .i64 p.alg, .slice A1 n1 k1, .slice A2 n2 k2, .slice A3 n3 k3, .slice A4 n4 k4]] w fun e w' => e = .returned (.bool (amongP x p)) ∧ Below w.heap.size w w'
set_option maxRecDepth 100000 in
set_option maxHeartbeats 6400000 in
theorem among_step (d : Nat) (ih : ∀ d', d = d' + 1 → AmOk d') : AmOk d := by
  intro w R p A1 A2 A3 A4 n1 k1 n2 k2 n3 k3 n4 k4 x h2 h3 h4
  have hle2 := Rw.le h2
  have hcap2 := Rw.cap h2
  have hle3 := Rw.le h3
  have hcap3 := Rw.cap h3
  have hle4 := Rw.le h4
  have hcap4 := Rw.cap h4
  unfold maxLen at hcap2 hcap3 hcap4
  have HL2 := Lib.hid (Rw.len h2)
  have HL3 := Lib.hid (Rw.len h3)
  have HL4 := Lib.hid (Rw.len h4)
  have H2 := Lib.hid h2
  have H3 := Lib.hid h3
  have H4 := Lib.hid h4
  have HIH := Lib.hid ih
  have HV : Hid (amongP x p = ((p.ob.any fun y => decide (y = x)) || (p.rules.any fun r => r.ob.any fun y => decide (y = x)) || p.kids.any (amongP x))) := by
    show _ = _
    rw [amongP_eq, amongL_any]
    rfl
  have a1 : Below w.heap.size w (w.alloc (.cells #[.int .i64 x.on, .int .i64 x.kind, .string x.arg] 42)) := (Below.refl w.heap.size w).alloc (Nat.le_refl _) _
  have a2 := a1.alloc (by rw [size_al]; omega) (.cells #[.string p.id, .bool p.set, .int .i64 p.alg, .slice A1 n1 k1, .slice A2 n2 k2, .slice A3 n3 k3, .slice A4 n4 k4] 28)
  have OX := Lib.hid ((Ob.made w 42 #[.int .i64 x.on, .int .i64 x.kind, .string x.arg]).keep (w' := ((w.alloc (.cells #[.int .i64 x.on, .int .i64 x.kind, .string x.arg] 42)).alloc (.cells #[.string p.id, .bool p.set, .int .i64 p.alg, .slice A1 n1 k1, .slice A2 n2 k2, .slice A3 n3 k3, .slice A4 n4 k4] 28))) (Below.heap_alloc _ _ _ (by rw [size_al]; omega)))
  have op := Ob.made (w.alloc (.cells #[.int .i64 x.on, .int .i64 x.kind, .string x.arg] 42)) 28 #[.string p.id, .bool p.set, .int .i64 p.alg, .slice A1 n1 k1, .slice A2 n2 k2, .slice A3 n3 k3, .slice A4 n4 k4]
  rw [size_al] at op
  have OP := Lib.hid op
  have A0 := Lib.hid a2
  have q6 := op.cell 6
  clear h2 h3 h4 ih a1 a2 op
  generalize amongP x p = res at *
  obtain ⟨xo, xk, xa⟩ := x
  simp only at OX OP A0 q6
  go_enter Tryz.func18, Tryz.ntmps18
  go_wp2
  go_loopw [16] (fun i wr => ∃ k : Nat, k ≤ n4 ∧ i = .int .i64 k ∧ ((p.ob.take k).any fun y => decide (y = ⟨xo, xk, xa⟩)) = false ∧ Below ((w.alloc (.cells #[.int .i64 xo, .int .i64 xk, .string xa] 42)).alloc (.cells #[.string p.id, .bool p.set, .int .i64 p.alg, .slice A1 n1 k1, .slice A2 n2 k2, .slice A3 n3 k3, .slice A4 n4 k4] 28)).heap.size ((w.alloc (.cells #[.int .i64 xo, .int .i64 xk, .string xa] 42)).alloc (.cells #[.string p.id, .bool p.set, .int .i64 p.alg, .slice A1 n1 k1, .slice A2 n2 k2, .slice A3 n3 k3, .slice A4 n4 k4] 28)) wr) (fun i _ => n4 - (intOf i).toNat)
  case atStart => exact ⟨0, Nat.zero_le _, rfl, by simp, Below.refl _ _⟩
  case round =>
    obtain ⟨k, hk, rfl, hno, hb⟩ := hrel
    have HNO := Lib.hid hno
    have HB := Lib.hid hb
    have HW := Lib.hid (below_step A0.out hb)
    have OXW := Lib.hid (OX.out.below hb OX.out.lt)
    have OPW := Lib.hid (OP.out.below hb OP.out.lt)
    clear hno hb
    by_cases hlt : k < n4
    · obtain ⟨b, o, y, rfl, _, hbl, hy, _, y0, y1, y2⟩ := (H4.out.keep (Kept.all HW.out R) (fun _ h _ => h)).at_ hlt
      have HS := Lib.hid (any_step (fun y => decide (y = (⟨xo, xk, xa⟩ : Dut))) hy)
      have HAT := Lib.hid (any_at (fun y => decide (y = (⟨xo, xk, xa⟩ : Dut))) hy)
      have hve := fun W => dut_eq y ⟨xo, xk, xa⟩ W
      have a3 : Below wr.heap.size wr (wr.alloc (.cells #[.int .i64 y.on, .int .i64 y.kind, .string y.arg] 42)) := (Below.refl _ _).alloc (Nat.le_refl _) _
      have OX3 := OXW.out.below a3 OXW.out.lt
      have A3' := Lib.hid a3
      have x0 := OX3.cell 0
      have x1 := OX3.cell 1
      have x2 := OX3.cell 2
      clear hy OX3 a3
      by_cases he : y = ⟨xo, xk, xa⟩
      · have HE : Hid (res = true) := by show _ = _; rw [HV.out, HAT.out (decide_eq_true he)]; rfl
        simp only [he, decide_true] at hve
        subst he
        simp only at y0 y1 y2 A3' x0 x1 x2
        go_wp2_with fail
        go_ret
        exact ⟨by rw [HE.out]; rfl, below_step HW.out A3'.out⟩
      · have HE : Hid (((p.ob.take (k + 1)).any fun y => decide (y = ⟨xo, xk, xa⟩)) = false) := by show _ = _; rw [HS.out, HNO.out, decide_eq_false he]; rfl
        simp only [he, decide_false] at hve
        clear he
        obtain ⟨yo, yk, ya⟩ := y
        simp only at y0 y1 y2 A3' x0 x1 x2 hve
        go_wp2_with fail
        go_roundw
        case rel => exact ⟨k + 1, by omega, by go_num, HE.out, below_step HB.out A3'.out⟩
        case measure => simp [intOf]; omega
    · obtain rfl : n4 = k := by omega
      have HN4 : Hid ((p.ob.any fun y => decide (y = ⟨xo, xk, xa⟩)) = false) := by have h := HNO.out; rw [List.take_of_length_le (by have := HL4.out; omega)] at h; exact h
      have q4 := OPW.out.cell 4
      clear HNO q6
      go_wp2
      go_loopw [27] (fun i wq => ∃ j : Nat, j ≤ n2 ∧ i = .int .i64 j ∧ ((p.rules.take j).any fun r => r.ob.any fun y => decide (y = ⟨xo, xk, xa⟩)) = false ∧ Below ((w.alloc (.cells #[.int .i64 xo, .int .i64 xk, .string xa] 42)).alloc (.cells #[.string p.id, .bool p.set, .int .i64 p.alg, .slice A1 n1 k1, .slice A2 n2 k2, .slice A3 n3 k3, .slice A4 n4 k4] 28)).heap.size ((w.alloc (.cells #[.int .i64 xo, .int .i64 xk, .string xa] 42)).alloc (.cells #[.string p.id, .bool p.set, .int .i64 p.alg, .slice A1 n1 k1, .slice A2 n2 k2, .slice A3 n3 k3, .slice A4 n4 k4] 28)) wq) (fun i _ => n2 - (intOf i).toNat)
      case atStart => exact ⟨0, Nat.zero_le _, rfl, by simp, HB.out⟩
      case round =>
        obtain ⟨wo, hwo⟩ : ∃ wo, wo = wr := ⟨wr, rfl⟩
        subst hwo
        obtain ⟨j, hj, rfl, hno, hb⟩ := hrel
        have HNO := Lib.hid hno
        have HB2 := Lib.hid hb
        have HW2 := Lib.hid (below_step A0.out hb)
        have OXW2 := Lib.hid (OX.out.below hb OX.out.lt)
        have OPW2 := Lib.hid (OP.out.below hb OP.out.lt)
        clear hno hb
        by_cases hlt2 : j < n2
        · obtain ⟨b, o, r, B1, m1, d1, B2, m2, d2, B3, m3, d3, rfl, hRb, hbl, hx, hid, ⟨x0, x1, x2, x3, x4⟩, t1, t2, t3⟩ := (H2.out.keep (Kept.all HW2.out R) (fun _ h _ => h)).at_ hlt2
          have HS := Lib.hid (any_step (fun r : Rul => r.ob.any fun y => decide (y = (⟨xo, xk, xa⟩ : Dut))) hx)
          have HAT := Lib.hid (any_at (fun r : Rul => r.ob.any fun y => decide (y = (⟨xo, xk, xa⟩ : Dut))) hx)
          have T3 := Lib.hid t3
          have hle3' := Rw.le t3
          have hcap3' := Rw.cap t3
          unfold maxLen at hcap3'
          have HL3' := Lib.hid (Rw.len t3)
          have a3 : Below wo.heap.size wo (wo.alloc (.cells #[.string r.id, .bool r.deny, .slice B1 m1 d1, .slice B2 m2 d2, .slice B3 m3 d3] 61)) := (Below.refl _ _).alloc (Nat.le_refl _) _
          have A3' := Lib.hid a3
          clear hx hid t1 t2 t3 a3
          obtain ⟨rid, rdeny, rtg, rcond, rob⟩ := r
          simp only at x0 x1 x2 x3 x4 A3' HS HAT T3 HL3'
          go_wp2
          go_loopw [34] (fun i wq => ∃ j2 : Nat, j2 ≤ m3 ∧ i = .int .i64 j2 ∧ ((rob.take j2).any fun y => decide (y = ⟨xo, xk, xa⟩)) = false ∧ Below wo.heap.size wo wq) (fun i _ => m3 - (intOf i).toNat)
          case atStart => exact ⟨0, Nat.zero_le _, rfl, by simp, A3'.out⟩
          case round =>
            obtain ⟨wi, hwi⟩ : ∃ wi, wi = wr := ⟨wr, rfl⟩
            subst hwi
            obtain ⟨j2, hj2, rfl, hno, hb⟩ := hrel
            have HNO3 := Lib.hid hno
            have HB3 := Lib.hid hb
            have OXW3 := Lib.hid (OXW2.out.below hb OXW2.out.lt)
            clear hno hb
            by_cases hlt3 : j2 < m3
            · obtain ⟨b, o, y, rfl, _, hbl, hy, _, y0, y1, y2⟩ := (T3.out.keep (Kept.all HB3.out _) (fun _ h _ => h)).at_ hlt3
              have HS3 := Lib.hid (any_step (fun y => decide (y = (⟨xo, xk, xa⟩ : Dut))) hy)
              have HAT3 := Lib.hid (any_at (fun y => decide (y = (⟨xo, xk, xa⟩ : Dut))) hy)
              have hve := fun W => dut_eq y ⟨xo, xk, xa⟩ W
              have a4 : Below wi.heap.size wi (wi.alloc (.cells #[.int .i64 y.on, .int .i64 y.kind, .string y.arg] 42)) := (Below.refl _ _).alloc (Nat.le_refl _) _
              have OX3 := OXW3.out.below a4 OXW3.out.lt
              have A4' := Lib.hid a4
              have x0 := OX3.cell 0
              have x1 := OX3.cell 1
              have x2 := OX3.cell 2
              clear hy OX3 a4
              by_cases he : y = ⟨xo, xk, xa⟩
              · have HE : Hid (res = true) := by
                  show _ = _
                  rw [HV.out, HN4.out, HAT.out (HAT3.out (decide_eq_true he))]
                  rfl
                simp only [he, decide_true] at hve
                subst he
                simp only at y0 y1 y2 A4' x0 x1 x2
                go_wp2_with fail
                go_ret
                exact ⟨by rw [HE.out]; rfl, below_step HW2.out (below_step HB3.out A4'.out)⟩
              · have HE : Hid (((rob.take (j2 + 1)).any fun y => decide (y = ⟨xo, xk, xa⟩)) = false) := by show _ = _; rw [HS3.out, HNO3.out, decide_eq_false he]; rfl
                simp only [he, decide_false] at hve
                clear he
                obtain ⟨yo, yk, ya⟩ := y
                simp only at y0 y1 y2 A4' x0 x1 x2 hve
                go_wp2_with fail
                go_roundw
                case rel => exact ⟨j2 + 1, by omega, by go_num, HE.out, below_step HB3.out A4'.out⟩
                case measure => simp [intOf]; omega
            · obtain rfl : m3 = j2 := by omega
              have HE : Hid (((p.rules.take (j + 1)).any fun r => r.ob.any fun y => decide (y = ⟨xo, xk, xa⟩)) = false) := by
                show _ = _
                have h := HNO3.out
                rw [List.take_of_length_le (by have := HL3'.out; omega)] at h
                rw [HS.out, HNO.out, h]
                rfl
              go_wp2
              go_roundw
              case rel => exact ⟨j + 1, by omega, by go_num, HE.out, below_step HB2.out HB3.out⟩
              case measure => simp [intOf]; omega
        · obtain rfl : n2 = j := by omega
          have HN2 : Hid ((p.rules.any fun r => r.ob.any fun y => decide (y = ⟨xo, xk, xa⟩)) = false) := by have h := HNO.out; rw [List.take_of_length_le (by have := HL2.out; omega)] at h; exact h
          have q5 := OPW2.out.cell 5
          clear HNO q4
          go_wp2
          go_loopw [46] (fun i wq => ∃ j2 : Nat, j2 ≤ n3 ∧ i = .int .i64 j2 ∧ (p.kids.take j2).any (amongP ⟨xo, xk, xa⟩) = false ∧ Below ((w.alloc (.cells #[.int .i64 xo, .int .i64 xk, .string xa] 42)).alloc (.cells #[.string p.id, .bool p.set, .int .i64 p.alg, .slice A1 n1 k1, .slice A2 n2 k2, .slice A3 n3 k3, .slice A4 n4 k4] 28)).heap.size ((w.alloc (.cells #[.int .i64 xo, .int .i64 xk, .string xa] 42)).alloc (.cells #[.string p.id, .bool p.set, .int .i64 p.alg, .slice A1 n1 k1, .slice A2 n2 k2, .slice A3 n3 k3, .slice A4 n4 k4] 28)) wq) (fun i _ => n3 - (intOf i).toNat)
          case atStart => exact ⟨0, Nat.zero_le _, rfl, by simp, HB2.out⟩
          case round =>
            obtain ⟨wi, hwi⟩ : ∃ wi, wi = wr := ⟨wr, rfl⟩
            subst hwi
            obtain ⟨j2, hj2, rfl, hno, hb⟩ := hrel
            have HNO3 := Lib.hid hno
            have HB3 := Lib.hid hb
            have HW3 := Lib.hid (below_step A0.out hb)
            have OXW3 := Lib.hid (OX.out.below hb OX.out.lt)
            clear hno hb
            by_cases hlt3 : j2 < n3
            · obtain ⟨b, o, kid, d', B1, m1, d1, B2, m2, d2, B3, m3, d3, B4, m4, d4, rfl, hRb, hbl, hx, hd, ⟨hid, halg⟩, ⟨x0, x1, x2, x3, x4, x5, x6⟩, t1, t2, t3, t4⟩ := (H3.out.keep (Kept.all HW3.out R) (fun _ h _ => h)).at_ hlt3
              have HS := Lib.hid (any_step (amongP ⟨xo, xk, xa⟩) hx)
              have HAT := Lib.hid (any_at (amongP ⟨xo, xk, xa⟩) hx)
              have a3 : Below wi.heap.size wi (wi.alloc (.cells #[.string kid.id, .bool kid.set, .int .i64 kid.alg, .slice B1 m1 d1, .slice B2 m2 d2, .slice B3 m3 d3, .slice B4 m4 d4] 28)) := (Below.refl _ _).alloc (Nat.le_refl _) _
              have HC := Lib.hid (HIH.out d' hd (w := wi.alloc (.cells #[.string kid.id, .bool kid.set, .int .i64 kid.alg, .slice B1 m1 d1, .slice B2 m2 d2, .slice B3 m3 d3, .slice B4 m4 d4] 28)) (A1 := B1) (n1 := m1) (k1 := d1) ⟨xo, xk, xa⟩ (t2.keep (Kept.all a3 R) (fun _ h _ => h)) (t3.keep (Kept.all a3 R) (fun _ h _ => h)) (t4.keep (Kept.all a3 R) (fun _ h _ => h)))
              have A3' := Lib.hid a3
              have OX3 := OXW3.out.below a3 OXW3.out.lt
              have z0 := OX3.cell 0
              have z1 := OX3.cell 1
              have z2 := OX3.cell 2
              clear hx hid t1 t2 t3 t4 a3 hd halg OX3
              generalize hv : amongP ⟨xo, xk, xa⟩ kid = v at *
              clear hv
              obtain ⟨ki, ks, ka, kt, kr, kk, ko⟩ := kid
              simp only [Pol.id, Pol.set, Pol.alg] at x0 x1 x2 x3 x4 x5 x6 HC A3' z0 z1 z2
              go_wp2_with fail
              refine HC.out.mono ?_
              rintro z w3 ⟨rfl, hb⟩
              have B5 := Lib.hid (below_step A3'.out hb)
              clear hb z0 z1 z2
              cases v
              · have HE : Hid ((p.kids.take (j2 + 1)).any (amongP ⟨xo, xk, xa⟩) = false) := by show _ = _; rw [HS.out, HNO3.out]; rfl
                go_wp2_with fail
                go_roundw
                case rel => exact ⟨j2 + 1, by omega, by go_num, HE.out, below_step HB3.out B5.out⟩
                case measure => simp [intOf]; omega
              · have HE : Hid (res = true) := by show _ = _; rw [HV.out, HAT.out rfl]; simp
                go_wp2_with fail
                go_ret
                exact ⟨by rw [HE.out]; rfl, below_step HW3.out B5.out⟩
            · obtain rfl : n3 = j2 := by omega
              have HE : Hid (res = false) := by
                show _ = _
                have h := HNO3.out
                rw [List.take_of_length_le (by have := HL3.out; omega)] at h
                rw [HV.out, HN4.out, HN2.out, h]
                rfl
              go_wp2
              go_ret
              exact ⟨by rw [HE.out]; rfl, HW3.out⟩
theorem among_all : ∀ d, AmOk d
  | 0 => among_step 0 (fun d' h => by omega)
  | d + 1 => among_step (d + 1) (fun d' h => by obtain rfl : d = d' := by omega
                                                exact among_all d)
end Go.Proofs.YtmoglaknmlhpgaaGreat

