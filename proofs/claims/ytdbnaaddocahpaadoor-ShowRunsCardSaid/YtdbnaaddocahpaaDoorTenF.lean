/- Several texts in one: KeepPol, KeepIs, Gr, KeepCopyT, GrPol. -/
import Derived.Test.YtdbnaaddocahpaaDoorTenE
import Derived.Test.YtdbnaaddocahpaaDoorTenD
import Derived.Laws.ResultCell
/- bailiffkeep: how much of a policy may be gone through. -/
namespace Go.Proofs.YtdbnaaddocahpaaDoor
set_option linter.unusedVariables false
open Go.RowKit

def nodC (n : Nod) : Nat := textC n.a.name + textC n.v.s
def ruleC (r : Rul) : Nat := textC r.id + tgC r.tg + r.cond.length + dutsC r.ob + sumC nodC r.cond
def polC : Nat → Pol → Nat
  | 0, _ => 0
  | d + 1, p => 1 + p.rules.length + textC p.id + tgC p.tg + dutsC p.ob + sumC ruleC p.rules + sumC (polC d) p.kids
/-- A policy whose kids are of no more than so many depths. -/
def KOk (d : Nat) : Prop :=
  ∀ {w : World} {R : Nat → Prop} {g m : Nat} {p : Pol} {A1 A2 A3 A4 : Option Addr} {n1 k1 n2 k2 n3 k3 n4 k4 : Nat}, Lf w g m → m ≤ 3000 → (∀ b, R b → b ≠ g) → p.id.size ≤ maxLen →
    Tg w R A1 n1 k1 p.tg → Rus w R A2 n2 k2 p.rules → Pls w R d A3 n3 k3 p.kids → Dus w R A4 n4 k4 p.ob →
    Taking 13 #[.pointer (some ⟨g, 0, none⟩), .agg #[.string p.id, .bool p.set, .int .i64 p.alg, .slice A1 n1 k1, .slice A2 n2 k2, .slice A3 n3 k3, .slice A4 n4 k4]] w g m (polC (d + 1) p)
theorem Lf.only {w w' : World} {g m : Nat} (h : Lf w g m) (r : Nat) (ho : Only r w w') (hr : g ≠ r) : Lf w' g m := Ob.keep h (ho.heap (Ob.lt h) hr)


set_option maxRecDepth 100000 in
set_option maxHeartbeats 6400000 in
theorem kpol_step (d : Nat) (ih : ∀ d', d = d' + 1 → KOk d') : KOk d := by
  intro w R g m p A1 A2 A3 A4 n1 k1 n2 k2 n3 k3 n4 k4 hl hm hR hid h1 h2 h3 h4
  have big2 := Rw.big h2
  have big3 := Rw.big h3
  have cap2 := Rw.cap h2
  have cap3 := Rw.cap h3
  have le2 := Rw.le h2
  have le3 := Rw.le h3
  unfold maxLen at cap2 cap3
  have HL2 := Lib.hid (Rw.len h2)
  have HL3 := Lib.hid (Rw.len h3)
  have H1 := Lib.hid h1
  have H2 := Lib.hid h2
  have H3 := Lib.hid h3
  have H4 := Lib.hid h4
  have HR := Lib.hid hR
  have HM := Lib.hid hm
  have HID := Lib.hid hid
  have hgn : w.heap.size ≠ g := by have := hl.lt; omega
  have Xhs : Hid (Ob (w.alloc (.cells #[.string p.id, .bool p.set, .int .i64 p.alg, .slice A1 n1 k1, .slice A2 n2 k2, .slice A3 n3 k3, .slice A4 n4 k4] 43)) w.heap.size 43 #[.string p.id, .bool p.set, .int .i64 p.alg, .slice A1 n1 k1, .slice A2 n2 k2, .slice A3 n3 k3, .slice A4 n4 k4]) := Ob.made _ _ _
  have hC0 := Lib.hid (takes1_any (n := n2) (hl.alloc (.cells #[.string p.id, .bool p.set, .int .i64 p.alg, .slice A1 n1 k1, .slice A2 n2 k2, .slice A3 n3 k3, .slice A4 n4 k4] 43)) hm (by unfold maxLen; omega))
  unfold Taking
  have HC : Hid (polC (d + 1) p = 1 + n2 + textC p.id + tgC p.tg + dutsC p.ob + sumC ruleC p.rules + sumC (polC d) p.kids) := by show polC (d + 1) p = _; unfold polC; rw [HL2.out]
  generalize polC (d + 1) p = cc at *
  clear hl hm hR hid h1 h2 h3 h4
  by_cases o0 : 1 + n2 ≤ m
  · rw [decide_eq_true o0] at hC0
    have Ok0 := Lib.hid o0
    clear o0
    by_cases o1 : textC p.id ≤ m - (1 + n2)
    · have dd1 := decide_eq_true o1
      have Ok1 := Lib.hid o1
      clear o1
      by_cases o2 : tgC p.tg ≤ m - (1 + n2) - textC p.id
      · have dd2 := decide_eq_true o2
        have Ok2 := Lib.hid o2
        clear o2
        by_cases o3 : dutsC p.ob ≤ m - (1 + n2) - textC p.id - tgC p.tg
        · have dd3 := decide_eq_true o3
          have Ok3 := Lib.hid o3
          clear o3
          go_enter Tryd.func13, Tryd.ntmps13
          go_wp2_with (first
            | (go_at_call 26; (with_reducible refine hC0.out.mono ?_); rintro e vh0 ⟨rfl, hb, hw⟩; have Bh0 := Lib.hid hb; have Lh0 := Lib.hid (hw Ok0.out); have Xh0 := Lib.hid (Xhs.out.keep (hb.heap Xhs.out.lt hgn)); have yh00 := Xh0.out.cell 0; have hC1 := Lib.hid (ktext_any p.id Lh0.out (by have := HM.out; omega) HID.out); unfold Taking at hC1; rw [dd1] at hC1; clear hb hw)
            | (go_at_call 27; (with_reducible refine hC1.out.mono ?_); rintro e vh1 ⟨rfl, hb, hw⟩; have Bh1 := Lib.hid hb; have Lh1 := Lib.hid (hw Ok1.out); have Xh1 := Lib.hid (Xh0.out.keep (hb.heap Xh0.out.lt hgn)); have yh13 := Xh1.out.cell 3; have hC2 := Lib.hid (ktarget_any Lh1.out (by have := HM.out; omega) HR.out (H1.out.keep ((((Only.alloc g w (.cells #[.string p.id, .bool p.set, .int .i64 p.alg, .slice A1 n1 k1, .slice A2 n2 k2, .slice A3 n3 k3, .slice A4 n4 k4] 43)).trans Bh0.out).trans Bh1.out).kept HR.out) (fun _ h _ => h))); unfold Taking at hC2; rw [dd2] at hC2; clear hb hw)
            | (go_at_call 28; (with_reducible refine hC2.out.mono ?_); rintro e vh2 ⟨rfl, hb, hw⟩; have Bh2 := Lib.hid hb; have Lh2 := Lib.hid (hw Ok2.out); have Xh2 := Lib.hid (Xh1.out.keep (hb.heap Xh1.out.lt hgn)); have yh26 := Xh2.out.cell 6; have hC3 := Lib.hid (kobls_any Lh2.out (by have := HM.out; omega) HR.out (H4.out.keep (((((Only.alloc g w (.cells #[.string p.id, .bool p.set, .int .i64 p.alg, .slice A1 n1 k1, .slice A2 n2 k2, .slice A3 n3 k3, .slice A4 n4 k4] 43)).trans Bh0.out).trans Bh1.out).trans Bh2.out).kept HR.out) (fun _ h _ => h))); unfold Taking at hC3; rw [dd3] at hC3; clear hb hw)
            | (go_at_call 29; (with_reducible refine hC3.out.mono ?_); rintro e vh3 ⟨rfl, hb, hw⟩; have Bh3 := Lib.hid hb; have Lh3 := Lib.hid (hw Ok3.out); have Xh3 := Lib.hid (Xh2.out.keep (hb.heap Xh2.out.lt hgn)); have yh34 := Xh3.out.cell 4; have yh35 := Xh3.out.cell 5; clear hb hw))
          have G3 := Lib.hid (((((Only.alloc g w (.cells #[.string p.id, .bool p.set, .int .i64 p.alg, .slice A1 n1 k1, .slice A2 n2 k2, .slice A3 n3 k3, .slice A4 n4 k4] 43)).trans Bh0.out).trans Bh1.out).trans Bh2.out).trans Bh3.out)
          obtain ⟨m4, hm4⟩ : ∃ m4, m4 = m - (1 + n2) - textC p.id - tgC p.tg - dutsC p.ob := ⟨_, rfl⟩
          rw [← hm4] at Lh3
          have M4 : Hid (m4 + (1 + n2 + textC p.id + tgC p.tg + dutsC p.ob) = m) := by have := Ok0.out; have := Ok1.out; have := Ok2.out; have := Ok3.out; show m4 + _ = m; omega
          clear hm4 Bh0 Bh1 Bh2 Bh3 Lh0 Lh1 Lh2 Xh0 Xh1 Xh2 hC0 hC1 hC2 hC3 Ok0 Ok1 Ok2 Ok3 yh00 yh13 yh26
          go_loopw [42] (fun i wr => ∃ k mk : Nat, k ≤ n2 ∧ i = .int .i64 k ∧ sumC ruleC (p.rules.take k) + mk = m4 ∧ Lf wr g mk ∧ Only g vh3 wr) (fun i _ => n2 - (intOf i).toNat)
          case atStart => exact ⟨0, m4, Nat.zero_le _, rfl, by rw [sumC_zero]; omega, Lh3.out, Only.refl⟩
          case round =>
            obtain ⟨wo, hwo⟩ : ∃ wo, wo = wr := ⟨wr, rfl⟩
            subst hwo
            obtain ⟨k, mk, hk, rfl, hs, hlf, hb⟩ := hrel
            have HS := Lib.hid hs
            have HB := Lib.hid hb
            have HF := Lib.hid hlf
            clear hs hb hlf yh34 yh35
            by_cases hlt : k < n2
            · obtain ⟨b, o, x, B1, j1, q1, B2, j2, q2, B3, j3, q3, rfl, hRb, hbl, hx, xid, ⟨c0, c1, c2, c3, c4⟩, t1, t2, t3⟩ := (H2.out.keep ((G3.out.trans HB.out).kept HR.out) (fun _ h _ => h)).at_ hlt
              have HX := Lib.hid hx
              have HSX := Lib.hid (sumC_le (f := ruleC) hx)
              have HT1 := Lib.hid t1
              have HT2 := Lib.hid t2
              have HT3 := Lib.hid t3
              have HXID := Lib.hid xid
              have big2' := Rw.big t2
              have le2' := Rw.le t2
              have cap2' := Rw.cap t2
              have HLC := Lib.hid (Rw.len t2)
              have HEX : Hid (ruleC x = textC x.id + tgC x.tg + j2 + dutsC x.ob + sumC nodC x.cond) := by show ruleC x = _; unfold ruleC; rw [HLC.out]
              have hne : wo.heap.size ≠ g := by have := HF.out.lt; omega
              have Xrs : Hid (Ob (wo.alloc (.cells #[.string x.id, .bool x.deny, .slice B1 j1 q1, .slice B2 j2 q2, .slice B3 j3 q3] 37)) wo.heap.size 37 #[.string x.id, .bool x.deny, .slice B1 j1 q1, .slice B2 j2 q2, .slice B3 j3 q3]) := Ob.made _ _ _
              have rC0 := Lib.hid (ktext_any x.id (HF.out.alloc (.cells #[.string x.id, .bool x.deny, .slice B1 j1 q1, .slice B2 j2 q2, .slice B3 j3 q3] 37)) (by have := HS.out; have := M4.out; have := HM.out; omega) HXID.out)
              unfold Taking at rC0
              unfold maxLen at cap2'
              clear hx t1 t2 t3 xid
              by_cases hr0 : textC x.id ≤ mk
              · rw [decide_eq_true hr0] at rC0
                have Rk0 := Lib.hid hr0
                clear hr0
                by_cases hr1 : tgC x.tg ≤ mk - textC x.id
                · have rr1 := decide_eq_true hr1
                  have Rk1 := Lib.hid hr1
                  clear hr1
                  by_cases hr2 : j2 ≤ mk - textC x.id - tgC x.tg
                  · have rr2 := decide_eq_true hr2
                    have Rk2 := Lib.hid hr2
                    clear hr2
                    by_cases hr3 : dutsC x.ob ≤ mk - textC x.id - tgC x.tg - j2
                    · have rr3 := decide_eq_true hr3
                      have Rk3 := Lib.hid hr3
                      clear hr3
                      go_wp2_with (first
                        | (go_at_call 27; (with_reducible refine rC0.out.mono ?_); rintro e vr0 ⟨rfl, hb, hw⟩; have Br0 := Lib.hid hb; have Lr0 := Lib.hid (hw Rk0.out); have Xr0 := Lib.hid (Xrs.out.keep (hb.heap Xrs.out.lt hne)); have yr02 := Xr0.out.cell 2; have rC1 := Lib.hid (ktarget_any Lr0.out (by have := HS.out; have := M4.out; have := HM.out; omega) HR.out (HT1.out.keep (((Only.alloc g wo (.cells #[.string x.id, .bool x.deny, .slice B1 j1 q1, .slice B2 j2 q2, .slice B3 j3 q3] 37)).trans Br0.out).kept HR.out) (fun _ h _ => h))); unfold Taking at rC1; rw [rr1] at rC1; clear hb hw)
                        | (go_at_call 28; (with_reducible refine rC1.out.mono ?_); rintro e vr1 ⟨rfl, hb, hw⟩; have Br1 := Lib.hid hb; have Lr1 := Lib.hid (hw Rk1.out); have Xr1 := Lib.hid (Xr0.out.keep (hb.heap Xr0.out.lt hne)); have yr13 := Xr1.out.cell 3; have rC2 := Lib.hid (takes_any (n := j2) Lr1.out (by have := HS.out; have := M4.out; have := HM.out; omega) (by unfold maxLen; omega)); unfold Taking at rC2; rw [rr2] at rC2; clear hb hw)
                        | (go_at_call 26; (with_reducible refine rC2.out.mono ?_); rintro e vr2 ⟨rfl, hb, hw⟩; have Br2 := Lib.hid hb; have Lr2 := Lib.hid (hw Rk2.out); have Xr2 := Lib.hid (Xr1.out.keep (hb.heap Xr1.out.lt hne)); have yr24 := Xr2.out.cell 4; have rC3 := Lib.hid (kobls_any Lr2.out (by have := HS.out; have := M4.out; have := HM.out; omega) HR.out (HT3.out.keep (((((Only.alloc g wo (.cells #[.string x.id, .bool x.deny, .slice B1 j1 q1, .slice B2 j2 q2, .slice B3 j3 q3] 37)).trans Br0.out).trans Br1.out).trans Br2.out).kept HR.out) (fun _ h _ => h))); unfold Taking at rC3; rw [rr3] at rC3; clear hb hw)
                        | (go_at_call 29; (with_reducible refine rC3.out.mono ?_); rintro e vr3 ⟨rfl, hb, hw⟩; have Br3 := Lib.hid hb; have Lr3 := Lib.hid (hw Rk3.out); have Xr3 := Lib.hid (Xr2.out.keep (hb.heap Xr2.out.lt hne)); have yr33 := Xr3.out.cell 3; clear hb hw))
                      have GR := Lib.hid (((((Only.alloc g wo (.cells #[.string x.id, .bool x.deny, .slice B1 j1 q1, .slice B2 j2 q2, .slice B3 j3 q3] 37)).trans Br0.out).trans Br1.out).trans Br2.out).trans Br3.out)
                      obtain ⟨m5, hm5⟩ : ∃ m5, m5 = mk - textC x.id - tgC x.tg - j2 - dutsC x.ob := ⟨_, rfl⟩
                      rw [← hm5] at Lr3
                      have M5 : Hid (m5 + (textC x.id + tgC x.tg + j2 + dutsC x.ob) = mk) := by have := Rk0.out; have := Rk1.out; have := Rk2.out; have := Rk3.out; show m5 + _ = mk; omega
                      clear hm5 Br0 Br1 Br2 Br3 Lr0 Lr1 Lr2 Xr0 Xr1 Xr2 rC0 rC1 rC2 rC3 Rk0 Rk1 Rk2 Rk3 yr02 yr13 yr24
                      go_loopw [76] (fun i wr => ∃ k3 m3 : Nat, k3 ≤ j2 ∧ i = .int .i64 k3 ∧ sumC nodC (x.cond.take k3) + m3 = m5 ∧ Lf wr g m3 ∧ Only g vr3 wr) (fun i _ => j2 - (intOf i).toNat)
                      case atStart => exact ⟨0, m5, Nat.zero_le _, rfl, by rw [sumC_zero]; omega, Lr3.out, Only.refl⟩
                      case round =>
                        obtain ⟨wz, hwz⟩ : ∃ wz, wz = wr := ⟨wr, rfl⟩
                        subst hwz
                        obtain ⟨k3, m3, hk3, rfl, hs, hlf, hb⟩ := hrel
                        have HS3 := Lib.hid hs
                        have HB3 := Lib.hid hb
                        have HF3 := Lib.hid hlf
                        clear hs hb hlf yr33
                        by_cases hlt3 : k3 < j2
                        · obtain ⟨b3, o3, z, rfl, hRb3, hbl3, hz, hok, f0, f1, f2, f3, f4, f5, f6⟩ := (HT2.out.keep ((GR.out.trans HB3.out).kept HR.out) (fun _ h _ => h)).at_ hlt3
                          have HZ := Lib.hid hz
                          have HSZ := Lib.hid (sumC_le (f := nodC) hz)
                          have HEZ : Hid (nodC z = textC z.a.name + textC z.v.s) := rfl
                          have zC0 := Lib.hid (ktext_any z.a.name (HF3.out.alloc (.cells #[.int .i64 z.op, .int .i64 z.v.k, .int .i64 z.v.n, .string z.v.s, .int .i64 z.a.cat, .string z.a.name, .bool z.a.must] 33)) (by have := HS3.out; have := M5.out; have := HS.out; have := M4.out; have := HM.out; omega) hok.2.2.2)
                          unfold Taking at zC0
                          have HOK := Lib.hid hok
                          have hnz : wz.heap.size ≠ g := by have := HF3.out.lt; omega
                          have Xzs : Hid (Ob (wz.alloc (.cells #[.int .i64 z.op, .int .i64 z.v.k, .int .i64 z.v.n, .string z.v.s, .int .i64 z.a.cat, .string z.a.name, .bool z.a.must] 33)) wz.heap.size 33 #[.int .i64 z.op, .int .i64 z.v.k, .int .i64 z.v.n, .string z.v.s, .int .i64 z.a.cat, .string z.a.name, .bool z.a.must]) := Ob.made _ _ _
                          clear hz hok
                          by_cases hz0 : textC z.a.name ≤ m3
                          · rw [decide_eq_true hz0] at zC0
                            have Zk0 := Lib.hid hz0
                            clear hz0
                            by_cases hz1 : textC z.v.s ≤ m3 - textC z.a.name
                            · have zz1 := decide_eq_true hz1
                              have Zk1 := Lib.hid hz1
                              clear hz1
                              go_wp2_with (first
                                | (go_at_call 27; (with_reducible refine zC0.out.mono ?_); rintro e vz0 ⟨rfl, hb, hw⟩; have Bz0 := Lib.hid hb; have Lz0 := Lib.hid (hw Zk0.out); have Xz0 := Lib.hid (Xzs.out.keep (hb.heap Xzs.out.lt hnz)); have yz03 := Xz0.out.cell 3; have zC1 := Lib.hid (ktext_any z.v.s Lz0.out (by have := HS3.out; have := M5.out; have := HS.out; have := M4.out; have := HM.out; omega) HOK.out.2.1.2.2); unfold Taking at zC1; rw [zz1] at zC1; clear hb hw)
                                | (go_at_call 27; (with_reducible refine zC1.out.mono ?_); rintro e vz1 ⟨rfl, hb, hw⟩; have Bz1 := Lib.hid hb; have Lz1 := Lib.hid (hw Zk1.out); have Xz1 := Lib.hid (Xz0.out.keep (hb.heap Xz0.out.lt hnz)); clear hb hw))
                              go_roundw
                              case rel => exact ⟨k3 + 1, m3 - textC z.a.name - textC z.v.s, by omega, by go_num, by rw [sumC_take HZ.out, HEZ.out]; have := HS3.out; have := Zk0.out; have := Zk1.out; omega, Lz1.out, (HB3.out.trans (((Only.alloc g wz (.cells #[.int .i64 z.op, .int .i64 z.v.k, .int .i64 z.v.n, .string z.v.s, .int .i64 z.a.cat, .string z.a.name, .bool z.a.must] 33)).trans Bz0.out).trans Bz1.out))⟩
                              case measure => simp [intOf]; omega
                            · have zz1 := decide_eq_false hz1
                              have Zn1 := Lib.hid hz1
                              clear hz1
                              go_wp2_with (first
                                | (go_at_call 27; (with_reducible refine zC0.out.mono ?_); rintro e vz0 ⟨rfl, hb, hw⟩; have Bz0 := Lib.hid hb; have Lz0 := Lib.hid (hw Zk0.out); have Xz0 := Lib.hid (Xzs.out.keep (hb.heap Xzs.out.lt hnz)); have yz03 := Xz0.out.cell 3; have zC1 := Lib.hid (ktext_any z.v.s Lz0.out (by have := HS3.out; have := M5.out; have := HS.out; have := M4.out; have := HM.out; omega) HOK.out.2.1.2.2); unfold Taking at zC1; rw [zz1] at zC1; clear hb hw)
                                | (go_at_call 27; (with_reducible refine zC1.out.mono ?_); rintro e vz1 ⟨rfl, hb, hw⟩; have Bz1 := Lib.hid hb; clear hb hw))
                              go_ret
                              have hbad : ¬ cc ≤ m := by have := HC.out; have := HS.out; have := M4.out; have := HSX.out; have := HEX.out; have := M5.out; have := HS3.out; have := HSZ.out; have := HEZ.out; have := Zk0.out; have := Zn1.out; omega
                              exact ⟨ret_bool (decide_eq_false hbad).symm, ((((G3.out.trans HB.out).trans GR.out).trans HB3.out).trans (((Only.alloc g wz (.cells #[.int .i64 z.op, .int .i64 z.v.k, .int .i64 z.v.n, .string z.v.s, .int .i64 z.a.cat, .string z.a.name, .bool z.a.must] 33)).trans Bz0.out).trans Bz1.out)), fun h => absurd h hbad⟩
                          · rw [decide_eq_false hz0] at zC0
                            have Zn0 := Lib.hid hz0
                            clear hz0
                            go_wp2_with (first
                              | (go_at_call 27; (with_reducible refine zC0.out.mono ?_); rintro e vz0 ⟨rfl, hb, hw⟩; have Bz0 := Lib.hid hb; clear hb hw))
                            go_ret
                            have hbad : ¬ cc ≤ m := by have := HC.out; have := HS.out; have := M4.out; have := HSX.out; have := HEX.out; have := M5.out; have := HS3.out; have := HSZ.out; have := HEZ.out; have := Zn0.out; omega
                            exact ⟨ret_bool (decide_eq_false hbad).symm, ((((G3.out.trans HB.out).trans GR.out).trans HB3.out).trans ((Only.alloc g wz (.cells #[.int .i64 z.op, .int .i64 z.v.k, .int .i64 z.v.n, .string z.v.s, .int .i64 z.a.cat, .string z.a.name, .bool z.a.must] 33)).trans Bz0.out)), fun h => absurd h hbad⟩
                        · obtain rfl : k3 = j2 := by omega
                          go_wp2
                          go_roundw
                          case rel =>
                            have hs := HS3.out
                            rw [sumC_all HLC.out] at hs
                            exact ⟨k + 1, m3, by omega, by go_num, by rw [sumC_take HX.out, HEX.out]; have := HS.out; have := M5.out; omega, HF3.out, ((HB.out.trans GR.out).trans HB3.out)⟩
                          case measure => simp [intOf]; omega
                    · have rr3 := decide_eq_false hr3
                      have Rn3 := Lib.hid hr3
                      clear hr3
                      go_wp2_with (first
                        | (go_at_call 27; (with_reducible refine rC0.out.mono ?_); rintro e vr0 ⟨rfl, hb, hw⟩; have Br0 := Lib.hid hb; have Lr0 := Lib.hid (hw Rk0.out); have Xr0 := Lib.hid (Xrs.out.keep (hb.heap Xrs.out.lt hne)); have yr02 := Xr0.out.cell 2; have rC1 := Lib.hid (ktarget_any Lr0.out (by have := HS.out; have := M4.out; have := HM.out; omega) HR.out (HT1.out.keep (((Only.alloc g wo (.cells #[.string x.id, .bool x.deny, .slice B1 j1 q1, .slice B2 j2 q2, .slice B3 j3 q3] 37)).trans Br0.out).kept HR.out) (fun _ h _ => h))); unfold Taking at rC1; rw [rr1] at rC1; clear hb hw)
                        | (go_at_call 28; (with_reducible refine rC1.out.mono ?_); rintro e vr1 ⟨rfl, hb, hw⟩; have Br1 := Lib.hid hb; have Lr1 := Lib.hid (hw Rk1.out); have Xr1 := Lib.hid (Xr0.out.keep (hb.heap Xr0.out.lt hne)); have yr13 := Xr1.out.cell 3; have rC2 := Lib.hid (takes_any (n := j2) Lr1.out (by have := HS.out; have := M4.out; have := HM.out; omega) (by unfold maxLen; omega)); unfold Taking at rC2; rw [rr2] at rC2; clear hb hw)
                        | (go_at_call 26; (with_reducible refine rC2.out.mono ?_); rintro e vr2 ⟨rfl, hb, hw⟩; have Br2 := Lib.hid hb; have Lr2 := Lib.hid (hw Rk2.out); have Xr2 := Lib.hid (Xr1.out.keep (hb.heap Xr1.out.lt hne)); have yr24 := Xr2.out.cell 4; have rC3 := Lib.hid (kobls_any Lr2.out (by have := HS.out; have := M4.out; have := HM.out; omega) HR.out (HT3.out.keep (((((Only.alloc g wo (.cells #[.string x.id, .bool x.deny, .slice B1 j1 q1, .slice B2 j2 q2, .slice B3 j3 q3] 37)).trans Br0.out).trans Br1.out).trans Br2.out).kept HR.out) (fun _ h _ => h))); unfold Taking at rC3; rw [rr3] at rC3; clear hb hw)
                        | (go_at_call 29; (with_reducible refine rC3.out.mono ?_); rintro e vr3 ⟨rfl, hb, hw⟩; have Br3 := Lib.hid hb; clear hb hw))
                      go_ret
                      have hbad : ¬ cc ≤ m := by have := HC.out; have := HS.out; have := M4.out; have := HSX.out; have := HEX.out; have := Rk0.out; have := Rk1.out; have := Rk2.out; have := Rn3.out; omega
                      exact ⟨ret_bool (decide_eq_false hbad).symm, ((G3.out.trans HB.out).trans (((((Only.alloc g wo (.cells #[.string x.id, .bool x.deny, .slice B1 j1 q1, .slice B2 j2 q2, .slice B3 j3 q3] 37)).trans Br0.out).trans Br1.out).trans Br2.out).trans Br3.out)), fun h => absurd h hbad⟩
                  · have rr2 := decide_eq_false hr2
                    have Rn2 := Lib.hid hr2
                    clear hr2
                    go_wp2_with (first
                      | (go_at_call 27; (with_reducible refine rC0.out.mono ?_); rintro e vr0 ⟨rfl, hb, hw⟩; have Br0 := Lib.hid hb; have Lr0 := Lib.hid (hw Rk0.out); have Xr0 := Lib.hid (Xrs.out.keep (hb.heap Xrs.out.lt hne)); have yr02 := Xr0.out.cell 2; have rC1 := Lib.hid (ktarget_any Lr0.out (by have := HS.out; have := M4.out; have := HM.out; omega) HR.out (HT1.out.keep (((Only.alloc g wo (.cells #[.string x.id, .bool x.deny, .slice B1 j1 q1, .slice B2 j2 q2, .slice B3 j3 q3] 37)).trans Br0.out).kept HR.out) (fun _ h _ => h))); unfold Taking at rC1; rw [rr1] at rC1; clear hb hw)
                      | (go_at_call 28; (with_reducible refine rC1.out.mono ?_); rintro e vr1 ⟨rfl, hb, hw⟩; have Br1 := Lib.hid hb; have Lr1 := Lib.hid (hw Rk1.out); have Xr1 := Lib.hid (Xr0.out.keep (hb.heap Xr0.out.lt hne)); have yr13 := Xr1.out.cell 3; have rC2 := Lib.hid (takes_any (n := j2) Lr1.out (by have := HS.out; have := M4.out; have := HM.out; omega) (by unfold maxLen; omega)); unfold Taking at rC2; rw [rr2] at rC2; clear hb hw)
                      | (go_at_call 26; (with_reducible refine rC2.out.mono ?_); rintro e vr2 ⟨rfl, hb, hw⟩; have Br2 := Lib.hid hb; clear hb hw))
                    go_ret
                    have hbad : ¬ cc ≤ m := by have := HC.out; have := HS.out; have := M4.out; have := HSX.out; have := HEX.out; have := Rk0.out; have := Rk1.out; have := Rn2.out; omega
                    exact ⟨ret_bool (decide_eq_false hbad).symm, ((G3.out.trans HB.out).trans ((((Only.alloc g wo (.cells #[.string x.id, .bool x.deny, .slice B1 j1 q1, .slice B2 j2 q2, .slice B3 j3 q3] 37)).trans Br0.out).trans Br1.out).trans Br2.out)), fun h => absurd h hbad⟩
                · have rr1 := decide_eq_false hr1
                  have Rn1 := Lib.hid hr1
                  clear hr1
                  go_wp2_with (first
                    | (go_at_call 27; (with_reducible refine rC0.out.mono ?_); rintro e vr0 ⟨rfl, hb, hw⟩; have Br0 := Lib.hid hb; have Lr0 := Lib.hid (hw Rk0.out); have Xr0 := Lib.hid (Xrs.out.keep (hb.heap Xrs.out.lt hne)); have yr02 := Xr0.out.cell 2; have rC1 := Lib.hid (ktarget_any Lr0.out (by have := HS.out; have := M4.out; have := HM.out; omega) HR.out (HT1.out.keep (((Only.alloc g wo (.cells #[.string x.id, .bool x.deny, .slice B1 j1 q1, .slice B2 j2 q2, .slice B3 j3 q3] 37)).trans Br0.out).kept HR.out) (fun _ h _ => h))); unfold Taking at rC1; rw [rr1] at rC1; clear hb hw)
                    | (go_at_call 28; (with_reducible refine rC1.out.mono ?_); rintro e vr1 ⟨rfl, hb, hw⟩; have Br1 := Lib.hid hb; clear hb hw))
                  go_ret
                  have hbad : ¬ cc ≤ m := by have := HC.out; have := HS.out; have := M4.out; have := HSX.out; have := HEX.out; have := Rk0.out; have := Rn1.out; omega
                  exact ⟨ret_bool (decide_eq_false hbad).symm, ((G3.out.trans HB.out).trans (((Only.alloc g wo (.cells #[.string x.id, .bool x.deny, .slice B1 j1 q1, .slice B2 j2 q2, .slice B3 j3 q3] 37)).trans Br0.out).trans Br1.out)), fun h => absurd h hbad⟩
              · rw [decide_eq_false hr0] at rC0
                have Rn0 := Lib.hid hr0
                clear hr0
                go_wp2_with (first
                  | (go_at_call 27; (with_reducible refine rC0.out.mono ?_); rintro e vr0 ⟨rfl, hb, hw⟩; have Br0 := Lib.hid hb; clear hb hw))
                go_ret
                have hbad : ¬ cc ≤ m := by have := HC.out; have := HS.out; have := M4.out; have := HSX.out; have := HEX.out; have := Rn0.out; omega
                exact ⟨ret_bool (decide_eq_false hbad).symm, ((G3.out.trans HB.out).trans ((Only.alloc g wo (.cells #[.string x.id, .bool x.deny, .slice B1 j1 q1, .slice B2 j2 q2, .slice B3 j3 q3] 37)).trans Br0.out)), fun h => absurd h hbad⟩
            · obtain rfl : k = n2 := by omega
              have hs := HS.out
              rw [sumC_all HL2.out] at hs
              have HSR := Lib.hid hs
              clear hs
              have XR := Lib.hid (Xh3.out.keep (HB.out.heap Xh3.out.lt hgn))
              have yr5 := XR.out.cell 5
              have G5 := Lib.hid (G3.out.trans HB.out)
              go_wp2
              go_loopw [99] (fun i wr => ∃ k5 m5 : Nat, k5 ≤ n3 ∧ i = .int .i64 k5 ∧ sumC (polC d) (p.kids.take k5) + m5 = mk ∧ Lf wr g m5 ∧ Only g wo wr) (fun i _ => n3 - (intOf i).toNat)
              case atStart => exact ⟨0, mk, Nat.zero_le _, rfl, by rw [sumC_zero]; omega, HF.out, Only.refl⟩
              case round =>
                obtain ⟨wz, hwz⟩ : ∃ wz, wz = wr := ⟨wr, rfl⟩
                subst hwz
                obtain ⟨k5, m5, hk5, rfl, hs, hlf, hb⟩ := hrel
                have HS5 := Lib.hid hs
                have HB5 := Lib.hid hb
                have HF5 := Lib.hid hlf
                clear hs hb hlf yr5
                by_cases hlt5 : k5 < n3
                · obtain ⟨b5, o5, x, d', B1, j1, q1, B2, j2, q2, B3, j3, q3, B4, j4, q4, rfl, hRb5, hbl5, hx, hd, ⟨xid, xalg⟩, ⟨f0, f1, f2, f3, f4, f5, f6⟩, t1, t2, t3, t4⟩ := (H3.out.keep ((G5.out.trans HB5.out).kept HR.out) (fun _ h _ => h)).at_ hlt5
                  have HX := Lib.hid hx
                  have HSX := Lib.hid (sumC_le (f := polC d) hx)
                  have hka := (Only.alloc g wz (.cells #[.string x.id, .bool x.set, .int .i64 x.alg, .slice B1 j1 q1, .slice B2 j2 q2, .slice B3 j3 q3, .slice B4 j4 q4] 43)).kept HR.out
                  have pC := (ih d' hd) (HF5.out.alloc (.cells #[.string x.id, .bool x.set, .int .i64 x.alg, .slice B1 j1 q1, .slice B2 j2 q2, .slice B3 j3 q3, .slice B4 j4 q4] 43)) (by have := HS5.out; have := HSR.out; have := M4.out; have := HM.out; omega) HR.out xid (t1.keep hka (fun _ h _ => h)) (t2.keep hka (fun _ h _ => h)) (t3.keep hka (fun _ h _ => h)) (t4.keep hka (fun _ h _ => h))
                  unfold Taking at pC
                  rw [← hd] at pC
                  clear hx xid xalg t1 t2 t3 t4 hka
                  by_cases hp : polC d x ≤ m5
                  · rw [decide_eq_true hp] at pC
                    have PC := Lib.hid pC
                    have Pk := Lib.hid hp
                    clear hp pC
                    go_wp2_with (go_at_call 13; refine PC.out.mono ?_; rintro e v7 ⟨rfl, hb, hw⟩; have B7 := Lib.hid hb; have L7 := Lib.hid (hw Pk.out); clear hb hw)
                    go_roundw
                    case rel => exact ⟨k5 + 1, m5 - polC d x, by omega, by go_num, by rw [sumC_take HX.out]; have := HS5.out; have := Pk.out; omega, L7.out, HB5.out.trans ((Only.alloc _ _ _).trans B7.out)⟩
                    case measure => simp [intOf]; omega
                  · rw [decide_eq_false hp] at pC
                    have PC := Lib.hid pC
                    have Pn := Lib.hid hp
                    clear hp pC
                    go_wp2_with (go_at_call 13; refine PC.out.mono ?_; rintro e v7 ⟨rfl, hb, hw⟩; have B7 := Lib.hid hb; clear hb hw)
                    go_ret
                    have hbad : ¬ cc ≤ m := by have := HC.out; have := HSR.out; have := M4.out; have := HS5.out; have := HSX.out; have := Pn.out; omega
                    exact ⟨ret_bool (decide_eq_false hbad).symm, G5.out.trans (HB5.out.trans ((Only.alloc _ _ _).trans B7.out)), fun h => absurd h hbad⟩
                · obtain rfl : k5 = n3 := by omega
                  go_wp2
                  go_ret
                  have hs := HS5.out
                  rw [sumC_all HL3.out] at hs
                  have h1 := HC.out
                  have h2 := HSR.out
                  have h3 := M4.out
                  exact ⟨ret_bool (decide_eq_true (by omega)).symm, G5.out.trans HB5.out, fun _ => by rw [show m - cc = m5 by omega]; exact HF5.out⟩
        · have dd3 := decide_eq_false o3
          have No3 := Lib.hid o3
          clear o3
          go_enter Tryd.func13, Tryd.ntmps13
          go_wp2_with (first
            | (go_at_call 26; (with_reducible refine hC0.out.mono ?_); rintro e vh0 ⟨rfl, hb, hw⟩; have Bh0 := Lib.hid hb; have Lh0 := Lib.hid (hw Ok0.out); have Xh0 := Lib.hid (Xhs.out.keep (hb.heap Xhs.out.lt hgn)); have yh00 := Xh0.out.cell 0; have hC1 := Lib.hid (ktext_any p.id Lh0.out (by have := HM.out; omega) HID.out); unfold Taking at hC1; rw [dd1] at hC1; clear hb hw)
            | (go_at_call 27; (with_reducible refine hC1.out.mono ?_); rintro e vh1 ⟨rfl, hb, hw⟩; have Bh1 := Lib.hid hb; have Lh1 := Lib.hid (hw Ok1.out); have Xh1 := Lib.hid (Xh0.out.keep (hb.heap Xh0.out.lt hgn)); have yh13 := Xh1.out.cell 3; have hC2 := Lib.hid (ktarget_any Lh1.out (by have := HM.out; omega) HR.out (H1.out.keep ((((Only.alloc g w (.cells #[.string p.id, .bool p.set, .int .i64 p.alg, .slice A1 n1 k1, .slice A2 n2 k2, .slice A3 n3 k3, .slice A4 n4 k4] 43)).trans Bh0.out).trans Bh1.out).kept HR.out) (fun _ h _ => h))); unfold Taking at hC2; rw [dd2] at hC2; clear hb hw)
            | (go_at_call 28; (with_reducible refine hC2.out.mono ?_); rintro e vh2 ⟨rfl, hb, hw⟩; have Bh2 := Lib.hid hb; have Lh2 := Lib.hid (hw Ok2.out); have Xh2 := Lib.hid (Xh1.out.keep (hb.heap Xh1.out.lt hgn)); have yh26 := Xh2.out.cell 6; have hC3 := Lib.hid (kobls_any Lh2.out (by have := HM.out; omega) HR.out (H4.out.keep (((((Only.alloc g w (.cells #[.string p.id, .bool p.set, .int .i64 p.alg, .slice A1 n1 k1, .slice A2 n2 k2, .slice A3 n3 k3, .slice A4 n4 k4] 43)).trans Bh0.out).trans Bh1.out).trans Bh2.out).kept HR.out) (fun _ h _ => h))); unfold Taking at hC3; rw [dd3] at hC3; clear hb hw)
            | (go_at_call 29; (with_reducible refine hC3.out.mono ?_); rintro e vh3 ⟨rfl, hb, hw⟩; have Bh3 := Lib.hid hb; clear hb hw))
          go_ret
          have hbad : ¬ cc ≤ m := by have := HC.out; have := Ok0.out; have := Ok1.out; have := Ok2.out; have := No3.out; omega
          exact ⟨ret_bool (decide_eq_false hbad).symm, (((((Only.alloc g w (.cells #[.string p.id, .bool p.set, .int .i64 p.alg, .slice A1 n1 k1, .slice A2 n2 k2, .slice A3 n3 k3, .slice A4 n4 k4] 43)).trans Bh0.out).trans Bh1.out).trans Bh2.out).trans Bh3.out), fun h => absurd h hbad⟩
      · have dd2 := decide_eq_false o2
        have No2 := Lib.hid o2
        clear o2
        go_enter Tryd.func13, Tryd.ntmps13
        go_wp2_with (first
          | (go_at_call 26; (with_reducible refine hC0.out.mono ?_); rintro e vh0 ⟨rfl, hb, hw⟩; have Bh0 := Lib.hid hb; have Lh0 := Lib.hid (hw Ok0.out); have Xh0 := Lib.hid (Xhs.out.keep (hb.heap Xhs.out.lt hgn)); have yh00 := Xh0.out.cell 0; have hC1 := Lib.hid (ktext_any p.id Lh0.out (by have := HM.out; omega) HID.out); unfold Taking at hC1; rw [dd1] at hC1; clear hb hw)
          | (go_at_call 27; (with_reducible refine hC1.out.mono ?_); rintro e vh1 ⟨rfl, hb, hw⟩; have Bh1 := Lib.hid hb; have Lh1 := Lib.hid (hw Ok1.out); have Xh1 := Lib.hid (Xh0.out.keep (hb.heap Xh0.out.lt hgn)); have yh13 := Xh1.out.cell 3; have hC2 := Lib.hid (ktarget_any Lh1.out (by have := HM.out; omega) HR.out (H1.out.keep ((((Only.alloc g w (.cells #[.string p.id, .bool p.set, .int .i64 p.alg, .slice A1 n1 k1, .slice A2 n2 k2, .slice A3 n3 k3, .slice A4 n4 k4] 43)).trans Bh0.out).trans Bh1.out).kept HR.out) (fun _ h _ => h))); unfold Taking at hC2; rw [dd2] at hC2; clear hb hw)
          | (go_at_call 28; (with_reducible refine hC2.out.mono ?_); rintro e vh2 ⟨rfl, hb, hw⟩; have Bh2 := Lib.hid hb; clear hb hw))
        go_ret
        have hbad : ¬ cc ≤ m := by have := HC.out; have := Ok0.out; have := Ok1.out; have := No2.out; omega
        exact ⟨ret_bool (decide_eq_false hbad).symm, ((((Only.alloc g w (.cells #[.string p.id, .bool p.set, .int .i64 p.alg, .slice A1 n1 k1, .slice A2 n2 k2, .slice A3 n3 k3, .slice A4 n4 k4] 43)).trans Bh0.out).trans Bh1.out).trans Bh2.out), fun h => absurd h hbad⟩
    · have dd1 := decide_eq_false o1
      have No1 := Lib.hid o1
      clear o1
      go_enter Tryd.func13, Tryd.ntmps13
      go_wp2_with (first
        | (go_at_call 26; (with_reducible refine hC0.out.mono ?_); rintro e vh0 ⟨rfl, hb, hw⟩; have Bh0 := Lib.hid hb; have Lh0 := Lib.hid (hw Ok0.out); have Xh0 := Lib.hid (Xhs.out.keep (hb.heap Xhs.out.lt hgn)); have yh00 := Xh0.out.cell 0; have hC1 := Lib.hid (ktext_any p.id Lh0.out (by have := HM.out; omega) HID.out); unfold Taking at hC1; rw [dd1] at hC1; clear hb hw)
        | (go_at_call 27; (with_reducible refine hC1.out.mono ?_); rintro e vh1 ⟨rfl, hb, hw⟩; have Bh1 := Lib.hid hb; clear hb hw))
      go_ret
      have hbad : ¬ cc ≤ m := by have := HC.out; have := Ok0.out; have := No1.out; omega
      exact ⟨ret_bool (decide_eq_false hbad).symm, (((Only.alloc g w (.cells #[.string p.id, .bool p.set, .int .i64 p.alg, .slice A1 n1 k1, .slice A2 n2 k2, .slice A3 n3 k3, .slice A4 n4 k4] 43)).trans Bh0.out).trans Bh1.out), fun h => absurd h hbad⟩
  · rw [decide_eq_false o0] at hC0
    have No0 := Lib.hid o0
    clear o0
    go_enter Tryd.func13, Tryd.ntmps13
    go_wp2_with (first
      | (go_at_call 26; (with_reducible refine hC0.out.mono ?_); rintro e vh0 ⟨rfl, hb, hw⟩; have Bh0 := Lib.hid hb; clear hb hw))
    go_ret
    have hbad : ¬ cc ≤ m := by have := HC.out; have := No0.out; omega
    exact ⟨ret_bool (decide_eq_false hbad).symm, ((Only.alloc g w (.cells #[.string p.id, .bool p.set, .int .i64 p.alg, .slice A1 n1 k1, .slice A2 n2 k2, .slice A3 n3 k3, .slice A4 n4 k4] 43)).trans Bh0.out), fun h => absurd h hbad⟩
end Go.Proofs.YtdbnaaddocahpaaDoor
/- bailiffkeep.Small: is a policy one that may be gone through in a while? -/
namespace Go.Proofs.YtdbnaaddocahpaaDoor
set_option linter.unusedVariables false
open Go.RowKit

theorem kok_all : ∀ d, KOk d
  | 0 => kpol_step 0 fun d' h => by omega
  | d + 1 => kpol_step (d + 1) fun d' h => by
    obtain rfl : d' = d := by omega
    exact kok_all d'

set_option maxRecDepth 100000 in
theorem small_pol {w : World} {R : Nat → Prop} {d : Nat} {p : Pol} {A1 A2 A3 A4 : Option Addr} {n1 k1 n2 k2 n3 k3 n4 k4 : Nat} (hid : p.id.size ≤ maxLen) (h1 : Tg w R A1 n1 k1 p.tg) (h2 : Rus w R A2 n2 k2 p.rules) (h3 : Pls w R d A3 n3 k3 p.kids) (h4 : Dus w R A4 n4 k4 p.ob) :
    Calls Tryd.prog 6 #[.agg #[.string p.id, .bool p.set, .int .i64 p.alg, .slice A1 n1 k1, .slice A2 n2 k2, .slice A3 n3 k3, .slice A4 n4 k4]] w
      fun e w' => e = .returned (.bool (decide (polC (d + 1) p ≤ 3000))) ∧ Below w.heap.size w w' := by
  have hb0 : Below w.heap.size w ((w.alloc (.cells #[.string p.id, .bool p.set, .int .i64 p.alg, .slice A1 n1 k1, .slice A2 n2 k2, .slice A3 n3 k3, .slice A4 n4 k4] 43)).alloc (.cells #[.int .i64 3000] 58)) :=
    ((Below.refl _ _).alloc (Nat.le_refl _) _).alloc (by simp) _
  have hl : Lf ((w.alloc (.cells #[.string p.id, .bool p.set, .int .i64 p.alg, .slice A1 n1 k1, .slice A2 n2 k2, .slice A3 n3 k3, .slice A4 n4 k4] 43)).alloc (.cells #[.int .i64 3000] 58)) (w.heap.size + 1) 3000 := by
    have := Ob.made (w.alloc (.cells #[.string p.id, .bool p.set, .int .i64 p.alg, .slice A1 n1 k1, .slice A2 n2 k2, .slice A3 n3 k3, .slice A4 n4 k4] 43)) 58 #[.int .i64 3000]
    rwa [size_al] at this
  have hk := Kept.all hb0 R
  have HC := kok_all d (R := fun b => b < w.heap.size) hl (Nat.le_refl _) (fun b hb => by omega) hid (h1.keep hk (fun b _ hb => hb)) (h2.keep hk (fun b _ hb => hb)) (h3.keep hk (fun b _ hb => hb)) (h4.keep hk (fun b _ hb => hb))
  unfold Taking at HC
  have HCC := Lib.hid HC
  have HB0 := Lib.hid hb0
  clear HC hk hl hb0 h1 h2 h3 h4
  go_enter Tryd.func6, Tryd.ntmps6
  go_wp2_with (go_at_call 13; refine HCC.out.mono ?_; rintro e w1 ⟨rfl, hb, hw⟩)
  go_ret
  exact ⟨rfl, HB0.out.trans (hb.below (by simp only [size_al]; omega) (by omega))⟩
theorem small_tg {d : Nat} {p : Pol} (h : polC (d + 1) p ≤ 3000) : tgC p.tg ≤ 3000 := by
  unfold polC at h; omega
theorem tgC_len (t : Tgt) : t.length ≤ tgC t := by unfold tgC; omega
end Go.Proofs.YtdbnaaddocahpaaDoor
/- Rows of the call's own that grow by one, whose elements lead to memory apart from the row itself. -/
namespace Go.Proofs.YtdbnaaddocahpaaDoor
set_option linter.unusedVariables false
open Go.RowKit

/-- The blocks from base on but for the row's own. -/
def Nb (base : Nat) (v : Value) (b : Nat) : Prop := base ≤ b ∧ some b ≠ v.ownBlock
/-- Elements that are kept where the memory that they lead to is. -/
def Keeps {α : Type} (P : World → (Nat → Prop) → List Value → α → Prop) : Prop :=
  ∀ (w w' : World) (R R' : Nat → Prop) vs x, P w R vs x → Kept R w w' → (∀ b, R b → b < w.heap.size → R' b) → P w' R' vs x
def Gr {α : Type} (k : Nat) (P : World → (Nat → Prop) → List Value → α → Prop) (w : World) (base : Nat) (E : TypeId) (A : Option Addr) (n c : Nat) (l : List α) : Prop :=
  Ow k (P w (Nb base (.slice A n c))) w base E A n c l ∧ base ≤ w.heap.size

section
variable {α : Type} {k : Nat} {P : World → (Nat → Prop) → List Value → α → Prop} {w w' : World} {base : Nat} {E : TypeId} {A : Option Addr} {n c : Nat} {l : List α}
theorem Ow.lt {P : List Value → α → Prop} (h : Ow k P w base E A n c l) : ∀ b, (Value.slice A n c).ownBlock = some b → base ≤ b ∧ b < w.heap.size := by
  obtain ⟨raw, h1, _⟩ := h
  exact h1.lt
theorem Gr.nil (w : World) (base : Nat) (hb : base ≤ w.heap.size) : Gr k P w base E none 0 0 [] := ⟨Ow.nil _ _ _ _ _, hb⟩
theorem Gr.len (h : Gr k P w base E A n c l) : l.length = n := h.1.len
theorem Gr.below (hP : Keeps P) (h : Gr k P w base E A n c l) (hb : Below w.heap.size w w') : Gr k P w' base E A n c l :=
  ⟨(h.1.mapP (fun vs x _ hp => hP _ _ _ _ vs x hp (Kept.all hb _) (fun _ h _ => h))).below hb, Nat.le_trans h.2 hb.size⟩
/-- It reads as its list; row and elements lie from base on. -/
theorem Gr.rw (hP : Keeps P) (h : Gr k P w base E A n c l) (hbig : n ≤ 140737488351232) : Rw k (P w (fun b => base ≤ b)) w (fun b => base ≤ b) A n c l :=
  (h.1.mapP (fun vs x _ hp => hP _ _ _ (fun b => base ≤ b) vs x hp (Kept.refl _ _) (fun _ h _ => h.1))).rw hbig (fun _ _ h => h)
/-- One more, laid behind as a literal. -/
theorem Gr.push {Pg : Program} {T : TypeId} {i : TypeInfo} {z : Value} {by_ : Nat} (ht : Pg.underlying T = some (.slice E)) (hi : Pg.info? E = some i) (hz : i.zero = some z) (hs : i.size = k) (hb : i.bytes = by_) (hzs : z.cells.size = k) (hk : 0 < k) (hby : by_ ≤ 1000)
    {ty : Nat} {vs : List Value} {x : α} (hP : Keeps P) (h : Gr k P w base E A n c l) (hx : P w (Nb base (.slice A n c)) vs x) (hl : vs.length = k) (h1 : ∀ w R vs (x : α), P w R vs x → ∀ v ∈ vs, v.oneCell' = true) (hn : n < 1000000) :
    ∃ A' c' w', (Builtin.append_ #[T, T] ty #[.slice A n c, .slice (some ⟨w.heap.size, 0, none⟩) 1 1]).run Pg (w.alloc (.cells vs.toArray E)) = .ok (.slice A' (n + 1) c') w' ∧ Gr k P w' base E A' (n + 1) c' (l ++ [x]) ∧ Below base w w' := by
  have hbase := h.2
  have a1 : Below w.heap.size w (w.alloc (.cells vs.toArray E)) := (Below.refl _ _).alloc (Nat.le_refl _) _
  have h' := Gr.below hP h a1
  have hlit : Rw k (P (w.alloc (.cells vs.toArray E)) (Nb base (.slice A n c))) (w.alloc (.cells vs.toArray E)) (fun _ => True) (some ⟨w.heap.size, 0, none⟩) 1 1 [x] := by
    have := Rw.lit (P := P (w.alloc (.cells vs.toArray E)) (Nb base (.slice A n c))) (R := fun _ => True) w E (fun _ => vs) [x] (n := 1) rfl (by omega) trivial (fun _ _ => hl) (fun y hy => by simp at hy; subst hy; exact hP _ _ _ _ _ _ hx (Kept.all a1 _) (fun _ h _ => h))
    simpa using this
  obtain ⟨A', c', w', hrun, hown, hbel, hg, hob⟩ := Ow.app (ty := ty) ht hi hz hs hb hzs hk hby h'.1 hlit (h1 _ _) (by omega) h'.2
  refine ⟨A', c', w', hrun, ⟨hown.mapP fun vs x _ hp => hP _ _ _ _ vs x hp ⟨hg.size, fun b hR hlt => hg.block b hlt hR.2⟩ (fun b hR hlt => ⟨hR.1, ?_⟩), Nat.le_trans h'.2 hbel.size⟩, (a1.mono hbase).trans hbel⟩
  rcases hob with e | e
  · rw [e]; exact hR.2
  · rw [e]
    intro he
    injection he with he
    omega
end
theorem keeps_alp : Keeps AlP := fun _ _ _ _ _ _ h hk hR => h.keep hk hR
theorem keeps_anp : Keeps AnP := fun _ _ _ _ _ _ h hk hR => h.keep hk hR
theorem keeps_rul : Keeps RulAt := fun _ _ _ _ _ _ h hk hR => h.keep hk hR
theorem keeps_pol (d : Nat) : Keeps (fun w R => PolAt w R d) := fun _ _ _ _ _ _ h hk hR => PolAt.keep hk hR h
theorem matinfo : (Tryd.prog.info? 27).map (fun i => (i.zero, i.size, i.bytes)) = some (some (.agg #[.int .i64 0, .string ⟨#[]⟩, .bool false, .int .i64 0, .int .i64 0, .int .i64 0, .string ⟨#[]⟩]), 7, 72) := by kernel_rfl
/-- append([]Match{}, a...). -/
theorem copy_mats {w : World} {R : Nat → Prop} {A0 : Option Addr} {p0 c0 : Nat} {L0 : List Mat} (h0 : Ms w R A0 p0 c0 L0) (h : p0 ≤ 1000000) :
    ∃ A5 c5 w5, (Builtin.append_ #[28, 28] 28 #[.slice (some ⟨w.heap.size, 0, none⟩) 0 0, .slice A0 p0 c0]).run Tryd.prog (w.alloc (.cells #[] 27)) = .ok (.slice A5 p0 c5) w5 ∧ Below w.heap.size w w5 ∧ Ms w5 (fun b => w.heap.size ≤ b) A5 p0 c5 L0 := by
  have e1 : Below w.heap.size w (w.alloc (.cells #[] 27)) := (Below.refl _ _).alloc (Nat.le_refl _) _
  obtain ⟨i, hi, hz, hs, hb⟩ := info_of matinfo
  obtain ⟨A5, c5, w5, r5, o5, b5, _, _⟩ := append_rows (ty := 28) (c2 := c0) (m := p0) Tryd.underlying28 hi hz hs hb rfl (by omega) (by omega) (own_none w 27 7) (Ms.fl (h0.keep (Kept.all e1 R) (fun _ h _ => h))) (by omega) e1.size
  rw [Nat.zero_add] at r5 o5
  refine ⟨A5, c5, w5, r5, e1.trans b5, ?_⟩
  exact Rw.flat_own o5 (by omega) (Rw.len h0) (fun _ => rfl) (Rw.all h0) (fun _ _ h => h)
theorem copy_duts {w : World} {R : Nat → Prop} {A0 : Option Addr} {p0 c0 : Nat} {L0 : List Dut} (h0 : Dus w R A0 p0 c0 L0) (h : p0 ≤ 1000000) :
    ∃ A5 c5 w5, (Builtin.append_ #[35, 35] 35 #[.slice (some ⟨w.heap.size, 0, none⟩) 0 0, .slice A0 p0 c0]).run Tryd.prog (w.alloc (.cells #[] 40)) = .ok (.slice A5 p0 c5) w5 ∧ Below w.heap.size w w5 ∧ Dus w5 (fun b => w.heap.size ≤ b) A5 p0 c5 L0 := by
  have e1 : Below w.heap.size w (w.alloc (.cells #[] 40)) := (Below.refl _ _).alloc (Nat.le_refl _) _
  obtain ⟨A5, c5, w5, r5, o5, b5, _, _⟩ := append_duts (ty := 35) (xs := []) (own_none w 40 3) (h0.keep (Kept.all e1 R) (fun _ h _ => h)) (by omega) e1.size
  rw [Nat.zero_add] at r5 o5
  refine ⟨A5, c5, w5, r5, e1.trans b5, ?_⟩
  exact Rw.flat_own o5 (by omega) (Rw.len h0) (fun _ => rfl) (Rw.all h0) (fun _ _ h => h)
theorem copy_nods {w : World} {R : Nat → Prop} {A0 : Option Addr} {p0 c0 : Nat} {L0 : List Nod} (h0 : Nds w R A0 p0 c0 L0) (h : p0 ≤ 1000000) :
    ∃ A5 c5 w5, (Builtin.append_ #[34, 34] 34 #[.slice (some ⟨w.heap.size, 0, none⟩) 0 0, .slice A0 p0 c0]).run Tryd.prog (w.alloc (.cells #[] 33)) = .ok (.slice A5 p0 c5) w5 ∧ Below w.heap.size w w5 ∧ Nds w5 (fun b => w.heap.size ≤ b) A5 p0 c5 L0 := by
  have e1 : Below w.heap.size w (w.alloc (.cells #[] 33)) := (Below.refl _ _).alloc (Nat.le_refl _) _
  obtain ⟨A5, c5, w5, r5, o5, b5, _, _⟩ := append_nods (ty := 34) (xs := []) (own_none w 33 7) (h0.keep (Kept.all e1 R) (fun _ h _ => h)) (by omega) e1.size
  rw [Nat.zero_add] at r5 o5
  refine ⟨A5, c5, w5, r5, e1.trans b5, ?_⟩
  exact Rw.flat_own o5 (by omega) (Rw.len h0) (fun _ => rfl) (Rw.all h0) (fun _ _ h => h)
/-- One more AllOf, one more AnyOf. -/
theorem push_all {w : World} {base n c : Nat} {A : Option Addr} {l : List (List Mat)} {A1 : Option Addr} {n1 c1 : Nat} {x : List Mat} (h : Gr 1 AlP w base 28 A n c l) (hx : Ms w (Nb base (.slice A n c)) A1 n1 c1 x) (hn : n < 1000000) :
    ∃ A' c' w', (Builtin.append_ #[29, 29] 29 #[.slice A n c, .slice (some ⟨w.heap.size, 0, none⟩) 1 1]).run Tryd.prog (w.alloc (.cells #[.slice A1 n1 c1] 28)) = .ok (.slice A' (n + 1) c') w' ∧ Gr 1 AlP w' base 28 A' (n + 1) c' (l ++ [x]) ∧ Below base w w' := by
  obtain ⟨i, hi, hz, hs, hb⟩ := info_of s0info
  exact Gr.push (vs := [.slice A1 n1 c1]) (x := x) Tryd.underlying29 hi hz hs hb rfl (by omega) (by omega) keeps_alp h ⟨A1, n1, c1, rfl, hx⟩ rfl (fun _ _ _ _ => AlP.one _ _) hn
theorem push_any {w : World} {base n c : Nat} {A : Option Addr} {l : Tgt} {A1 : Option Addr} {n1 c1 : Nat} {x : List (List Mat)} (h : Gr 1 AnP w base 29 A n c l) (hx : Als w (Nb base (.slice A n c)) A1 n1 c1 x) (hn : n < 1000000) :
    ∃ A' c' w', (Builtin.append_ #[31, 31] 31 #[.slice A n c, .slice (some ⟨w.heap.size, 0, none⟩) 1 1]).run Tryd.prog (w.alloc (.cells #[.slice A1 n1 c1] 29)) = .ok (.slice A' (n + 1) c') w' ∧ Gr 1 AnP w' base 29 A' (n + 1) c' (l ++ [x]) ∧ Below base w w' := by
  obtain ⟨i, hi, hz, hs, hb⟩ := info_of s1info
  exact Gr.push (vs := [.slice A1 n1 c1]) (x := x) Tryd.underlying31 hi hz hs hb rfl (by omega) (by omega) keeps_anp h ⟨A1, n1, c1, rfl, hx⟩ rfl (fun _ _ _ _ => AnP.one _ _) hn
/-- What is new lies apart from a row that is older. -/
theorem Gr.apart {α : Type} {k : Nat} {P : World → (Nat → Prop) → List Value → α → Prop} {w : World} {base : Nat} {E : TypeId} {A : Option Addr} {n c : Nat} {l : List α} (h : Gr k P w base E A n c l) : ∀ b, w.heap.size ≤ b → Nb base (.slice A n c) b := fun b hb => by
  refine ⟨Nat.le_trans h.2 hb, fun e => ?_⟩
  have := (h.1.lt b e.symm).2
  omega
/-- A block that is known to be empty is a row of the call's own. -/
theorem own_ob {V : World} {E : TypeId} {k g base : Nat} (h : Ob V g E #[]) (hb : base ≤ g) : V.ownsRow base E k (.slice (some ⟨g, 0, none⟩) 0 0) 0 [] :=
  ⟨by simp, .inr ⟨g, 0, #[], rfl, hb, h, Nat.le_refl _, by simp [maxLen], by simp, by simp⟩⟩
/-- append to an empty row that was laid before. -/
theorem copy_duts_at {V : World} {R : Nat → Prop} {A0 : Option Addr} {p0 c0 g : Nat} {L0 : List Dut} (hg : Ob V g 40 #[]) (h0 : Dus V R A0 p0 c0 L0) (h : p0 ≤ 1000000) (hlt : g ≤ V.heap.size) :
    ∃ A5 c5 w5, (Builtin.append_ #[35, 35] 35 #[.slice (some ⟨g, 0, none⟩) 0 0, .slice A0 p0 c0]).run Tryd.prog V = .ok (.slice A5 p0 c5) w5 ∧ Below g V w5 ∧ Dus w5 (fun b => b = g ∨ b = V.heap.size) A5 p0 c5 L0 ∧ Kept (fun b => b ≠ g) V w5 := by
  obtain ⟨A5, c5, w5, r5, o5, b5, g5, t5⟩ := append_duts (ty := 35) (xs := []) (own_ob hg (Nat.le_refl g)) h0 (by omega) hlt
  rw [Nat.zero_add] at r5 o5
  exact ⟨A5, c5, w5, r5, b5, Rw.flat_own o5 (by omega) (Rw.len h0) (fun _ => rfl) (Rw.all h0) (fun ad e _ => by subst e; exact t5.elim (fun h => .inl (by injection h)) (fun h => .inr (by injection h))), g5.size, fun b hb hlt => g5.block b hlt (fun e => hb (by injection e))⟩
theorem copy_nods_at {V : World} {R : Nat → Prop} {A0 : Option Addr} {p0 c0 g : Nat} {L0 : List Nod} (hg : Ob V g 33 #[]) (h0 : Nds V R A0 p0 c0 L0) (h : p0 ≤ 1000000) (hlt : g ≤ V.heap.size) :
    ∃ A5 c5 w5, (Builtin.append_ #[34, 34] 34 #[.slice (some ⟨g, 0, none⟩) 0 0, .slice A0 p0 c0]).run Tryd.prog V = .ok (.slice A5 p0 c5) w5 ∧ Below g V w5 ∧ Nds w5 (fun b => b = g ∨ b = V.heap.size) A5 p0 c5 L0 ∧ Kept (fun b => b ≠ g) V w5 := by
  obtain ⟨A5, c5, w5, r5, o5, b5, g5, t5⟩ := append_nods (ty := 34) (xs := []) (own_ob hg (Nat.le_refl g)) h0 (by omega) hlt
  rw [Nat.zero_add] at r5 o5
  exact ⟨A5, c5, w5, r5, b5, Rw.flat_own o5 (by omega) (Rw.len h0) (fun _ => rfl) (Rw.all h0) (fun ad e _ => by subst e; exact t5.elim (fun h => .inl (by injection h)) (fun h => .inr (by injection h))), g5.size, fun b hb hlt => g5.block b hlt (fun e => hb (by injection e))⟩
end Go.Proofs.YtdbnaaddocahpaaDoor
/- bailiffkeep: a target in new memory. -/
namespace Go.Proofs.YtdbnaaddocahpaaDoor
set_option linter.unusedVariables false
open Go.RowKit

set_option maxRecDepth 100000 in
set_option maxHeartbeats 1600000 in
theorem ctarget_any {w : World} {R : Nat → Prop} {n c : Nat} {A : Option Addr} {l : Tgt} (hs : tgC l ≤ 3000) (h : Tg w R A n c l) :
    Calls Tryd.prog 15 #[.slice A n c] w fun e w' => ∃ A' c', e = .returned (.slice A' n c') ∧ Below w.heap.size w w' ∧ Tg w' (fun b => w.heap.size ≤ b) A' n c' l := by
  have hle := Rw.le h
  have hcap := Rw.cap h
  have HL := Lib.hid (Rw.len h)
  have hbig := Rw.big h
  have hcc : tgC l = 1 + n + sumC anyC l := by unfold tgC; rw [Rw.len h]
  have HC := Lib.hid (show 1 + n + sumC anyC l ≤ 3000 by omega)
  unfold maxLen at hcap
  have H := Lib.hid h
  clear h hs hcc
  go_enter Tryd.func15, Tryd.ntmps15
  go_wp2
  go_loopw [3, 11] (fun v i wr => ∃ (k : Nat) (A1 : Option Addr) (c1 : Nat), k ≤ n ∧ i = .int .i64 k ∧ v = .slice A1 k c1 ∧ Below w.heap.size w wr ∧ Gr 1 AnP wr w.heap.size 29 A1 k c1 (l.take k)) (fun v i _ => n - (intOf i).toNat)
  case atStart => exact ⟨0, none, 0, Nat.zero_le _, rfl, rfl, Below.refl _ _, Gr.nil _ _ (Nat.le_refl _)⟩
  case round =>
    obtain ⟨wo, hwo⟩ : ∃ wo, wo = wr := ⟨wr, rfl⟩
    subst hwo
    obtain ⟨k, A1, c1, hk, rfl, rfl, hb, hg⟩ := hrel
    have HB := Lib.hid hb
    have HG := Lib.hid hg
    clear hb hg
    by_cases hlt : k < n
    · obtain ⟨b, o, x, A', n', c', rfl, hRb, hbl, hx, c0, hin⟩ := (H.out.keep (Kept.all HB.out _) (fun _ h _ => h)).at_ hlt
      have HX := Lib.hid hx
      have hle' := Rw.le hin
      have hcap' := Rw.cap hin
      have hbig' := Rw.big hin
      have HL' := Lib.hid (Rw.len hin)
      have HIN := Lib.hid hin
      have hsx := sumC_le (f := anyC) hx
      have hex : anyC x = 1 + n' + sumC allC x := by unfold anyC; rw [Rw.len hin]
      have HEX := Lib.hid (show 1 + n' + sumC allC x ≤ 3000 by have := HC.out; omega)
      clear hx hin hsx hex
      unfold maxLen at hcap'
      go_wp2
      go_loopw [6, 17] (fun v i wq => ∃ (k2 : Nat) (A2 : Option Addr) (c2 : Nat), k2 ≤ n' ∧ i = .int .i64 k2 ∧ v = .slice A2 k2 c2 ∧ Below wo.heap.size wo wq ∧ Gr 1 AlP wq wo.heap.size 28 A2 k2 c2 (x.take k2)) (fun v i _ => n' - (intOf i).toNat)
      case atStart => exact ⟨0, none, 0, Nat.zero_le _, rfl, rfl, Below.refl _ _, Gr.nil _ _ (Nat.le_refl _)⟩
      case round =>
        obtain ⟨wq, hwq⟩ : ∃ wq, wq = wr := ⟨wr, rfl⟩
        subst hwq
        obtain ⟨k2, A2, c2, hk2, rfl, rfl, hb, hg⟩ := hrel
        have HB2 := Lib.hid hb
        have HG2 := Lib.hid hg
        clear hb hg
        by_cases hlt2 : k2 < n'
        · obtain ⟨b2, o2, y, A3, n3, c3, rfl, hRb2, hbl2, hy, d0, hin2⟩ := (HIN.out.keep (Kept.all HB2.out _) (fun _ h _ => h)).at_ hlt2
          have hsy := sumC_le (f := allC) hy
          have hey : allC y = 1 + n3 + sumC matC y := by unfold allC; rw [Rw.len hin2]
          have hle2 := Rw.le hin2
          have hcap2 := Rw.cap hin2
          obtain ⟨A5, c5, w5, r5, b5, o5⟩ := copy_mats hin2 (by have := HEX.out; omega)
          have h5 := Gr.below keeps_alp HG2.out b5
          obtain ⟨A6, c6, w6, r6, g6, b6⟩ := push_all h5 (o5.keep (Kept.refl _ _) (fun b hb _ => HG2.out.apart b hb)) (by have := HEX.out; omega)
          have HY := Lib.hid hy
          have R5 := Lib.hid r5
          have R6 := Lib.hid r6
          have G6 := Lib.hid g6
          have B6 := Lib.hid ((HB2.out.trans (b5.mono HB2.out.size)).trans b6)
          clear hin2 hy hsy hey r5 r6 g6 b6 h5 o5 b5
          go_wp2_with (first
            | (at_builtin; refine wpList_append_run (o := ⟨some 24, _, _, _, _, _⟩) rfl _ _ _ _ rfl rfl rfl R5.out ?_)
            | (at_builtin; refine wpList_append_run (o := ⟨some 26, _, _, _, _, _⟩) rfl _ _ _ _ rfl rfl rfl R6.out ?_))
          go_roundw
          case rel => exact ⟨k2 + 1, A6, c6, by omega, by go_num, rfl, B6.out, by rw [List.take_add_one, HY.out]; exact G6.out⟩
          case measure => simp [intOf]; omega
        · obtain rfl : k2 = n' := by omega
          obtain ⟨A6, c6, w6, r6, g6, b6⟩ := push_any (x := x) (Gr.below keeps_anp HG.out HB2.out) (A1 := A2) (n1 := k2) (c1 := c2) (by
            have hrw := Gr.rw keeps_alp HG2.out hbig'
            rw [List.take_of_length_le (Nat.le_of_eq HL'.out)] at hrw
            exact Als.keep (show Als wq (fun b => wo.heap.size ≤ b) A2 k2 c2 x from hrw) (Kept.refl _ _) (fun b hb _ => HG.out.apart b hb)) (by have := HC.out; omega)
          have R6 := Lib.hid r6
          have G6 := Lib.hid g6
          have B6 := Lib.hid ((HB.out.trans (HB2.out.mono HB.out.size)).trans b6)
          clear r6 g6 b6
          go_wp2_with (at_builtin; refine wpList_append_run (o := ⟨some 31, _, _, _, _, _⟩) rfl _ _ _ _ rfl rfl rfl R6.out ?_)
          go_roundw
          case rel => exact ⟨k + 1, A6, c6, by omega, by go_num, rfl, B6.out, by rw [List.take_add_one, HX.out]; exact G6.out⟩
          case measure => simp [intOf]; omega
    · obtain rfl : k = n := by omega
      go_wp2
      go_ret
      have hrw := Gr.rw keeps_anp HG.out hbig
      rw [List.take_of_length_le (Nat.le_of_eq HL.out)] at hrw
      exact ⟨A1, c1, rfl, HB.out, hrw⟩
end Go.Proofs.YtdbnaaddocahpaaDoor
/- Rows of rules and of policies that grow; a policy that is returned. -/
namespace Go.Proofs.YtdbnaaddocahpaaDoor
set_option linter.unusedVariables false
open Go.RowKit

theorem ruleinfo : (Tryd.prog.info? 37).map (fun i => (i.zero, i.size, i.bytes)) = some (some (.agg #[.string ⟨#[]⟩, .bool false, .slice none 0 0, .slice none 0 0, .slice none 0 0]), 5, 96) := by kernel_rfl
theorem RulAt.one (w : World) (R : Nat → Prop) (vs : List Value) (r : Rul) (h : RulAt w R vs r) : ∀ v ∈ vs, v.oneCell' = true := by
  obtain ⟨A1, n1, c1, A2, n2, c2, A3, n3, c3, rfl, _⟩ := h
  intro v hv
  simp at hv
  rcases hv with rfl | rfl | rfl | rfl | rfl <;> rfl
/-- One more rule. -/
theorem push_rule {w : World} {base n c : Nat} {A : Option Addr} {l : List Rul} {r : Rul} {A1 A2 A3 : Option Addr} {n1 n2 n3 c1 c2 c3 : Nat} (h : Gr 5 RulAt w base 37 A n c l) (h0 : r.id.size ≤ maxLen)
    (h1 : Tg w (Nb base (.slice A n c)) A1 n1 c1 r.tg) (h2 : Nds w (Nb base (.slice A n c)) A2 n2 c2 r.cond) (h3 : Dus w (Nb base (.slice A n c)) A3 n3 c3 r.ob) (hn : n < 1000000) :
    ∃ A' c' w', (Builtin.append_ #[38, 38] 38 #[.slice A n c, .slice (some ⟨w.heap.size, 0, none⟩) 1 1]).run Tryd.prog (w.alloc (.cells #[.string r.id, .bool r.deny, .slice A1 n1 c1, .slice A2 n2 c2, .slice A3 n3 c3] 37)) = .ok (.slice A' (n + 1) c') w' ∧ Gr 5 RulAt w' base 37 A' (n + 1) c' (l ++ [r]) ∧ Below base w w' := by
  obtain ⟨i, hi, hz, hs, hb⟩ := info_of ruleinfo
  exact Gr.push (vs := [.string r.id, .bool r.deny, .slice A1 n1 c1, .slice A2 n2 c2, .slice A3 n3 c3]) (x := r) Tryd.underlying38 hi hz hs hb rfl (by omega) (by omega) keeps_rul h ⟨A1, n1, c1, A2, n2, c2, A3, n3, c3, rfl, h0, h1, h2, h3⟩ rfl RulAt.one hn
theorem Kept.below_ {R R' : Nat → Prop} {w w' : World} (h : Kept R w w') (hR : ∀ b, R' b → R b) : Kept R' w w' := ⟨h.1, fun b hb hlt => h.2 b (hR b hb) hlt⟩
theorem polinfo : (Tryd.prog.info? 43).map (fun i => (i.zero, i.size, i.bytes)) = some (some (.agg #[.string ⟨#[]⟩, .bool false, .int .i64 0, .slice none 0 0, .slice none 0 0, .slice none 0 0, .slice none 0 0]), 7, 128) := by kernel_rfl
theorem PolAt.one {d : Nat} (w : World) (R : Nat → Prop) (vs : List Value) (r : Pol) (h : PolAt w R d vs r) : ∀ v ∈ vs, v.oneCell' = true := by
  match d, h with
  | d + 1, h =>
    obtain ⟨A1, n1, c1, A2, n2, c2, A3, n3, c3, A4, n4, c4, rfl, _⟩ := h
    intro v hv
    simp at hv
    rcases hv with rfl | rfl | rfl | rfl | rfl | rfl | rfl <;> rfl
/-- One more policy. -/
theorem push_pol {w : World} {base n c d : Nat} {A : Option Addr} {l : List Pol} {p : Pol} {A1 A2 A3 A4 : Option Addr} {n1 n2 n3 n4 c1 c2 c3 c4 : Nat} (h : Gr 7 (fun w R => PolAt w R d) w base 43 A n c l)
    (hp : PolAt w (Nb base (.slice A n c)) d [.string p.id, .bool p.set, .int .i64 p.alg, .slice A1 n1 c1, .slice A2 n2 c2, .slice A3 n3 c3, .slice A4 n4 c4] p) (hn : n < 1000000) :
    ∃ A' c' w', (Builtin.append_ #[41, 41] 41 #[.slice A n c, .slice (some ⟨w.heap.size, 0, none⟩) 1 1]).run Tryd.prog (w.alloc (.cells #[.string p.id, .bool p.set, .int .i64 p.alg, .slice A1 n1 c1, .slice A2 n2 c2, .slice A3 n3 c3, .slice A4 n4 c4] 43)) = .ok (.slice A' (n + 1) c') w' ∧ Gr 7 (fun w R => PolAt w R d) w' base 43 A' (n + 1) c' (l ++ [p]) ∧ Below base w w' := by
  obtain ⟨i, hi, hz, hs, hb⟩ := info_of polinfo
  exact Gr.push (vs := [.string p.id, .bool p.set, .int .i64 p.alg, .slice A1 n1 c1, .slice A2 n2 c2, .slice A3 n3 c3, .slice A4 n4 c4]) (x := p) Tryd.underlying41 hi hz hs hb rfl (by omega) (by omega) (keeps_pol d) h hp rfl (fun w R vs x h => PolAt.one w R vs x h) hn
theorem Only.kept9 {g : Nat} {w w' : World} (h : Only g w w') {R : Nat → Prop} (hR : ∀ b, R b → b ≠ g) : Kept R w w' := ⟨h.size, fun b hb hl => h.heap hl (hR b hb)⟩
theorem Only.grown {g : Nat} {w w' : World} (o : Only g w w') : w.grownBy w' (some g) := o
theorem Ow.only {α : Type} {k : Nat} {P : List Value → α → Prop} {w w' : World} {base g : Nat} {E : TypeId} {A : Option Addr} {n c : Nat} {l : List α} (h : Ow k P w base E A n c l) (o : Only g w w') (hg : g < base) : Ow k P w' base E A n c l :=
  h.grown o.grown (.inr (fun e => by have := (h.lt g e).1; omega))
theorem Gr.only {α : Type} {k : Nat} {P : World → (Nat → Prop) → List Value → α → Prop} {w w' : World} {base g : Nat} {E : TypeId} {A : Option Addr} {n c : Nat} {l : List α} (hP : Keeps P) (h : Gr k P w base E A n c l) (o : Only g w w') (hg : g < base) : Gr k P w' base E A n c l :=
  ⟨(h.1.mapP (fun vs x _ hp => hP _ _ _ _ vs x hp (o.kept9 (fun b hb => by have := hb.1; omega)) (fun _ h _ => h))).only o hg, Nat.le_trans h.2 o.size⟩
theorem pol_ret {fn : Func} {t : Tmp} {tmps : Array Value} {w : World} {g : Nat} {s : ByteArray} {b : Bool} {a : Int} {A1 A2 A3 A4 : Option Addr} {n1 n2 n3 n4 c1 c2 c3 c4 : Nat} (h : fn.results = #[.cell t 43]) (hp : tmps.getD t undef = .pointer (some ⟨g, 0, none⟩))
    (hg : Ob w g 43 #[.string s, .bool b, .int .i64 a, .slice A1 n1 c1, .slice A2 n2 c2, .slice A3 n3 c3, .slice A4 n4 c4]) :
    (results fn tmps).run Tryd.prog w = .ok (.agg #[.string s, .bool b, .int .i64 a, .slice A1 n1 c1, .slice A2 n2 c2, .slice A3 n3 c3, .slice A4 n4 c4]) w :=
  results_cell_row h tmps w g _ _ (0, 0) _ hp hg Tryd.underlying43 rfl (by kernel_rfl)
end Go.Proofs.YtdbnaaddocahpaaDoor
