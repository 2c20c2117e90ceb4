/- Several texts in one: KeepPol, KeepIs, KeepCopyT, KeepCopy, EvalCalls, EvalFirstM, Open, OpenRows, OpenAtr, OpenPol, OpenAsk. -/
import Derived.Test.YtmoglaknmlhpgaaGreatFifG
import Derived.Test.YtmoglaknmlhpgaaGreatFifB
import Derived.Test.YtmoglaknmlhpgaaGreatFifC
import Derived.Test.YtmoglaknmlhpgaaGreatFifE
import Derived.Deep.CutRange
import Derived.Laws.ResultCell
import Derived.Test.YtmoglaknmlhpgaaGreatFifA
import Derived.OpenShut
import Derived.ChangeSlices
import Derived.Deep.Slices
import Derived.Deep.Fields
import Derived.Lib.SmallJoins
import Derived.ProofKit
import Derived.SizedLaws
/- bailiffkeep: how much of a policy may be gone through. -/
namespace Go.Proofs.YtmoglaknmlhpgaaGreat
set_option linter.unusedVariables false
open Go.RowKit

def nodC (n : Nod) : Nat := textC n.a.name + textC n.v.s
def ruleC (r : Rul) : Nat := textC r.id + tgC r.tg + r.cond.length + dutsC r.ob + sumC nodC r.cond
def polC : Nat → Pol → Nat
  | 0, _ => 0
  | d + 1, p => 1 + p.rules.length + textC p.id + tgC p.tg + dutsC p.ob + sumC ruleC p.rules + sumC (polC d) p.kids
def KOk (d : Nat) : Prop :=
  ∀ {w : World} {R : Nat → Prop} {g m : Nat} {p : Pol} {A1 A2 A3 A4 : Option Addr} {n1 k1 n2 k2 n3 k3 n4 k4 : Nat}, Lf w g m → m ≤ 3000 → (∀ b, R b → b ≠ g) → p.id.size ≤ maxLen →
    Tg w R A1 n1 k1 p.tg → Rus w R A2 n2 k2 p.rules → Pls w R d A3 n3 k3 p.kids → Dus w R A4 n4 k4 p.ob →
    Taking 28 #[.pointer (some ⟨g, 0, none⟩), .agg #[.string p.id, .bool p.set, .int .i64 p.alg, .slice A1 n1 k1, .slice A2 n2 k2, .slice A3 n3 k3, .slice A4 n4 k4]] w g m (polC (d + 1) p)
theorem Lf.only {w w' : World} {g m : Nat} (h : Lf w g m) (r : Nat) (ho : Only r w w') (hr : g ≠ r) : Lf w' g m := Ob.keep h (ho.heap (Ob.lt h) hr)


set_option maxRecDepth 100000 in
set_option maxHeartbeats 6400000 in
theorem kpol_step (d : Nat) (ih : ∀ d', d = d' + 1 → KOk d') : KOk d := by
  intro w R g m p A1 A2 A3 A4 n1 k1 n2 k2 n3 k3 n4 k4 hl hm hR hid h1 h2 h3 h4
  have big2 := Rw.big h2
  have big3 := Rw.big h3
  have cap2 := Rw.cap h2
  have cap3 := Rw.cap h3
  have le2 := Rw.le h2
  have le3 := Rw.le h3
  unfold maxLen at cap2 cap3
  have HL2 := Lib.hid (Rw.len h2)
  have HL3 := Lib.hid (Rw.len h3)
  have H1 := Lib.hid h1
  have H2 := Lib.hid h2
  have H3 := Lib.hid h3
  have H4 := Lib.hid h4
  have HR := Lib.hid hR
  have HM := Lib.hid hm
  have HID := Lib.hid hid
  have hgn : w.heap.size ≠ g := by have := hl.lt; omega
  have Xhs : Hid (Ob (w.alloc (.cells #[.string p.id, .bool p.set, .int .i64 p.alg, .slice A1 n1 k1, .slice A2 n2 k2, .slice A3 n3 k3, .slice A4 n4 k4] 28)) w.heap.size 28 #[.string p.id, .bool p.set, .int .i64 p.alg, .slice A1 n1 k1, .slice A2 n2 k2, .slice A3 n3 k3, .slice A4 n4 k4]) := Ob.made _ _ _
  have hC0 := Lib.hid (takes1_any (n := n2) (hl.alloc (.cells #[.string p.id, .bool p.set, .int .i64 p.alg, .slice A1 n1 k1, .slice A2 n2 k2, .slice A3 n3 k3, .slice A4 n4 k4] 28)) hm (by unfold maxLen; omega))
  unfold Taking
  have HC : Hid (polC (d + 1) p = 1 + n2 + textC p.id + tgC p.tg + dutsC p.ob + sumC ruleC p.rules + sumC (polC d) p.kids) := by show polC (d + 1) p = _; unfold polC; rw [HL2.out]
  generalize polC (d + 1) p = cc at *
  clear hl hm hR hid h1 h2 h3 h4
  by_cases o0 : 1 + n2 ≤ m
  · rw [decide_eq_true o0] at hC0
    have Ok0 := Lib.hid o0
    clear o0
    by_cases o1 : textC p.id ≤ m - (1 + n2)
    · have dd1 := decide_eq_true o1
      have Ok1 := Lib.hid o1
      clear o1
      by_cases o2 : tgC p.tg ≤ m - (1 + n2) - textC p.id
      · have dd2 := decide_eq_true o2
        have Ok2 := Lib.hid o2
        clear o2
        by_cases o3 : dutsC p.ob ≤ m - (1 + n2) - textC p.id - tgC p.tg
        · have dd3 := decide_eq_true o3
          have Ok3 := Lib.hid o3
          clear o3
          go_enter Tryz.func28, Tryz.ntmps28
          go_wp2_with (first
            | (go_at_call 29; (with_reducible refine hC0.out.mono ?_); rintro e vh0 ⟨rfl, hb, hw⟩; have Bh0 := Lib.hid hb; have Lh0 := Lib.hid (hw Ok0.out); have Xh0 := Lib.hid (Xhs.out.keep (hb.heap Xhs.out.lt hgn)); have yh00 := Xh0.out.cell 0; have hC1 := Lib.hid (ktext_any p.id Lh0.out (by have := HM.out; omega) HID.out); unfold Taking at hC1; rw [dd1] at hC1; clear hb hw)
            | (go_at_call 30; (with_reducible refine hC1.out.mono ?_); rintro e vh1 ⟨rfl, hb, hw⟩; have Bh1 := Lib.hid hb; have Lh1 := Lib.hid (hw Ok1.out); have Xh1 := Lib.hid (Xh0.out.keep (hb.heap Xh0.out.lt hgn)); have yh13 := Xh1.out.cell 3; have hC2 := Lib.hid (ktarget_any Lh1.out (by have := HM.out; omega) HR.out (H1.out.keep ((((Only.alloc g w (.cells #[.string p.id, .bool p.set, .int .i64 p.alg, .slice A1 n1 k1, .slice A2 n2 k2, .slice A3 n3 k3, .slice A4 n4 k4] 28)).trans Bh0.out).trans Bh1.out).kept HR.out) (fun _ h _ => h))); unfold Taking at hC2; rw [dd2] at hC2; clear hb hw)
            | (go_at_call 44; (with_reducible refine hC2.out.mono ?_); rintro e vh2 ⟨rfl, hb, hw⟩; have Bh2 := Lib.hid hb; have Lh2 := Lib.hid (hw Ok2.out); have Xh2 := Lib.hid (Xh1.out.keep (hb.heap Xh1.out.lt hgn)); have yh26 := Xh2.out.cell 6; have hC3 := Lib.hid (kobls_any Lh2.out (by have := HM.out; omega) HR.out (H4.out.keep (((((Only.alloc g w (.cells #[.string p.id, .bool p.set, .int .i64 p.alg, .slice A1 n1 k1, .slice A2 n2 k2, .slice A3 n3 k3, .slice A4 n4 k4] 28)).trans Bh0.out).trans Bh1.out).trans Bh2.out).kept HR.out) (fun _ h _ => h))); unfold Taking at hC3; rw [dd3] at hC3; clear hb hw)
            | (go_at_call 45; (with_reducible refine hC3.out.mono ?_); rintro e vh3 ⟨rfl, hb, hw⟩; have Bh3 := Lib.hid hb; have Lh3 := Lib.hid (hw Ok3.out); have Xh3 := Lib.hid (Xh2.out.keep (hb.heap Xh2.out.lt hgn)); have yh34 := Xh3.out.cell 4; have yh35 := Xh3.out.cell 5; clear hb hw))
          have G3 := Lib.hid (((((Only.alloc g w (.cells #[.string p.id, .bool p.set, .int .i64 p.alg, .slice A1 n1 k1, .slice A2 n2 k2, .slice A3 n3 k3, .slice A4 n4 k4] 28)).trans Bh0.out).trans Bh1.out).trans Bh2.out).trans Bh3.out)
          obtain ⟨m4, hm4⟩ : ∃ m4, m4 = m - (1 + n2) - textC p.id - tgC p.tg - dutsC p.ob := ⟨_, rfl⟩
          rw [← hm4] at Lh3
          have M4 : Hid (m4 + (1 + n2 + textC p.id + tgC p.tg + dutsC p.ob) = m) := by have := Ok0.out; have := Ok1.out; have := Ok2.out; have := Ok3.out; show m4 + _ = m; omega
          clear hm4 Bh0 Bh1 Bh2 Bh3 Lh0 Lh1 Lh2 Xh0 Xh1 Xh2 hC0 hC1 hC2 hC3 Ok0 Ok1 Ok2 Ok3 yh00 yh13 yh26
          go_loopw [42] (fun i wr => ∃ k mk : Nat, k ≤ n2 ∧ i = .int .i64 k ∧ sumC ruleC (p.rules.take k) + mk = m4 ∧ Lf wr g mk ∧ Only g vh3 wr) (fun i _ => n2 - (intOf i).toNat)
          case atStart => exact ⟨0, m4, Nat.zero_le _, rfl, by rw [sumC_zero]; omega, Lh3.out, Only.refl⟩
          case round =>
            obtain ⟨wo, hwo⟩ : ∃ wo, wo = wr := ⟨wr, rfl⟩
            subst hwo
            obtain ⟨k, mk, hk, rfl, hs, hlf, hb⟩ := hrel
            have HS := Lib.hid hs
            have HB := Lib.hid hb
            have HF := Lib.hid hlf
            clear hs hb hlf yh34 yh35
            by_cases hlt : k < n2
            · obtain ⟨b, o, x, B1, j1, q1, B2, j2, q2, B3, j3, q3, rfl, hRb, hbl, hx, xid, ⟨c0, c1, c2, c3, c4⟩, t1, t2, t3⟩ := (H2.out.keep ((G3.out.trans HB.out).kept HR.out) (fun _ h _ => h)).at_ hlt
              have HX := Lib.hid hx
              have HSX := Lib.hid (sumC_le (f := ruleC) hx)
              have HT1 := Lib.hid t1
              have HT2 := Lib.hid t2
              have HT3 := Lib.hid t3
              have HXID := Lib.hid xid
              have big2' := Rw.big t2
              have le2' := Rw.le t2
              have cap2' := Rw.cap t2
              have HLC := Lib.hid (Rw.len t2)
              have HEX : Hid (ruleC x = textC x.id + tgC x.tg + j2 + dutsC x.ob + sumC nodC x.cond) := by show ruleC x = _; unfold ruleC; rw [HLC.out]
              have hne : wo.heap.size ≠ g := by have := HF.out.lt; omega
              have Xrs : Hid (Ob (wo.alloc (.cells #[.string x.id, .bool x.deny, .slice B1 j1 q1, .slice B2 j2 q2, .slice B3 j3 q3] 61)) wo.heap.size 61 #[.string x.id, .bool x.deny, .slice B1 j1 q1, .slice B2 j2 q2, .slice B3 j3 q3]) := Ob.made _ _ _
              have rC0 := Lib.hid (ktext_any x.id (HF.out.alloc (.cells #[.string x.id, .bool x.deny, .slice B1 j1 q1, .slice B2 j2 q2, .slice B3 j3 q3] 61)) (by have := HS.out; have := M4.out; have := HM.out; omega) HXID.out)
              unfold Taking at rC0
              unfold maxLen at cap2'
              clear hx t1 t2 t3 xid
              by_cases hr0 : textC x.id ≤ mk
              · rw [decide_eq_true hr0] at rC0
                have Rk0 := Lib.hid hr0
                clear hr0
                by_cases hr1 : tgC x.tg ≤ mk - textC x.id
                · have rr1 := decide_eq_true hr1
                  have Rk1 := Lib.hid hr1
                  clear hr1
                  by_cases hr2 : j2 ≤ mk - textC x.id - tgC x.tg
                  · have rr2 := decide_eq_true hr2
                    have Rk2 := Lib.hid hr2
                    clear hr2
                    by_cases hr3 : dutsC x.ob ≤ mk - textC x.id - tgC x.tg - j2
                    · have rr3 := decide_eq_true hr3
                      have Rk3 := Lib.hid hr3
                      clear hr3
                      go_wp2_with (first
                        | (go_at_call 30; (with_reducible refine rC0.out.mono ?_); rintro e vr0 ⟨rfl, hb, hw⟩; have Br0 := Lib.hid hb; have Lr0 := Lib.hid (hw Rk0.out); have Xr0 := Lib.hid (Xrs.out.keep (hb.heap Xrs.out.lt hne)); have yr02 := Xr0.out.cell 2; have rC1 := Lib.hid (ktarget_any Lr0.out (by have := HS.out; have := M4.out; have := HM.out; omega) HR.out (HT1.out.keep (((Only.alloc g wo (.cells #[.string x.id, .bool x.deny, .slice B1 j1 q1, .slice B2 j2 q2, .slice B3 j3 q3] 61)).trans Br0.out).kept HR.out) (fun _ h _ => h))); unfold Taking at rC1; rw [rr1] at rC1; clear hb hw)
                        | (go_at_call 44; (with_reducible refine rC1.out.mono ?_); rintro e vr1 ⟨rfl, hb, hw⟩; have Br1 := Lib.hid hb; have Lr1 := Lib.hid (hw Rk1.out); have Xr1 := Lib.hid (Xr0.out.keep (hb.heap Xr0.out.lt hne)); have yr13 := Xr1.out.cell 3; have rC2 := Lib.hid (takes_any (n := j2) Lr1.out (by have := HS.out; have := M4.out; have := HM.out; omega) (by unfold maxLen; omega)); unfold Taking at rC2; rw [rr2] at rC2; clear hb hw)
                        | (go_at_call 29; (with_reducible refine rC2.out.mono ?_); rintro e vr2 ⟨rfl, hb, hw⟩; have Br2 := Lib.hid hb; have Lr2 := Lib.hid (hw Rk2.out); have Xr2 := Lib.hid (Xr1.out.keep (hb.heap Xr1.out.lt hne)); have yr24 := Xr2.out.cell 4; have rC3 := Lib.hid (kobls_any Lr2.out (by have := HS.out; have := M4.out; have := HM.out; omega) HR.out (HT3.out.keep (((((Only.alloc g wo (.cells #[.string x.id, .bool x.deny, .slice B1 j1 q1, .slice B2 j2 q2, .slice B3 j3 q3] 61)).trans Br0.out).trans Br1.out).trans Br2.out).kept HR.out) (fun _ h _ => h))); unfold Taking at rC3; rw [rr3] at rC3; clear hb hw)
                        | (go_at_call 45; (with_reducible refine rC3.out.mono ?_); rintro e vr3 ⟨rfl, hb, hw⟩; have Br3 := Lib.hid hb; have Lr3 := Lib.hid (hw Rk3.out); have Xr3 := Lib.hid (Xr2.out.keep (hb.heap Xr2.out.lt hne)); have yr33 := Xr3.out.cell 3; clear hb hw))
                      have GR := Lib.hid (((((Only.alloc g wo (.cells #[.string x.id, .bool x.deny, .slice B1 j1 q1, .slice B2 j2 q2, .slice B3 j3 q3] 61)).trans Br0.out).trans Br1.out).trans Br2.out).trans Br3.out)
                      obtain ⟨m5, hm5⟩ : ∃ m5, m5 = mk - textC x.id - tgC x.tg - j2 - dutsC x.ob := ⟨_, rfl⟩
                      rw [← hm5] at Lr3
                      have M5 : Hid (m5 + (textC x.id + tgC x.tg + j2 + dutsC x.ob) = mk) := by have := Rk0.out; have := Rk1.out; have := Rk2.out; have := Rk3.out; show m5 + _ = mk; omega
                      clear hm5 Br0 Br1 Br2 Br3 Lr0 Lr1 Lr2 Xr0 Xr1 Xr2 rC0 rC1 rC2 rC3 Rk0 Rk1 Rk2 Rk3 yr02 yr13 yr24
                      go_loopw [76] (fun i wr => ∃ k3 m3 : Nat, k3 ≤ j2 ∧ i = .int .i64 k3 ∧ sumC nodC (x.cond.take k3) + m3 = m5 ∧ Lf wr g m3 ∧ Only g vr3 wr) (fun i _ => j2 - (intOf i).toNat)
                      case atStart => exact ⟨0, m5, Nat.zero_le _, rfl, by rw [sumC_zero]; omega, Lr3.out, Only.refl⟩
                      case round =>
                        obtain ⟨wz, hwz⟩ : ∃ wz, wz = wr := ⟨wr, rfl⟩
                        subst hwz
                        obtain ⟨k3, m3, hk3, rfl, hs, hlf, hb⟩ := hrel
                        have HS3 := Lib.hid hs
                        have HB3 := Lib.hid hb
                        have HF3 := Lib.hid hlf
                        clear hs hb hlf yr33
                        by_cases hlt3 : k3 < j2
                        · obtain ⟨b3, o3, z, rfl, hRb3, hbl3, hz, hok, f0, f1, f2, f3, f4, f5, f6⟩ := (HT2.out.keep ((GR.out.trans HB3.out).kept HR.out) (fun _ h _ => h)).at_ hlt3
                          have HZ := Lib.hid hz
                          have HSZ := Lib.hid (sumC_le (f := nodC) hz)
                          have HEZ : Hid (nodC z = textC z.a.name + textC z.v.s) := rfl
                          have zC0 := Lib.hid (ktext_any z.a.name (HF3.out.alloc (.cells #[.int .i64 z.op, .int .i64 z.v.k, .int .i64 z.v.n, .string z.v.s, .int .i64 z.a.cat, .string z.a.name, .bool z.a.must] 58)) (by have := HS3.out; have := M5.out; have := HS.out; have := M4.out; have := HM.out; omega) hok.2.2.2)
                          unfold Taking at zC0
                          have HOK := Lib.hid hok
                          have hnz : wz.heap.size ≠ g := by have := HF3.out.lt; omega
                          have Xzs : Hid (Ob (wz.alloc (.cells #[.int .i64 z.op, .int .i64 z.v.k, .int .i64 z.v.n, .string z.v.s, .int .i64 z.a.cat, .string z.a.name, .bool z.a.must] 58)) wz.heap.size 58 #[.int .i64 z.op, .int .i64 z.v.k, .int .i64 z.v.n, .string z.v.s, .int .i64 z.a.cat, .string z.a.name, .bool z.a.must]) := Ob.made _ _ _
                          clear hz hok
                          by_cases hz0 : textC z.a.name ≤ m3
                          · rw [decide_eq_true hz0] at zC0
                            have Zk0 := Lib.hid hz0
                            clear hz0
                            by_cases hz1 : textC z.v.s ≤ m3 - textC z.a.name
                            · have zz1 := decide_eq_true hz1
                              have Zk1 := Lib.hid hz1
                              clear hz1
                              go_wp2_with (first
                                | (go_at_call 30; (with_reducible refine zC0.out.mono ?_); rintro e vz0 ⟨rfl, hb, hw⟩; have Bz0 := Lib.hid hb; have Lz0 := Lib.hid (hw Zk0.out); have Xz0 := Lib.hid (Xzs.out.keep (hb.heap Xzs.out.lt hnz)); have yz03 := Xz0.out.cell 3; have zC1 := Lib.hid (ktext_any z.v.s Lz0.out (by have := HS3.out; have := M5.out; have := HS.out; have := M4.out; have := HM.out; omega) HOK.out.2.1.2.2); unfold Taking at zC1; rw [zz1] at zC1; clear hb hw)
                                | (go_at_call 30; (with_reducible refine zC1.out.mono ?_); rintro e vz1 ⟨rfl, hb, hw⟩; have Bz1 := Lib.hid hb; have Lz1 := Lib.hid (hw Zk1.out); have Xz1 := Lib.hid (Xz0.out.keep (hb.heap Xz0.out.lt hnz)); clear hb hw))
                              go_roundw
                              case rel => exact ⟨k3 + 1, m3 - textC z.a.name - textC z.v.s, by omega, by go_num, by rw [sumC_take HZ.out, HEZ.out]; have := HS3.out; have := Zk0.out; have := Zk1.out; omega, Lz1.out, (HB3.out.trans (((Only.alloc g wz (.cells #[.int .i64 z.op, .int .i64 z.v.k, .int .i64 z.v.n, .string z.v.s, .int .i64 z.a.cat, .string z.a.name, .bool z.a.must] 58)).trans Bz0.out).trans Bz1.out))⟩
                              case measure => simp [intOf]; omega
                            · have zz1 := decide_eq_false hz1
                              have Zn1 := Lib.hid hz1
                              clear hz1
                              go_wp2_with (first
                                | (go_at_call 30; (with_reducible refine zC0.out.mono ?_); rintro e vz0 ⟨rfl, hb, hw⟩; have Bz0 := Lib.hid hb; have Lz0 := Lib.hid (hw Zk0.out); have Xz0 := Lib.hid (Xzs.out.keep (hb.heap Xzs.out.lt hnz)); have yz03 := Xz0.out.cell 3; have zC1 := Lib.hid (ktext_any z.v.s Lz0.out (by have := HS3.out; have := M5.out; have := HS.out; have := M4.out; have := HM.out; omega) HOK.out.2.1.2.2); unfold Taking at zC1; rw [zz1] at zC1; clear hb hw)
                                | (go_at_call 30; (with_reducible refine zC1.out.mono ?_); rintro e vz1 ⟨rfl, hb, hw⟩; have Bz1 := Lib.hid hb; clear hb hw))
                              go_ret
                              have hbad : ¬ cc ≤ m := by have := HC.out; have := HS.out; have := M4.out; have := HSX.out; have := HEX.out; have := M5.out; have := HS3.out; have := HSZ.out; have := HEZ.out; have := Zk0.out; have := Zn1.out; omega
                              exact ⟨ret_bool (decide_eq_false hbad).symm, ((((G3.out.trans HB.out).trans GR.out).trans HB3.out).trans (((Only.alloc g wz (.cells #[.int .i64 z.op, .int .i64 z.v.k, .int .i64 z.v.n, .string z.v.s, .int .i64 z.a.cat, .string z.a.name, .bool z.a.must] 58)).trans Bz0.out).trans Bz1.out)), fun h => absurd h hbad⟩
                          · rw [decide_eq_false hz0] at zC0
                            have Zn0 := Lib.hid hz0
                            clear hz0
                            go_wp2_with (first
                              | (go_at_call 30; (with_reducible refine zC0.out.mono ?_); rintro e vz0 ⟨rfl, hb, hw⟩; have Bz0 := Lib.hid hb; clear hb hw))
                            go_ret
                            have hbad : ¬ cc ≤ m := by have := HC.out; have := HS.out; have := M4.out; have := HSX.out; have := HEX.out; have := M5.out; have := HS3.out; have := HSZ.out; have := HEZ.out; have := Zn0.out; omega
                            exact ⟨ret_bool (decide_eq_false hbad).symm, ((((G3.out.trans HB.out).trans GR.out).trans HB3.out).trans ((Only.alloc g wz (.cells #[.int .i64 z.op, .int .i64 z.v.k, .int .i64 z.v.n, .string z.v.s, .int .i64 z.a.cat, .string z.a.name, .bool z.a.must] 58)).trans Bz0.out)), fun h => absurd h hbad⟩
                        · obtain rfl : k3 = j2 := by omega
                          go_wp2
                          go_roundw
                          case rel =>
                            have hs := HS3.out
                            rw [sumC_all HLC.out] at hs
                            exact ⟨k + 1, m3, by omega, by go_num, by rw [sumC_take HX.out, HEX.out]; have := HS.out; have := M5.out; omega, HF3.out, ((HB.out.trans GR.out).trans HB3.out)⟩
                          case measure => simp [intOf]; omega
                    · have rr3 := decide_eq_false hr3
                      have Rn3 := Lib.hid hr3
                      clear hr3
                      go_wp2_with (first
                        | (go_at_call 30; (with_reducible refine rC0.out.mono ?_); rintro e vr0 ⟨rfl, hb, hw⟩; have Br0 := Lib.hid hb; have Lr0 := Lib.hid (hw Rk0.out); have Xr0 := Lib.hid (Xrs.out.keep (hb.heap Xrs.out.lt hne)); have yr02 := Xr0.out.cell 2; have rC1 := Lib.hid (ktarget_any Lr0.out (by have := HS.out; have := M4.out; have := HM.out; omega) HR.out (HT1.out.keep (((Only.alloc g wo (.cells #[.string x.id, .bool x.deny, .slice B1 j1 q1, .slice B2 j2 q2, .slice B3 j3 q3] 61)).trans Br0.out).kept HR.out) (fun _ h _ => h))); unfold Taking at rC1; rw [rr1] at rC1; clear hb hw)
                        | (go_at_call 44; (with_reducible refine rC1.out.mono ?_); rintro e vr1 ⟨rfl, hb, hw⟩; have Br1 := Lib.hid hb; have Lr1 := Lib.hid (hw Rk1.out); have Xr1 := Lib.hid (Xr0.out.keep (hb.heap Xr0.out.lt hne)); have yr13 := Xr1.out.cell 3; have rC2 := Lib.hid (takes_any (n := j2) Lr1.out (by have := HS.out; have := M4.out; have := HM.out; omega) (by unfold maxLen; omega)); unfold Taking at rC2; rw [rr2] at rC2; clear hb hw)
                        | (go_at_call 29; (with_reducible refine rC2.out.mono ?_); rintro e vr2 ⟨rfl, hb, hw⟩; have Br2 := Lib.hid hb; have Lr2 := Lib.hid (hw Rk2.out); have Xr2 := Lib.hid (Xr1.out.keep (hb.heap Xr1.out.lt hne)); have yr24 := Xr2.out.cell 4; have rC3 := Lib.hid (kobls_any Lr2.out (by have := HS.out; have := M4.out; have := HM.out; omega) HR.out (HT3.out.keep (((((Only.alloc g wo (.cells #[.string x.id, .bool x.deny, .slice B1 j1 q1, .slice B2 j2 q2, .slice B3 j3 q3] 61)).trans Br0.out).trans Br1.out).trans Br2.out).kept HR.out) (fun _ h _ => h))); unfold Taking at rC3; rw [rr3] at rC3; clear hb hw)
                        | (go_at_call 45; (with_reducible refine rC3.out.mono ?_); rintro e vr3 ⟨rfl, hb, hw⟩; have Br3 := Lib.hid hb; clear hb hw))
                      go_ret
                      have hbad : ¬ cc ≤ m := by have := HC.out; have := HS.out; have := M4.out; have := HSX.out; have := HEX.out; have := Rk0.out; have := Rk1.out; have := Rk2.out; have := Rn3.out; omega
                      exact ⟨ret_bool (decide_eq_false hbad).symm, ((G3.out.trans HB.out).trans (((((Only.alloc g wo (.cells #[.string x.id, .bool x.deny, .slice B1 j1 q1, .slice B2 j2 q2, .slice B3 j3 q3] 61)).trans Br0.out).trans Br1.out).trans Br2.out).trans Br3.out)), fun h => absurd h hbad⟩
                  · have rr2 := decide_eq_false hr2
                    have Rn2 := Lib.hid hr2
                    clear hr2
                    go_wp2_with (first
                      | (go_at_call 30; (with_reducible refine rC0.out.mono ?_); rintro e vr0 ⟨rfl, hb, hw⟩; have Br0 := Lib.hid hb; have Lr0 := Lib.hid (hw Rk0.out); have Xr0 := Lib.hid (Xrs.out.keep (hb.heap Xrs.out.lt hne)); have yr02 := Xr0.out.cell 2; have rC1 := Lib.hid (ktarget_any Lr0.out (by have := HS.out; have := M4.out; have := HM.out; omega) HR.out (HT1.out.keep (((Only.alloc g wo (.cells #[.string x.id, .bool x.deny, .slice B1 j1 q1, .slice B2 j2 q2, .slice B3 j3 q3] 61)).trans Br0.out).kept HR.out) (fun _ h _ => h))); unfold Taking at rC1; rw [rr1] at rC1; clear hb hw)
                      | (go_at_call 44; (with_reducible refine rC1.out.mono ?_); rintro e vr1 ⟨rfl, hb, hw⟩; have Br1 := Lib.hid hb; have Lr1 := Lib.hid (hw Rk1.out); have Xr1 := Lib.hid (Xr0.out.keep (hb.heap Xr0.out.lt hne)); have yr13 := Xr1.out.cell 3; have rC2 := Lib.hid (takes_any (n := j2) Lr1.out (by have := HS.out; have := M4.out; have := HM.out; omega) (by unfold maxLen; omega)); unfold Taking at rC2; rw [rr2] at rC2; clear hb hw)
                      | (go_at_call 29; (with_reducible refine rC2.out.mono ?_); rintro e vr2 ⟨rfl, hb, hw⟩; have Br2 := Lib.hid hb; clear hb hw))
                    go_ret
                    have hbad : ¬ cc ≤ m := by have := HC.out; have := HS.out; have := M4.out; have := HSX.out; have := HEX.out; have := Rk0.out; have := Rk1.out; have := Rn2.out; omega
                    exact ⟨ret_bool (decide_eq_false hbad).symm, ((G3.out.trans HB.out).trans ((((Only.alloc g wo (.cells #[.string x.id, .bool x.deny, .slice B1 j1 q1, .slice B2 j2 q2, .slice B3 j3 q3] 61)).trans Br0.out).trans Br1.out).trans Br2.out)), fun h => absurd h hbad⟩
                · have rr1 := decide_eq_false hr1
                  have Rn1 := Lib.hid hr1
                  clear hr1
                  go_wp2_with (first
                    | (go_at_call 30; (with_reducible refine rC0.out.mono ?_); rintro e vr0 ⟨rfl, hb, hw⟩; have Br0 := Lib.hid hb; have Lr0 := Lib.hid (hw Rk0.out); have Xr0 := Lib.hid (Xrs.out.keep (hb.heap Xrs.out.lt hne)); have yr02 := Xr0.out.cell 2; have rC1 := Lib.hid (ktarget_any Lr0.out (by have := HS.out; have := M4.out; have := HM.out; omega) HR.out (HT1.out.keep (((Only.alloc g wo (.cells #[.string x.id, .bool x.deny, .slice B1 j1 q1, .slice B2 j2 q2, .slice B3 j3 q3] 61)).trans Br0.out).kept HR.out) (fun _ h _ => h))); unfold Taking at rC1; rw [rr1] at rC1; clear hb hw)
                    | (go_at_call 44; (with_reducible refine rC1.out.mono ?_); rintro e vr1 ⟨rfl, hb, hw⟩; have Br1 := Lib.hid hb; clear hb hw))
                  go_ret
                  have hbad : ¬ cc ≤ m := by have := HC.out; have := HS.out; have := M4.out; have := HSX.out; have := HEX.out; have := Rk0.out; have := Rn1.out; omega
                  exact ⟨ret_bool (decide_eq_false hbad).symm, ((G3.out.trans HB.out).trans (((Only.alloc g wo (.cells #[.string x.id, .bool x.deny, .slice B1 j1 q1, .slice B2 j2 q2, .slice B3 j3 q3] 61)).trans Br0.out).trans Br1.out)), fun h => absurd h hbad⟩
              · rw [decide_eq_false hr0] at rC0
                have Rn0 := Lib.hid hr0
                clear hr0
                go_wp2_with (first
                  | (go_at_call 30; (with_reducible refine rC0.out.mono ?_); rintro e vr0 ⟨rfl, hb, hw⟩; have Br0 := Lib.hid hb; clear hb hw))
                go_ret
                have hbad : ¬ cc ≤ m := by have := HC.out; have := HS.out; have := M4.out; have := HSX.out; have := HEX.out; have := Rn0.out; omega
                exact ⟨ret_bool (decide_eq_false hbad).symm, ((G3.out.trans HB.out).trans ((Only.alloc g wo (.cells #[.string x.id, .bool x.deny, .slice B1 j1 q1, .slice B2 j2 q2, .slice B3 j3 q3] 61)).trans Br0.out)), fun h => absurd h hbad⟩
            · obtain rfl : k = n2 := by omega
              have hs := HS.out
              rw [sumC_all HL2.out] at hs
              have HSR := Lib.hid hs
              clear hs
              have XR := Lib.hid (Xh3.out.keep (HB.out.heap Xh3.out.lt hgn))
              have yr5 := XR.out.cell 5
              have G5 := Lib.hid (G3.out.trans HB.out)
              go_wp2
              go_loopw [99] (fun i wr => ∃ k5 m5 : Nat, k5 ≤ n3 ∧ i = .int .i64 k5 ∧ sumC (polC d) (p.kids.take k5) + m5 = mk ∧ Lf wr g m5 ∧ Only g wo wr) (fun i _ => n3 - (intOf i).toNat)
              case atStart => exact ⟨0, mk, Nat.zero_le _, rfl, by rw [sumC_zero]; omega, HF.out, Only.refl⟩
              case round =>
                obtain ⟨wz, hwz⟩ : ∃ wz, wz = wr := ⟨wr, rfl⟩
                subst hwz
                obtain ⟨k5, m5, hk5, rfl, hs, hlf, hb⟩ := hrel
                have HS5 := Lib.hid hs
                have HB5 := Lib.hid hb
                have HF5 := Lib.hid hlf
                clear hs hb hlf yr5
                by_cases hlt5 : k5 < n3
                · obtain ⟨b5, o5, x, d', B1, j1, q1, B2, j2, q2, B3, j3, q3, B4, j4, q4, rfl, hRb5, hbl5, hx, hd, ⟨xid, xalg⟩, ⟨f0, f1, f2, f3, f4, f5, f6⟩, t1, t2, t3, t4⟩ := (H3.out.keep ((G5.out.trans HB5.out).kept HR.out) (fun _ h _ => h)).at_ hlt5
                  have HX := Lib.hid hx
                  have HSX := Lib.hid (sumC_le (f := polC d) hx)
                  have hka := (Only.alloc g wz (.cells #[.string x.id, .bool x.set, .int .i64 x.alg, .slice B1 j1 q1, .slice B2 j2 q2, .slice B3 j3 q3, .slice B4 j4 q4] 28)).kept HR.out
                  have pC := (ih d' hd) (HF5.out.alloc (.cells #[.string x.id, .bool x.set, .int .i64 x.alg, .slice B1 j1 q1, .slice B2 j2 q2, .slice B3 j3 q3, .slice B4 j4 q4] 28)) (by have := HS5.out; have := HSR.out; have := M4.out; have := HM.out; omega) HR.out xid (t1.keep hka (fun _ h _ => h)) (t2.keep hka (fun _ h _ => h)) (t3.keep hka (fun _ h _ => h)) (t4.keep hka (fun _ h _ => h))
                  unfold Taking at pC
                  rw [← hd] at pC
                  clear hx xid xalg t1 t2 t3 t4 hka
                  by_cases hp : polC d x ≤ m5
                  · rw [decide_eq_true hp] at pC
                    have PC := Lib.hid pC
                    have Pk := Lib.hid hp
                    clear hp pC
                    go_wp2_with (go_at_call 28; refine PC.out.mono ?_; rintro e v7 ⟨rfl, hb, hw⟩; have B7 := Lib.hid hb; have L7 := Lib.hid (hw Pk.out); clear hb hw)
                    go_roundw
                    case rel => exact ⟨k5 + 1, m5 - polC d x, by omega, by go_num, by rw [sumC_take HX.out]; have := HS5.out; have := Pk.out; omega, L7.out, HB5.out.trans ((Only.alloc _ _ _).trans B7.out)⟩
                    case measure => simp [intOf]; omega
                  · rw [decide_eq_false hp] at pC
                    have PC := Lib.hid pC
                    have Pn := Lib.hid hp
                    clear hp pC
                    go_wp2_with (go_at_call 28; refine PC.out.mono ?_; rintro e v7 ⟨rfl, hb, hw⟩; have B7 := Lib.hid hb; clear hb hw)
                    go_ret
                    have hbad : ¬ cc ≤ m := by have := HC.out; have := HSR.out; have := M4.out; have := HS5.out; have := HSX.out; have := Pn.out; omega
                    exact ⟨ret_bool (decide_eq_false hbad).symm, G5.out.trans (HB5.out.trans ((Only.alloc _ _ _).trans B7.out)), fun h => absurd h hbad⟩
                · obtain rfl : k5 = n3 := by omega
                  go_wp2
                  go_ret
                  have hs := HS5.out
                  rw [sumC_all HL3.out] at hs
                  have h1 := HC.out
                  have h2 := HSR.out
                  have h3 := M4.out
                  exact ⟨ret_bool (decide_eq_true (by omega)).symm, G5.out.trans HB5.out, fun _ => by rw [show m - cc = m5 by omega]; exact HF5.out⟩
        · have dd3 := decide_eq_false o3
          have No3 := Lib.hid o3
          clear o3
          go_enter Tryz.func28, Tryz.ntmps28
          go_wp2_with (first
            | (go_at_call 29; (with_reducible refine hC0.out.mono ?_); rintro e vh0 ⟨rfl, hb, hw⟩; have Bh0 := Lib.hid hb; have Lh0 := Lib.hid (hw Ok0.out); have Xh0 := Lib.hid (Xhs.out.keep (hb.heap Xhs.out.lt hgn)); have yh00 := Xh0.out.cell 0; have hC1 := Lib.hid (ktext_any p.id Lh0.out (by have := HM.out; omega) HID.out); unfold Taking at hC1; rw [dd1] at hC1; clear hb hw)
            | (go_at_call 30; (with_reducible refine hC1.out.mono ?_); rintro e vh1 ⟨rfl, hb, hw⟩; have Bh1 := Lib.hid hb; have Lh1 := Lib.hid (hw Ok1.out); have Xh1 := Lib.hid (Xh0.out.keep (hb.heap Xh0.out.lt hgn)); have yh13 := Xh1.out.cell 3; have hC2 := Lib.hid (ktarget_any Lh1.out (by have := HM.out; omega) HR.out (H1.out.keep ((((Only.alloc g w (.cells #[.string p.id, .bool p.set, .int .i64 p.alg, .slice A1 n1 k1, .slice A2 n2 k2, .slice A3 n3 k3, .slice A4 n4 k4] 28)).trans Bh0.out).trans Bh1.out).kept HR.out) (fun _ h _ => h))); unfold Taking at hC2; rw [dd2] at hC2; clear hb hw)
            | (go_at_call 44; (with_reducible refine hC2.out.mono ?_); rintro e vh2 ⟨rfl, hb, hw⟩; have Bh2 := Lib.hid hb; have Lh2 := Lib.hid (hw Ok2.out); have Xh2 := Lib.hid (Xh1.out.keep (hb.heap Xh1.out.lt hgn)); have yh26 := Xh2.out.cell 6; have hC3 := Lib.hid (kobls_any Lh2.out (by have := HM.out; omega) HR.out (H4.out.keep (((((Only.alloc g w (.cells #[.string p.id, .bool p.set, .int .i64 p.alg, .slice A1 n1 k1, .slice A2 n2 k2, .slice A3 n3 k3, .slice A4 n4 k4] 28)).trans Bh0.out).trans Bh1.out).trans Bh2.out).kept HR.out) (fun _ h _ => h))); unfold Taking at hC3; rw [dd3] at hC3; clear hb hw)
            | (go_at_call 45; (with_reducible refine hC3.out.mono ?_); rintro e vh3 ⟨rfl, hb, hw⟩; have Bh3 := Lib.hid hb; clear hb hw))
          go_ret
          have hbad : ¬ cc ≤ m := by have := HC.out; have := Ok0.out; have := Ok1.out; have := Ok2.out; have := No3.out; omega
          exact ⟨ret_bool (decide_eq_false hbad).symm, (((((Only.alloc g w (.cells #[.string p.id, .bool p.set, .int .i64 p.alg, .slice A1 n1 k1, .slice A2 n2 k2, .slice A3 n3 k3, .slice A4 n4 k4] 28)).trans Bh0.out).trans Bh1.out).trans Bh2.out).trans Bh3.out), fun h => absurd h hbad⟩
      · have dd2 := decide_eq_false o2
        have No2 := Lib.hid o2
        clear o2
        go_enter Tryz.func28, Tryz.ntmps28
        go_wp2_with (first
          | (go_at_call 29; (with_reducible refine hC0.out.mono ?_); rintro e vh0 ⟨rfl, hb, hw⟩; have Bh0 := Lib.hid hb; have Lh0 := Lib.hid (hw Ok0.out); have Xh0 := Lib.hid (Xhs.out.keep (hb.heap Xhs.out.lt hgn)); have yh00 := Xh0.out.cell 0; have hC1 := Lib.hid (ktext_any p.id Lh0.out (by have := HM.out; omega) HID.out); unfold Taking at hC1; rw [dd1] at hC1; clear hb hw)
          | (go_at_call 30; (with_reducible refine hC1.out.mono ?_); rintro e vh1 ⟨rfl, hb, hw⟩; have Bh1 := Lib.hid hb; have Lh1 := Lib.hid (hw Ok1.out); have Xh1 := Lib.hid (Xh0.out.keep (hb.heap Xh0.out.lt hgn)); have yh13 := Xh1.out.cell 3; have hC2 := Lib.hid (ktarget_any Lh1.out (by have := HM.out; omega) HR.out (H1.out.keep ((((Only.alloc g w (.cells #[.string p.id, .bool p.set, .int .i64 p.alg, .slice A1 n1 k1, .slice A2 n2 k2, .slice A3 n3 k3, .slice A4 n4 k4] 28)).trans Bh0.out).trans Bh1.out).kept HR.out) (fun _ h _ => h))); unfold Taking at hC2; rw [dd2] at hC2; clear hb hw)
          | (go_at_call 44; (with_reducible refine hC2.out.mono ?_); rintro e vh2 ⟨rfl, hb, hw⟩; have Bh2 := Lib.hid hb; clear hb hw))
        go_ret
        have hbad : ¬ cc ≤ m := by have := HC.out; have := Ok0.out; have := Ok1.out; have := No2.out; omega
        exact ⟨ret_bool (decide_eq_false hbad).symm, ((((Only.alloc g w (.cells #[.string p.id, .bool p.set, .int .i64 p.alg, .slice A1 n1 k1, .slice A2 n2 k2, .slice A3 n3 k3, .slice A4 n4 k4] 28)).trans Bh0.out).trans Bh1.out).trans Bh2.out), fun h => absurd h hbad⟩
    · have dd1 := decide_eq_false o1
      have No1 := Lib.hid o1
      clear o1
      go_enter Tryz.func28, Tryz.ntmps28
      go_wp2_with (first
        | (go_at_call 29; (with_reducible refine hC0.out.mono ?_); rintro e vh0 ⟨rfl, hb, hw⟩; have Bh0 := Lib.hid hb; have Lh0 := Lib.hid (hw Ok0.out); have Xh0 := Lib.hid (Xhs.out.keep (hb.heap Xhs.out.lt hgn)); have yh00 := Xh0.out.cell 0; have hC1 := Lib.hid (ktext_any p.id Lh0.out (by have := HM.out; omega) HID.out); unfold Taking at hC1; rw [dd1] at hC1; clear hb hw)
        | (go_at_call 30; (with_reducible refine hC1.out.mono ?_); rintro e vh1 ⟨rfl, hb, hw⟩; have Bh1 := Lib.hid hb; clear hb hw))
      go_ret
      have hbad : ¬ cc ≤ m := by have := HC.out; have := Ok0.out; have := No1.out; omega
      exact ⟨ret_bool (decide_eq_false hbad).symm, (((Only.alloc g w (.cells #[.string p.id, .bool p.set, .int .i64 p.alg, .slice A1 n1 k1, .slice A2 n2 k2, .slice A3 n3 k3, .slice A4 n4 k4] 28)).trans Bh0.out).trans Bh1.out), fun h => absurd h hbad⟩
  · rw [decide_eq_false o0] at hC0
    have No0 := Lib.hid o0
    clear o0
    go_enter Tryz.func28, Tryz.ntmps28
    go_wp2_with (first
      | (go_at_call 29; (with_reducible refine hC0.out.mono ?_); rintro e vh0 ⟨rfl, hb, hw⟩; have Bh0 := Lib.hid hb; clear hb hw))
    go_ret
    have hbad : ¬ cc ≤ m := by have := HC.out; have := No0.out; omega
    exact ⟨ret_bool (decide_eq_false hbad).symm, ((Only.alloc g w (.cells #[.string p.id, .bool p.set, .int .i64 p.alg, .slice A1 n1 k1, .slice A2 n2 k2, .slice A3 n3 k3, .slice A4 n4 k4] 28)).trans Bh0.out), fun h => absurd h hbad⟩
end Go.Proofs.YtmoglaknmlhpgaaGreat
/- bailiffkeep.Small: is a policy one that may be gone through in a while? -/
namespace Go.Proofs.YtmoglaknmlhpgaaGreat
set_option linter.unusedVariables false
open Go.RowKit

theorem kok_all : ∀ d, KOk d
  | 0 => kpol_step 0 fun d' h => by omega
  | d + 1 => kpol_step (d + 1) fun d' h => by
    obtain rfl : d' = d := by omega
    exact kok_all d'

set_option maxRecDepth 100000 in
theorem small_pol {w : World} {R : Nat → Prop} {d : Nat} {p : Pol} {A1 A2 A3 A4 : Option Addr} {n1 k1 n2 k2 n3 k3 n4 k4 : Nat} (hid : p.id.size ≤ maxLen) (h1 : Tg w R A1 n1 k1 p.tg) (h2 : Rus w R A2 n2 k2 p.rules) (h3 : Pls w R d A3 n3 k3 p.kids) (h4 : Dus w R A4 n4 k4 p.ob) :
    Calls Tryz.prog 14 #[.agg #[.string p.id, .bool p.set, .int .i64 p.alg, .slice A1 n1 k1, .slice A2 n2 k2, .slice A3 n3 k3, .slice A4 n4 k4]] w
      fun e w' => e = .returned (.bool (decide (polC (d + 1) p ≤ 3000))) ∧ Below w.heap.size w w' := by
  have hb0 : Below w.heap.size w ((w.alloc (.cells #[.string p.id, .bool p.set, .int .i64 p.alg, .slice A1 n1 k1, .slice A2 n2 k2, .slice A3 n3 k3, .slice A4 n4 k4] 28)).alloc (.cells #[.int .i64 3000] 82)) :=
    ((Below.refl _ _).alloc (Nat.le_refl _) _).alloc (by simp) _
  have hl : Lf ((w.alloc (.cells #[.string p.id, .bool p.set, .int .i64 p.alg, .slice A1 n1 k1, .slice A2 n2 k2, .slice A3 n3 k3, .slice A4 n4 k4] 28)).alloc (.cells #[.int .i64 3000] 82)) (w.heap.size + 1) 3000 := by
    have := Ob.made (w.alloc (.cells #[.string p.id, .bool p.set, .int .i64 p.alg, .slice A1 n1 k1, .slice A2 n2 k2, .slice A3 n3 k3, .slice A4 n4 k4] 28)) 82 #[.int .i64 3000]
    rwa [size_al] at this
  have hk := Kept.all hb0 R
  have HC := kok_all d (R := fun b => b < w.heap.size) hl (Nat.le_refl _) (fun b hb => by omega) hid (h1.keep hk (fun b _ hb => hb)) (h2.keep hk (fun b _ hb => hb)) (h3.keep hk (fun b _ hb => hb)) (h4.keep hk (fun b _ hb => hb))
  unfold Taking at HC
  have HCC := Lib.hid HC
  have HB0 := Lib.hid hb0
  clear HC hk hl hb0 h1 h2 h3 h4
  go_enter Tryz.func14, Tryz.ntmps14
  go_wp2_with (go_at_call 28; refine HCC.out.mono ?_; rintro e w1 ⟨rfl, hb, hw⟩)
  go_ret
  exact ⟨rfl, HB0.out.trans (hb.below (by simp only [size_al]; omega) (by omega))⟩
theorem small_tg {d : Nat} {p : Pol} (h : polC (d + 1) p ≤ 3000) : tgC p.tg ≤ 3000 := by
  unfold polC at h; omega
end Go.Proofs.YtmoglaknmlhpgaaGreat
/- bailiffkeep: a target in new memory. -/
namespace Go.Proofs.YtmoglaknmlhpgaaGreat
set_option linter.unusedVariables false
open Go.RowKit

set_option maxRecDepth 100000 in
set_option maxHeartbeats 1600000 in
theorem ctarget_any {w : World} {R : Nat → Prop} {n c : Nat} {A : Option Addr} {l : Tgt} (hs : tgC l ≤ 3000) (h : Tg w R A n c l) :
    Calls Tryz.prog 33 #[.slice A n c] w fun e w' => ∃ A' c', e = .returned (.slice A' n c') ∧ Below w.heap.size w w' ∧ Tg w' (fun b => w.heap.size ≤ b) A' n c' l := by
  have hle := Rw.le h
  have hcap := Rw.cap h
  have HL := Lib.hid (Rw.len h)
  have hbig := Rw.big h
  have hcc : tgC l = 1 + n + sumC anyC l := by unfold tgC; rw [Rw.len h]
  have HC := Lib.hid (show 1 + n + sumC anyC l ≤ 3000 by omega)
  unfold maxLen at hcap
  have H := Lib.hid h
  clear h hs hcc
  go_enter Tryz.func33, Tryz.ntmps33
  go_wp2
  go_loopw [3, 11] (fun v i wr => ∃ (k : Nat) (A1 : Option Addr) (c1 : Nat), k ≤ n ∧ i = .int .i64 k ∧ v = .slice A1 k c1 ∧ Below w.heap.size w wr ∧ Gr 1 AnP wr w.heap.size 66 A1 k c1 (l.take k)) (fun v i _ => n - (intOf i).toNat)
  case atStart => exact ⟨0, none, 0, Nat.zero_le _, rfl, rfl, Below.refl _ _, Gr.nil _ _ (Nat.le_refl _)⟩
  case round =>
    obtain ⟨wo, hwo⟩ : ∃ wo, wo = wr := ⟨wr, rfl⟩
    subst hwo
    obtain ⟨k, A1, c1, hk, rfl, rfl, hb, hg⟩ := hrel
    have HB := Lib.hid hb
    have HG := Lib.hid hg
    clear hb hg
    by_cases hlt : k < n
    · obtain ⟨b, o, x, A', n', c', rfl, hRb, hbl, hx, c0, hin⟩ := (H.out.keep (Kept.all HB.out _) (fun _ h _ => h)).at_ hlt
      have HX := Lib.hid hx
      have hle' := Rw.le hin
      have hcap' := Rw.cap hin
      have hbig' := Rw.big hin
      have HL' := Lib.hid (Rw.len hin)
      have HIN := Lib.hid hin
      have hsx := sumC_le (f := anyC) hx
      have hex : anyC x = 1 + n' + sumC allC x := by unfold anyC; rw [Rw.len hin]
      have HEX := Lib.hid (show 1 + n' + sumC allC x ≤ 3000 by have := HC.out; omega)
      clear hx hin hsx hex
      unfold maxLen at hcap'
      go_wp2
      go_loopw [6, 17] (fun v i wq => ∃ (k2 : Nat) (A2 : Option Addr) (c2 : Nat), k2 ≤ n' ∧ i = .int .i64 k2 ∧ v = .slice A2 k2 c2 ∧ Below wo.heap.size wo wq ∧ Gr 1 AlP wq wo.heap.size 65 A2 k2 c2 (x.take k2)) (fun v i _ => n' - (intOf i).toNat)
      case atStart => exact ⟨0, none, 0, Nat.zero_le _, rfl, rfl, Below.refl _ _, Gr.nil _ _ (Nat.le_refl _)⟩
      case round =>
        obtain ⟨wq, hwq⟩ : ∃ wq, wq = wr := ⟨wr, rfl⟩
        subst hwq
        obtain ⟨k2, A2, c2, hk2, rfl, rfl, hb, hg⟩ := hrel
        have HB2 := Lib.hid hb
        have HG2 := Lib.hid hg
        clear hb hg
        by_cases hlt2 : k2 < n'
        · obtain ⟨b2, o2, y, A3, n3, c3, rfl, hRb2, hbl2, hy, d0, hin2⟩ := (HIN.out.keep (Kept.all HB2.out _) (fun _ h _ => h)).at_ hlt2
          have hsy := sumC_le (f := allC) hy
          have hey : allC y = 1 + n3 + sumC matC y := by unfold allC; rw [Rw.len hin2]
          have hle2 := Rw.le hin2
          have hcap2 := Rw.cap hin2
          obtain ⟨A5, c5, w5, r5, b5, o5⟩ := copy_mats hin2 (by have := HEX.out; omega)
          have h5 := Gr.below keeps_alp HG2.out b5
          obtain ⟨A6, c6, w6, r6, g6, b6⟩ := push_all h5 (o5.keep (Kept.refl _ _) (fun b hb _ => HG2.out.apart b hb)) (by have := HEX.out; omega)
          have HY := Lib.hid hy
          have R5 := Lib.hid r5
          have R6 := Lib.hid r6
          have G6 := Lib.hid g6
          have B6 := Lib.hid ((HB2.out.trans (b5.mono HB2.out.size)).trans b6)
          clear hin2 hy hsy hey r5 r6 g6 b6 h5 o5 b5
          go_wp2_with (first
            | (at_builtin; refine wpList_append_run (o := ⟨some 24, _, _, _, _, _⟩) rfl _ _ _ _ rfl rfl rfl R5.out ?_)
            | (at_builtin; refine wpList_append_run (o := ⟨some 26, _, _, _, _, _⟩) rfl _ _ _ _ rfl rfl rfl R6.out ?_))
          go_roundw
          case rel => exact ⟨k2 + 1, A6, c6, by omega, by go_num, rfl, B6.out, by rw [List.take_add_one, HY.out]; exact G6.out⟩
          case measure => simp [intOf]; omega
        · obtain rfl : k2 = n' := by omega
          obtain ⟨A6, c6, w6, r6, g6, b6⟩ := push_any (x := x) (Gr.below keeps_anp HG.out HB2.out) (A1 := A2) (n1 := k2) (c1 := c2) (by
            have hrw := Gr.rw keeps_alp HG2.out hbig'
            rw [List.take_of_length_le (Nat.le_of_eq HL'.out)] at hrw
            exact Als.keep (show Als wq (fun b => wo.heap.size ≤ b) A2 k2 c2 x from hrw) (Kept.refl _ _) (fun b hb _ => HG.out.apart b hb)) (by have := HC.out; omega)
          have R6 := Lib.hid r6
          have G6 := Lib.hid g6
          have B6 := Lib.hid ((HB.out.trans (HB2.out.mono HB.out.size)).trans b6)
          clear r6 g6 b6
          go_wp2_with (at_builtin; refine wpList_append_run (o := ⟨some 31, _, _, _, _, _⟩) rfl _ _ _ _ rfl rfl rfl R6.out ?_)
          go_roundw
          case rel => exact ⟨k + 1, A6, c6, by omega, by go_num, rfl, B6.out, by rw [List.take_add_one, HX.out]; exact G6.out⟩
          case measure => simp [intOf]; omega
    · obtain rfl : k = n := by omega
      go_wp2
      go_ret
      have hrw := Gr.rw keeps_anp HG.out hbig
      rw [List.take_of_length_le (Nat.le_of_eq HL.out)] at hrw
      exact ⟨A1, c1, rfl, HB.out, hrw⟩
end Go.Proofs.YtmoglaknmlhpgaaGreat
/- bailiffkeep: a policy in new memory. -/
namespace Go.Proofs.YtmoglaknmlhpgaaGreat
set_option linter.unusedVariables false
open Go.RowKit

theorem dutsC_len {l : List Dut} : l.length ≤ dutsC l := by unfold dutsC; omega
theorem copy_r1 {w w5 : World} {p : Pol} {A1 A2 A3 A4 B1 B4 : Option Addr} {n1 n2 n3 n4 k1 k2 k3 k4 d1 d4 : Nat} (h0 : Below w.heap.size w w5) (ob : Ob w5 w.heap.size 28 #[.string p.id, .bool p.set, .int .i64 p.alg, .slice A1 n1 k1, .slice A2 n2 k2, .slice A3 n3 k3, .slice A4 n4 k4]) (oz : Ob w5 (w.heap.size + 1) 28 #[.string ⟨#[]⟩, .bool false, .int .i64 0, .slice none 0 0, .slice none 0 0, .slice none 0 0, .slice none 0 0])
    (t : Tg w5 (fun b => w.heap.size + 2 ≤ b) B1 n1 d1 p.tg) (u : Dus w5 (fun b => w.heap.size + 2 ≤ b) B4 n4 d4 p.ob) :
    ∃ B1' d1' B4' d4', Ob ((w5.setCell ⟨w.heap.size, 3, none⟩ (.slice B1 n1 d1)).setCell ⟨w.heap.size, 6, none⟩ (.slice B4 n4 d4)) w.heap.size 28 #[.string p.id, .bool p.set, .int .i64 p.alg, .slice B1' n1 d1', .slice A2 n2 k2, .slice A3 n3 k3, .slice B4' n4 d4'] ∧
      Ob ((w5.setCell ⟨w.heap.size, 3, none⟩ (.slice B1 n1 d1)).setCell ⟨w.heap.size, 6, none⟩ (.slice B4 n4 d4)) (w.heap.size + 1) 28 #[.string ⟨#[]⟩, .bool false, .int .i64 0, .slice none 0 0, .slice none 0 0, .slice none 0 0, .slice none 0 0] ∧ Below w.heap.size w ((w5.setCell ⟨w.heap.size, 3, none⟩ (.slice B1 n1 d1)).setCell ⟨w.heap.size, 6, none⟩ (.slice B4 n4 d4)) ∧
      Tg ((w5.setCell ⟨w.heap.size, 3, none⟩ (.slice B1 n1 d1)).setCell ⟨w.heap.size, 6, none⟩ (.slice B4 n4 d4)) (fun b => w.heap.size + 2 ≤ b) B1' n1 d1' p.tg ∧ Dus ((w5.setCell ⟨w.heap.size, 3, none⟩ (.slice B1 n1 d1)).setCell ⟨w.heap.size, 6, none⟩ (.slice B4 n4 d4)) (fun b => w.heap.size + 2 ≤ b) B4' n4 d4' p.ob := by
  have o : Only w.heap.size w5 ((w5.setCell ⟨w.heap.size, 3, none⟩ (.slice B1 n1 d1)).setCell ⟨w.heap.size, 6, none⟩ (.slice B4 n4 d4)) := (Only.refl.setCell (p := ⟨w.heap.size, 3, none⟩) rfl _).setCell (p := ⟨w.heap.size, 6, none⟩) rfl _
  have hk := o.kept (R := fun b => w.heap.size + 2 ≤ b) (fun b hb => by omega)
  refine ⟨B1, d1, B4, d4, ?_, oz.keep (o.heap oz.lt (by omega)), (h0.setCell (p := ⟨w.heap.size, 3, none⟩) (Nat.le_refl _) _).setCell (p := ⟨w.heap.size, 6, none⟩) (Nat.le_refl _) _, t.keep hk (fun _ h _ => h), u.keep hk (fun _ h _ => h)⟩
  have := (ob.put 3 (.slice B1 n1 d1)).put 6 (.slice B4 n4 d4)
  simpa using this

theorem copy_r6 {wr w5 : World} {r : Rul} {A5 A6 A7 B1 B2 B3 : Option Addr} {m1 m2 m3 c5 c6 c7 e1 e2 e3 : Nat} (h0 : Below wr.heap.size wr w5) (ob : Ob w5 wr.heap.size 61 #[.string r.id, .bool r.deny, .slice A5 m1 c5, .slice A6 m2 c6, .slice A7 m3 c7])
    (t : Tg w5 (fun b => wr.heap.size + 1 ≤ b) B1 m1 e1 r.tg) (u : Nds w5 (fun b => wr.heap.size + 1 ≤ b) B2 m2 e2 r.cond) (v : Dus w5 (fun b => wr.heap.size + 1 ≤ b) B3 m3 e3 r.ob) :
    ∃ B1' e1' B2' e2' B3' e3', Ob (((w5.setCell ⟨wr.heap.size, 2, none⟩ (.slice B1 m1 e1)).setCell ⟨wr.heap.size, 3, none⟩ (.slice B2 m2 e2)).setCell ⟨wr.heap.size, 4, none⟩ (.slice B3 m3 e3)) wr.heap.size 61 #[.string r.id, .bool r.deny, .slice B1' m1 e1', .slice B2' m2 e2', .slice B3' m3 e3'] ∧ Below wr.heap.size wr (((w5.setCell ⟨wr.heap.size, 2, none⟩ (.slice B1 m1 e1)).setCell ⟨wr.heap.size, 3, none⟩ (.slice B2 m2 e2)).setCell ⟨wr.heap.size, 4, none⟩ (.slice B3 m3 e3)) ∧
      Tg (((w5.setCell ⟨wr.heap.size, 2, none⟩ (.slice B1 m1 e1)).setCell ⟨wr.heap.size, 3, none⟩ (.slice B2 m2 e2)).setCell ⟨wr.heap.size, 4, none⟩ (.slice B3 m3 e3)) (fun b => wr.heap.size + 1 ≤ b) B1' m1 e1' r.tg ∧ Nds (((w5.setCell ⟨wr.heap.size, 2, none⟩ (.slice B1 m1 e1)).setCell ⟨wr.heap.size, 3, none⟩ (.slice B2 m2 e2)).setCell ⟨wr.heap.size, 4, none⟩ (.slice B3 m3 e3)) (fun b => wr.heap.size + 1 ≤ b) B2' m2 e2' r.cond ∧ Dus (((w5.setCell ⟨wr.heap.size, 2, none⟩ (.slice B1 m1 e1)).setCell ⟨wr.heap.size, 3, none⟩ (.slice B2 m2 e2)).setCell ⟨wr.heap.size, 4, none⟩ (.slice B3 m3 e3)) (fun b => wr.heap.size + 1 ≤ b) B3' m3 e3' r.ob := by
  have o : Only wr.heap.size w5 (((w5.setCell ⟨wr.heap.size, 2, none⟩ (.slice B1 m1 e1)).setCell ⟨wr.heap.size, 3, none⟩ (.slice B2 m2 e2)).setCell ⟨wr.heap.size, 4, none⟩ (.slice B3 m3 e3)) := ((Only.refl.setCell (p := ⟨wr.heap.size, 2, none⟩) rfl _).setCell (p := ⟨wr.heap.size, 3, none⟩) rfl _).setCell (p := ⟨wr.heap.size, 4, none⟩) rfl _
  have hk := o.kept (R := fun b => wr.heap.size + 1 ≤ b) (fun b hb => by omega)
  refine ⟨B1, e1, B2, e2, B3, e3, ?_, ((h0.setCell (p := ⟨wr.heap.size, 2, none⟩) (Nat.le_refl _) _).setCell (p := ⟨wr.heap.size, 3, none⟩) (Nat.le_refl _) _).setCell (p := ⟨wr.heap.size, 4, none⟩) (Nat.le_refl _) _, t.keep hk (fun _ h _ => h), u.keep hk (fun _ h _ => h), v.keep hk (fun _ h _ => h)⟩
  have := ((ob.put 2 (.slice B1 m1 e1)).put 3 (.slice B2 m2 e2)).put 4 (.slice B3 m3 e3)
  simpa using this
theorem sumC_len {α : Type} {f : α → Nat} (hf : ∀ x, 1 ≤ f x) : ∀ l : List α, l.length ≤ sumC f l
  | [] => Nat.zero_le _
  | x :: l => by
    have := sumC_len hf l
    have := hf x
    rw [List.length_cons]
    show _ ≤ f x + sumC f l
    omega
theorem kids_len {w : World} {R : Nat → Prop} {d n c : Nat} {A : Option Addr} {l : List Pol} (h : Pls w R d A n c l) : n ≤ sumC (polC d) l := by
  match d, h with
  | 0, h =>
    rcases Nat.eq_zero_or_pos n with h0 | h0
    · omega
    · obtain ⟨_, _, _, _, _, _, _, _, _, _, hp⟩ := Rw.at_ h h0
      exact hp.elim
  | d + 1, h =>
    rw [← Rw.len h]
    exact sumC_len (fun x => by unfold polC; omega) l
def CopyTo (w w' : World) (d : Nat) (p : Pol) (B1 : Option Addr) (n1 d1 : Nat) (B2 : Option Addr) (n2 d2 : Nat) (B3 : Option Addr) (n3 d3 : Nat) (B4 : Option Addr) (n4 d4 : Nat) : Prop :=
  ∃ s1 s2, w.heap.size ≤ s1 ∧ s1 ≤ s2 ∧ s2 ≤ w'.heap.size ∧ Tg w' (fun b => w.heap.size ≤ b ∧ b < s1) B1 n1 d1 p.tg ∧ Dus w' (fun b => w.heap.size ≤ b ∧ b < s1) B4 n4 d4 p.ob ∧
    Ow 5 (RulAt w' (fun b => Nb s1 (.slice B2 n2 d2) b ∧ b < s2)) w' s1 61 B2 n2 d2 p.rules ∧ (∀ b, (Value.slice B2 n2 d2).ownBlock = some b → b < s2) ∧ Gr 7 (fun w R => PolAt w R d) w' s2 28 B3 n3 d3 p.kids
theorem CopyTo.at_ {w w' : World} {d : Nat} {p : Pol} {B1 B2 B3 B4 : Option Addr} {n1 n2 n3 n4 d1 d2 d3 d4 : Nat} (h : CopyTo w w' d p B1 n1 d1 B2 n2 d2 B3 n3 d3 B4 n4 d4) (hid : p.id.size ≤ maxLen) (ha : InI p.alg) (hn2 : n2 ≤ 3000) (hn3 : n3 ≤ 3000) :
    PolAt w' (fun b => w.heap.size ≤ b) (d + 1) [.string p.id, .bool p.set, .int .i64 p.alg, .slice B1 n1 d1, .slice B2 n2 d2, .slice B3 n3 d3, .slice B4 n4 d4] p := by
  obtain ⟨s1, s2, l1, l2, l3, ht, hd, hr, hl, hk⟩ := h
  refine ⟨B1, n1, d1, B2, n2, d2, B3, n3, d3, B4, n4, d4, rfl, hid, ha, ht.keep (Kept.refl _ _) (fun b hb _ => hb.1), ?_, ?_, hd.keep (Kept.refl _ _) (fun b hb _ => hb.1)⟩
  · have := (hr.mapP (P' := RulAt w' (fun b => s1 ≤ b)) (fun vs x _ h => h.keep (Kept.refl _ _) (fun b hb _ => hb.1.1))).rw (by omega) (R := fun b => s1 ≤ b) (fun _ _ h => h)
    exact Rus.keep this (Kept.refl _ _) (fun b hb _ => Nat.le_trans l1 hb)
  · have := Gr.rw (keeps_pol d) hk (by omega)
    exact Pls.keep this (Kept.refl _ _) (fun b hb _ => Nat.le_trans (Nat.le_trans l1 l2) hb)
def CpOk (d : Nat) : Prop := ∀ {w : World} {R : Nat → Prop} {p : Pol} {A1 A2 A3 A4 : Option Addr} {n1 n2 n3 n4 k1 k2 k3 k4 : Nat}, polC (d + 1) p ≤ 3000 → p.id.size ≤ maxLen → InI p.alg → Tg w R A1 n1 k1 p.tg → Rus w R A2 n2 k2 p.rules → Pls w R d A3 n3 k3 p.kids → Dus w R A4 n4 k4 p.ob →
    Calls Tryz.prog 22 #[.agg #[.string p.id, .bool p.set, .int .i64 p.alg, .slice A1 n1 k1, .slice A2 n2 k2, .slice A3 n3 k3, .slice A4 n4 k4]] w
      fun e w' => ∃ B1 d1 B2 d2 B3 d3 B4 d4, e = .returned (.agg #[.string p.id, .bool p.set, .int .i64 p.alg, .slice B1 n1 d1, .slice B2 n2 d2, .slice B3 n3 d3, .slice B4 n4 d4]) ∧ Below w.heap.size w w' ∧ CopyTo w w' d p B1 n1 d1 B2 n2 d2 B3 n3 d3 B4 n4 d4
theorem copy_end {w wa wb wr Wf W9 : World} {d : Nat} {p : Pol} {B1 B2 B3 B4 : Option Addr} {n1 n2 n3 n4 d1 d2 d3 d4 : Nat} (ha : Below w.heap.size w wa) (hab : Below wa.heap.size wa wb) (hbr : Below wb.heap.size wb wr) (hlt : w.heap.size + 2 ≤ wa.heap.size)
    (o1 : Only w.heap.size wr W9) (o2 : Only (w.heap.size + 1) W9 Wf) (t : Tg wa (fun b => w.heap.size + 2 ≤ b) B1 n1 d1 p.tg) (u : Dus wa (fun b => w.heap.size + 2 ≤ b) B4 n4 d4 p.ob) (hr : Gr 5 RulAt wb wa.heap.size 61 B2 n2 d2 p.rules) (hk : Gr 7 (fun w R => PolAt w R d) wr wb.heap.size 28 B3 n3 d3 p.kids) :
    Below w.heap.size w Wf ∧ CopyTo w Wf d p B1 n1 d1 B2 n2 d2 B3 n3 d3 B4 n4 d4 := by
  have har : Below wa.heap.size wa wr := hab.trans (hbr.mono hab.size)
  have hs9 := o1.size
  have hsf := o2.size
  have hwr : Below w.heap.size w wr := ha.trans (har.mono ha.size)
  have b9 : Below w.heap.size wr Wf := by
    refine ⟨o2.os.trans o1.os, o2.tape.trans o1.tape, o2.output.trans o1.output, by omega, fun k hk => (o2.heap (k := k) (by have := hwr.size; omega) (by omega)).trans (o1.heap (k := k) (by have := hwr.size; omega) (by omega))⟩
  have kp : ∀ {R : Nat → Prop}, (∀ b, R b → w.heap.size + 2 ≤ b) → Kept R wr Wf := fun {R} h => (o1.kept (fun b hb => by have := h b hb; omega)).trans (o2.kept (fun b hb => by have := h b hb; omega))
  refine ⟨hwr.trans b9, wa.heap.size, wb.heap.size, ha.size, hab.size, by have := hbr.size; omega, ?_, ?_, ?_, fun b e => (hr.1.lt b e).2, ?_⟩
  · exact (t.keep (Kept.all har _) (R' := fun b => w.heap.size + 2 ≤ b ∧ b < wa.heap.size) (fun b hb hlt => ⟨hb, hlt⟩)).keep (kp (fun b hb => hb.1)) (fun b hb _ => ⟨by have := hb.1; omega, hb.2⟩)
  · exact (u.keep (Kept.all har _) (R' := fun b => w.heap.size + 2 ≤ b ∧ b < wa.heap.size) (fun b hb hlt => ⟨hb, hlt⟩)).keep (kp (fun b hb => hb.1)) (fun b hb _ => ⟨by have := hb.1; omega, hb.2⟩)
  · have e1 := (hr.1.mapP (P' := RulAt Wf (fun b => Nb wa.heap.size (.slice B2 n2 d2) b ∧ b < wb.heap.size)) (fun vs x _ h => ((h.keep (Kept.all hbr _) (R' := fun b => Nb wa.heap.size (.slice B2 n2 d2) b ∧ b < wb.heap.size) (fun b hb hlt => ⟨hb, hlt⟩)).keep (kp (fun b hb => Nat.le_trans hlt hb.1.1)) (fun _ h _ => h)))).below hbr
    exact (e1.only o1 (by omega)).only o2 (by omega)
  · exact ((Gr.only (keeps_pol d) hk o1 (by have := hab.size; omega)).only (keeps_pol d) o2 (by have := hab.size; omega))
set_option maxRecDepth 100000 in
set_option maxHeartbeats 3200000 in
theorem copy_step (d : Nat) (IH : ∀ d', d = d' + 1 → CpOk d') : CpOk d := by
  intro w R p A1 A2 A3 A4 n1 n2 n3 n4 k1 k2 k3 k4 hs hid halg h1 h2 h3 h4
  have hst := small_tg hs
  have hn4 : n4 ≤ 3000 := by
    have := Rw.len h4
    have := dutsC_len (l := p.ob)
    unfold polC at hs
    omega
  have T1 := Lib.hid h1
  have T4 := Lib.hid h4
  have CT : Hid (∀ V : World, Below w.heap.size w V → Calls Tryz.prog 33 #[.slice A1 n1 k1] V fun e w' => ∃ A' c', e = .returned (.slice A' n1 c') ∧ Below V.heap.size V w' ∧ Tg w' (fun b => V.heap.size ≤ b) A' n1 c' p.tg) :=
    fun V hV => ctarget_any hst (h1.keep (Kept.all hV _) (fun _ h _ => h))
  have BW : Below w.heap.size w ((w.alloc (.cells #[.string p.id, .bool p.set, .int .i64 p.alg, .slice A1 n1 k1, .slice A2 n2 k2, .slice A3 n3 k3, .slice A4 n4 k4] 28)).alloc (.cells #[.string ⟨#[]⟩, .bool false, .int .i64 0, .slice none 0 0, .slice none 0 0, .slice none 0 0, .slice none 0 0] 28)) := ((Below.refl _ _).alloc (Nat.le_refl _) _).alloc (by rw [size_al]; omega) _
  have OB : Ob ((w.alloc (.cells #[.string p.id, .bool p.set, .int .i64 p.alg, .slice A1 n1 k1, .slice A2 n2 k2, .slice A3 n3 k3, .slice A4 n4 k4] 28)).alloc (.cells #[.string ⟨#[]⟩, .bool false, .int .i64 0, .slice none 0 0, .slice none 0 0, .slice none 0 0, .slice none 0 0] 28)) w.heap.size 28 #[.string p.id, .bool p.set, .int .i64 p.alg, .slice A1 n1 k1, .slice A2 n2 k2, .slice A3 n3 k3, .slice A4 n4 k4] :=
    (Ob.made w _ _).below (B := w.heap.size + 1) ((Below.refl _ _).alloc (by rw [size_al]; omega) _) (by omega)
  have OZ : Ob ((w.alloc (.cells #[.string p.id, .bool p.set, .int .i64 p.alg, .slice A1 n1 k1, .slice A2 n2 k2, .slice A3 n3 k3, .slice A4 n4 k4] 28)).alloc (.cells #[.string ⟨#[]⟩, .bool false, .int .i64 0, .slice none 0 0, .slice none 0 0, .slice none 0 0, .slice none 0 0] 28)) (w.heap.size + 1) 28 #[.string ⟨#[]⟩, .bool false, .int .i64 0, .slice none 0 0, .slice none 0 0, .slice none 0 0, .slice none 0 0] := by
    have := Ob.made (w.alloc (.cells #[.string p.id, .bool p.set, .int .i64 p.alg, .slice A1 n1 k1, .slice A2 n2 k2, .slice A3 n3 k3, .slice A4 n4 k4] 28)) 28 #[.string ⟨#[]⟩, .bool false, .int .i64 0, .slice none 0 0, .slice none 0 0, .slice none 0 0, .slice none 0 0]
    rwa [size_al] at this
  have SZ : ((w.alloc (.cells #[.string p.id, .bool p.set, .int .i64 p.alg, .slice A1 n1 k1, .slice A2 n2 k2, .slice A3 n3 k3, .slice A4 n4 k4] 28)).alloc (.cells #[.string ⟨#[]⟩, .bool false, .int .i64 0, .slice none 0 0, .slice none 0 0, .slice none 0 0, .slice none 0 0] 28)).heap.size = w.heap.size + 2 := by simp
  clear h1 h4
  go_enter Tryz.func22, Tryz.ntmps22
  go_wp2_with fail
  generalize (w.alloc (.cells #[.string p.id, .bool p.set, .int .i64 p.alg, .slice A1 n1 k1, .slice A2 n2 k2, .slice A3 n3 k3, .slice A4 n4 k4] 28)).alloc (.cells #[.string ⟨#[]⟩, .bool false, .int .i64 0, .slice none 0 0, .slice none 0 0, .slice none 0 0, .slice none 0 0] 28) = W0 at *
  have KO : Hid (∀ V : World, Below (w.heap.size + 2) W0 V → Ob V w.heap.size 28 #[.string p.id, .bool p.set, .int .i64 p.alg, .slice A1 n1 k1, .slice A2 n2 k2, .slice A3 n3 k3, .slice A4 n4 k4] ∧ Ob V (w.heap.size + 1) 28 #[.string ⟨#[]⟩, .bool false, .int .i64 0, .slice none 0 0, .slice none 0 0, .slice none 0 0, .slice none 0 0] ∧ Below w.heap.size w V) := fun V hV => ⟨OB.below hV (by omega), OZ.below hV (by omega), BW.trans (hV.mono (by omega))⟩
  have KS : Hid (∀ V : World, Below (w.heap.size + 2) W0 V → V.cell? ⟨w.heap.size, 3, none⟩ = some (.slice A1 n1 k1) ∧ V.cell? ⟨w.heap.size, 6, none⟩ = some (.slice A4 n4 k4)) :=
    fun V hV => ⟨(hV.cell (by show w.heap.size < _; omega)).trans (OB.cell 3), (hV.cell (by show w.heap.size < _; omega)).trans (OB.cell 6)⟩
  have HOB := Lib.hid OB
  have HOZ := Lib.hid OZ
  have HSZ := Lib.hid SZ
  have HBW := Lib.hid BW
  clear OB OZ SZ BW
  go_cut [] from 9 to 17 (fun wx => ∃ B1 d1 B4 d4, Ob wx w.heap.size 28 #[.string p.id, .bool p.set, .int .i64 p.alg, .slice B1 n1 d1, .slice A2 n2 k2, .slice A3 n3 k3, .slice B4 n4 d4] ∧ Ob wx (w.heap.size + 1) 28 #[.string ⟨#[]⟩, .bool false, .int .i64 0, .slice none 0 0, .slice none 0 0, .slice none 0 0, .slice none 0 0] ∧ Below w.heap.size w wx ∧
    Tg wx (fun b => w.heap.size + 2 ≤ b) B1 n1 d1 p.tg ∧ Dus wx (fun b => w.heap.size + 2 ≤ b) B4 n4 d4 p.ob)
  case first =>
    refine wp_region_held_tail (fun w' => Below (w.heap.size + 2) W0 w') 8 (by kernel_rfl) (by kernel_rfl) ?_
    intro G
    change HeadW _ _ _ _ _ _ _ _ _ _ (W0.drewN 1)
    have S0 := Lib.hid (below_drewN (Below.refl (w.heap.size + 2) W0) 1)
    refine HeadW_take (i := 0) (v := ?_) G rfl (by kernel_rfl) (by kernel_rfl) (by kernel_rfl) (fun _ _ _ h => h) (Or.inl ⟨by rfl, ?_⟩) S0.out ?_
    rotate_left
    · intro w hS
      go_simp
      try with_reducible rfl
    refine HeadW_take (i := 1) (v := ?_) G rfl (by kernel_rfl) (by kernel_rfl) (by kernel_rfl) (fun _ _ _ h => h) (Or.inl ⟨by rfl, ?_⟩) S0.out ?_
    rotate_left
    · intro w hS
      have hk := KS.out _ hS
      have hk1 := hk.1
      go_simp
      try with_reducible rfl
    refine HeadW_take (i := 4) (v := ?_) G rfl (by kernel_rfl) (by kernel_rfl) (by kernel_rfl) (fun _ _ _ h => h) (Or.inl ⟨by rfl, ?_⟩) S0.out ?_
    rotate_left
    · intro w hS
      go_simp
      try with_reducible rfl
    refine HeadW_take (i := 5) (v := ?_) G rfl (by kernel_rfl) (by kernel_rfl) (by kernel_rfl) (fun _ _ _ h => h) (Or.inl ⟨by rfl, ?_⟩) S0.out ?_
    rotate_left
    · intro w hS
      have hk := KS.out _ hS
      have hk2 := hk.2
      go_simp
      try with_reducible rfl
    refine HeadW_ready (rs := [2, 3]) (by kernel_rfl) rfl rfl ?_
    refine AllW.cons rfl (fun K hK => ?_) (AllW.cons rfl (fun K hK => ?_) AllW.nil)
    · go_simp
      refine (CT.out _ (HBW.out.trans ((below_drewN (Below.refl W0.heap.size W0) 1).mono (by have := HSZ.out; omega)))).mono ?_
      rintro e w1 ⟨B1, d1, rfl, hb, ht⟩
      have SV := Lib.hid (S0.out.trans (hb.mono (by show _ ≤ W0.heap.size; have := HSZ.out; omega)))
      have LT : w.heap.size + 2 ≤ w1.heap.size := by have := SV.out.size; have := HSZ.out; omega
      refine hK _ _ SV.out ?_
      clear hK K
      refine HeadW_take (i := 7) (v := ?_) G rfl (by kernel_rfl) (by kernel_rfl) (by kernel_rfl) (fun _ _ _ h => h) (Or.inl ⟨by rfl, ?_⟩) SV.out ?_
      rotate_left
      · intro w hS
        go_simp
        try with_reducible rfl
      refine HeadW_ready (rs := [3]) (by kernel_rfl) rfl rfl ?_
      refine AllW.cons rfl (fun K hK => ?_) AllW.nil
      go_simp
      refine hK _ _ (SV.out.alloc (by have := HSZ.out; omega) _) ?_
      clear hK K
      have S2 := Lib.hid (SV.out.alloc LT (.cells #[] 42))
      have T2 := Lib.hid (ht.keep (Kept.all ((Below.refl _ _).alloc (Nat.le_refl _) (.cells #[] 42)) _) (fun _ h _ => h))
      obtain ⟨A5, c5, w5, r5, b5, o5, q5⟩ := copy_duts_at (Ob.made w1 42 #[]) (T4.out.keep (Kept.all (HBW.out.trans (S2.out.mono (by omega))) _) (fun _ h _ => h)) (by omega) (by simp)
      refine HeadW_ready (rs := [6]) (by kernel_rfl) rfl rfl ?_
      refine AllW.cons rfl (fun K hK => ?_) AllW.nil
      refine step_append_run rfl (.tmp 12) (.tmp 14) _ _ rfl (by first | rfl | simp [Act.eval]) (by first | rfl | simp [Act.eval]) r5 ?_
      have S3 := Lib.hid (S2.out.trans (b5.mono LT))
      refine hK _ _ S3.out ?_
      clear hK K
      have T5 : Hid (Tg w5 (fun b => w.heap.size + 2 ≤ b) B1 n1 d1 p.tg) := Lib.hid (ht.keep (Kept.all (((Below.refl w1.heap.size w1).alloc (Nat.le_refl _) (.cells #[] 42)).trans b5) _) (fun b hb _ => by have h : W0.heap.size ≤ b := hb; have := HSZ.out; omega))
      have D5 := Lib.hid (o5.keep (Kept.refl _ _) (R' := fun b => w.heap.size + 2 ≤ b) (fun b hb _ => by have h : b = w1.heap.size ∨ b = (w1.alloc (.cells #[] 42)).heap.size := hb; rw [size_al] at h; have := HSZ.out; show _ ≤ b; omega))
      intro _
      refine ⟨by kernel_rfl, ?_⟩
      simp only [List.drop_succ_cons, List.drop_zero]
      obtain ⟨o5, z5, e5⟩ := KO.out _ S3.out
      have f1 := o5.frozen 3
      have f2 := (o5.put 3 (.slice B1 n1 d1)).frozen 6
      have f3 := o5.cell 3
      have f4 := (o5.put 3 (.slice B1 n1 d1)).cell 6
      have HRel := Lib.hid (copy_r1 e5 o5 z5 T5.out D5.out)
      clear o5 z5 e5
      go_wp2_with fail
      go_meet
      case rel => exact HRel.out
    · go_simp
      have SA := Lib.hid (S0.out.alloc (by show _ ≤ W0.heap.size; have := HSZ.out; omega) (.cells #[] 42))
      refine hK _ _ SA.out ?_
      clear hK K
      refine HeadW_ready (rs := [2]) (by kernel_rfl) rfl rfl ?_
      refine AllW.cons rfl (fun K hK => ?_) AllW.nil
      go_simp
      refine (CT.out _ (HBW.out.trans (SA.out.mono (by omega)))).mono ?_
      rintro e w1 ⟨B1, d1, rfl, hb, ht⟩
      have SV := Lib.hid (SA.out.trans (hb.mono (by rw [size_al]; show _ ≤ W0.heap.size + 1; have := HSZ.out; omega)))
      have LT : W0.heap.size + 1 ≤ w1.heap.size := by have := hb.size; rwa [size_al] at this
      have OE : Ob w1 W0.heap.size 42 #[] := (Ob.made (W0.drewN 1) 42 #[]).below hb (by rw [size_al]; show W0.heap.size < W0.heap.size + 1; omega)
      refine hK _ _ SV.out ?_
      clear hK K
      refine HeadW_take (i := 7) (v := ?_) G rfl (by kernel_rfl) (by kernel_rfl) (by kernel_rfl) (fun _ _ _ h => h) (Or.inl ⟨by rfl, ?_⟩) SV.out ?_
      rotate_left
      · intro w hS
        go_simp
        try with_reducible rfl
      obtain ⟨A5, c5, w5, r5, b5, o5, q5⟩ := copy_duts_at OE (T4.out.keep (Kept.all (HBW.out.trans (SV.out.mono (by omega))) _) (fun _ h _ => h)) (by omega) (by omega)
      refine HeadW_ready (rs := [6]) (by kernel_rfl) rfl rfl ?_
      refine AllW.cons rfl (fun K hK => ?_) AllW.nil
      refine step_append_run rfl (.tmp 12) (.tmp 14) _ _ rfl (by first | rfl | simp [Act.eval]) (by first | rfl | simp [Act.eval]) r5 ?_
      have S3 := Lib.hid (SV.out.trans (b5.mono (by have := HSZ.out; omega)))
      refine hK _ _ S3.out ?_
      clear hK K
      have T5 : Hid (Tg w5 (fun b => w.heap.size + 2 ≤ b) B1 n1 d1 p.tg) := Lib.hid (ht.keep (Kept.below_ q5 (fun b hb => by have h : ((W0.drewN 1).alloc (.cells #[] 42)).heap.size ≤ b := hb; rw [size_al] at h; have h : W0.heap.size + 1 ≤ b := h; show b ≠ W0.heap.size; omega)) (fun b hb _ => by have h : ((W0.drewN 1).alloc (.cells #[] 42)).heap.size ≤ b := hb; rw [size_al] at h; have h : W0.heap.size + 1 ≤ b := h; have := HSZ.out; show _ ≤ b; omega))
      have D5 := Lib.hid (o5.keep (Kept.refl _ _) (R' := fun b => w.heap.size + 2 ≤ b) (fun b hb _ => by have h : b = _ ∨ b = _ := hb; have := HSZ.out; show _ ≤ b; omega))
      intro _
      refine ⟨by kernel_rfl, ?_⟩
      simp only [List.drop_succ_cons, List.drop_zero]
      obtain ⟨o5, z5, e5⟩ := KO.out _ S3.out
      have f1 := o5.frozen 3
      have f2 := (o5.put 3 (.slice B1 n1 d1)).frozen 6
      have f3 := o5.cell 3
      have f4 := (o5.put 3 (.slice B1 n1 d1)).cell 6
      have HRel := Lib.hid (copy_r1 e5 o5 z5 T5.out D5.out)
      clear o5 z5 e5
      go_wp2_with fail
      go_meet
      case rel => exact HRel.out
  case rest =>
    obtain ⟨wa, hwa⟩ : ∃ wa, wa = wc := ⟨wc, rfl⟩
    subst hwa
    obtain ⟨B1p, d1p, B4p, d4p, hob, hoz, hbw, htp, hdp⟩ := hcut
    have OBw := Lib.hid hob
    have OZw := Lib.hid hoz
    have BWw := Lib.hid hbw
    have TPw := Lib.hid htp
    have DPw := Lib.hid hdp
    have cb4 := hob.cell 4
    have hle2 := Rw.le h2
    have hcap2 := Rw.cap h2
    have hbig2 := Rw.big h2
    have HL2 := Lib.hid (Rw.len h2)
    have HC2 : Hid (n2 + sumC ruleC p.rules ≤ 3000) := by
      show n2 + sumC ruleC p.rules ≤ 3000
      have := Rw.len h2
      unfold polC at hs
      omega
    unfold maxLen at hcap2
    have H2 := Lib.hid h2
    clear hob hoz hbw htp hdp h2
    go_wp2
    go_loopw [3, 21] (fun v i wr => ∃ (k : Nat) (A : Option Addr) (c : Nat), k ≤ n2 ∧ i = .int .i64 k ∧ v = .slice A k c ∧ Below wa.heap.size wa wr ∧ Gr 5 RulAt wr wa.heap.size 61 A k c (p.rules.take k)) (fun v i _ => n2 - (intOf i).toNat)
    case atStart => exact ⟨0, none, 0, Nat.zero_le _, rfl, rfl, Below.refl _ _, Gr.nil _ _ (Nat.le_refl _)⟩
    case round =>
      obtain ⟨k, A, c, hk, rfl, rfl, hb, hg⟩ := hrel
      have HB := Lib.hid hb
      have HG := Lib.hid hg
      clear hb hg
      by_cases hlt : k < n2
      · obtain ⟨b, o, r, A5, m1, c5, A6, m2, c6, A7, m3, c7, rfl, hRb, hbl, hr, hrid, ⟨g0, g1, g2, g3, g4⟩, ht, hn, hd⟩ := (H2.out.keep (Kept.all (BWw.out.trans (HB.out.mono BWw.out.size)) _) (fun _ h _ => h)).at_ hlt
        have HX := Lib.hid hr
        have hsr := sumC_le (f := ruleC) hr
        have hcr : tgC r.tg ≤ ruleC r ∧ r.cond.length ≤ ruleC r ∧ dutsC r.ob ≤ ruleC r := by unfold ruleC; omega
        have hls := dutsC_len (l := r.ob)
        have hl6 := Rw.len hn
        have hl7 := Rw.len hd
        have hts : tgC r.tg ≤ 3000 := by have := HC2.out; omega
        have HM2 : Hid (m2 ≤ 1000000) := by show m2 ≤ 1000000; have := HC2.out; omega
        have HM3 : Hid (m3 ≤ 1000000) := by show m3 ≤ 1000000; have := HC2.out; omega
        have CR : Hid (∀ V : World, Below wr.heap.size wr V → Calls Tryz.prog 33 #[.slice A5 m1 c5] V fun e w' => ∃ A' c', e = .returned (.slice A' m1 c') ∧ Below V.heap.size V w' ∧ Tg w' (fun b => V.heap.size ≤ b) A' m1 c' r.tg) :=
          fun V hV => ctarget_any hts (ht.keep (Kept.all hV _) (fun _ h _ => h))
        have HN := Lib.hid hn
        have HD := Lib.hid hd
        have HID := Lib.hid hrid
        have hbr : Below wr.heap.size wr (wr.alloc (.cells #[.string r.id, .bool r.deny, .slice A5 m1 c5, .slice A6 m2 c6, .slice A7 m3 c7] 61)) := (Below.refl _ _).alloc (Nat.le_refl _) _
        have hor := Ob.made wr 61 #[.string r.id, .bool r.deny, .slice A5 m1 c5, .slice A6 m2 c6, .slice A7 m3 c7]
        have hzr : (wr.alloc (.cells #[.string r.id, .bool r.deny, .slice A5 m1 c5, .slice A6 m2 c6, .slice A7 m3 c7] 61)).heap.size = wr.heap.size + 1 := size_al _ _
        clear hr hsr hcr hls hl6 hl7 ht hn hd hts hrid
        go_wp2_with fail
        generalize wr.alloc (.cells #[.string r.id, .bool r.deny, .slice A5 m1 c5, .slice A6 m2 c6, .slice A7 m3 c7] 61) = W1 at *
        have KRO : Hid (∀ V : World, Below (wr.heap.size + 1) W1 V → Ob V wr.heap.size 61 #[.string r.id, .bool r.deny, .slice A5 m1 c5, .slice A6 m2 c6, .slice A7 m3 c7]) := fun V hV => hor.below hV (by omega)
        have KRS : Hid (∀ V : World, Below (wr.heap.size + 1) W1 V → V.cell? ⟨wr.heap.size, 2, none⟩ = some (.slice A5 m1 c5) ∧ V.cell? ⟨wr.heap.size, 3, none⟩ = some (.slice A6 m2 c6) ∧ V.cell? ⟨wr.heap.size, 4, none⟩ = some (.slice A7 m3 c7)) :=
          fun V hV => ⟨(hor.below hV (by omega)).cell 2, (hor.below hV (by omega)).cell 3, (hor.below hV (by omega)).cell 4⟩
        have HRB := Lib.hid hbr
        have HRZ := Lib.hid hzr
        clear hor hbr hzr g0 g1 g2 g3 g4
        go_cut [] from 25 to 38 (fun wx => ∃ B1 e1 B2 e2 B3 e3, Ob wx wr.heap.size 61 #[.string r.id, .bool r.deny, .slice B1 m1 e1, .slice B2 m2 e2, .slice B3 m3 e3] ∧ Below wr.heap.size wr wx ∧ Tg wx (fun b => wr.heap.size + 1 ≤ b) B1 m1 e1 r.tg ∧ Nds wx (fun b => wr.heap.size + 1 ≤ b) B2 m2 e2 r.cond ∧ Dus wx (fun b => wr.heap.size + 1 ≤ b) B3 m3 e3 r.ob)
        case first =>
          refine wp_region_held_tail (fun w' => Below (wr.heap.size + 1) W1 w') 12 (by kernel_rfl) (by kernel_rfl) ?_
          intro G
          change HeadW _ _ _ _ _ _ _ _ _ _ (W1.drewN 1)
          have S0 := Lib.hid (below_drewN (Below.refl (wr.heap.size + 1) W1) 1)
          have hz0 : (W1.drewN 1).heap.size ≤ W1.heap.size ∧ W1.heap.size ≤ (W1.drewN 1).heap.size := ⟨Nat.le_refl _, Nat.le_refl _⟩
          generalize W1.drewN 1 = v0 at *
          have LBv0 : wr.heap.size + 1 ≤ v0.heap.size := by have := HRZ.out; omega
          refine HeadW_take (i := 0) (v := ?_) G rfl (by kernel_rfl) (by kernel_rfl) (by kernel_rfl) (fun _ _ _ h => h) (Or.inl ⟨by rfl, ?_⟩) S0.out ?_
          rotate_left
          · intro wz hS
            go_simp
            try with_reducible rfl
          refine HeadW_take (i := 1) (v := ?_) G rfl (by kernel_rfl) (by kernel_rfl) (by kernel_rfl) (fun _ _ _ h => h) (Or.inl ⟨by rfl, ?_⟩) S0.out ?_
          rotate_left
          · intro wz hS
            have hk1 := (KRS.out _ hS).1
            go_simp
            try with_reducible rfl
          refine HeadW_take (i := 4) (v := ?_) G rfl (by kernel_rfl) (by kernel_rfl) (by kernel_rfl) (fun _ _ _ h => h) (Or.inl ⟨by rfl, ?_⟩) S0.out ?_
          rotate_left
          · intro wz hS
            go_simp
            try with_reducible rfl
          refine HeadW_take (i := 5) (v := ?_) G rfl (by kernel_rfl) (by kernel_rfl) (by kernel_rfl) (fun _ _ _ h => h) (Or.inl ⟨by rfl, ?_⟩) S0.out ?_
          rotate_left
          · intro wz hS
            have hk1 := (KRS.out _ hS).2.1
            go_simp
            try with_reducible rfl
          refine HeadW_take (i := 8) (v := ?_) G rfl (by kernel_rfl) (by kernel_rfl) (by kernel_rfl) (fun _ _ _ h => h) (Or.inl ⟨by rfl, ?_⟩) S0.out ?_
          rotate_left
          · intro wz hS
            go_simp
            try with_reducible rfl
          refine HeadW_take (i := 9) (v := ?_) G rfl (by kernel_rfl) (by kernel_rfl) (by kernel_rfl) (fun _ _ _ h => h) (Or.inl ⟨by rfl, ?_⟩) S0.out ?_
          rotate_left
          · intro wz hS
            have hk1 := (KRS.out _ hS).2.2
            go_simp
            try with_reducible rfl
          refine HeadW_ready (rs := [2, 3, 7]) (by kernel_rfl) rfl rfl ?_
          refine AllW.cons rfl (fun K hK => ?_) (AllW.cons rfl (fun K hK => ?_) (AllW.cons rfl (fun K hK => ?_) AllW.nil))
          · go_simp
            refine (CR.out _ (HRB.out.trans (S0.out.mono (by omega)))).mono ?_
            rintro e v1 ⟨B1, e1, rfl, hb, ht⟩
            have S1 := Lib.hid (S0.out.trans (hb.mono LBv0))
            have LBv1 : wr.heap.size + 1 ≤ v1.heap.size := Nat.le_trans LBv0 hb.size
            have HSv1 := hb.size
            have T1 : Hid (Tg v1 (fun b => wr.heap.size + 1 ≤ b ∧ b ≠ 0 ∧ b ≠ 0) B1 m1 e1 r.tg) := Lib.hid (ht.keep (Kept.refl _ _) (fun b hb hlt => by have hb : v0.heap.size ≤ b := hb; refine ⟨by omega, ?_, ?_⟩ <;> omega))
            refine hK _ _ S1.out ?_
            clear hK K hb ht
            refine HeadW_take (i := 11) (v := ?_) G rfl (by kernel_rfl) (by kernel_rfl) (by kernel_rfl) (fun _ _ _ h => h) (Or.inl ⟨by rfl, ?_⟩) S1.out ?_
            rotate_left
            · intro wz hS
              go_simp
              try with_reducible rfl
            refine HeadW_ready (rs := [3, 7]) (by kernel_rfl) rfl rfl ?_
            refine AllW.cons rfl (fun K hK => ?_) (AllW.cons rfl (fun K hK => ?_) AllW.nil)
            · go_simp
              have hb : Below v1.heap.size v1 (v1.alloc (.cells #[] 58)) := (Below.refl _ _).alloc (Nat.le_refl _) _
              have S2 := Lib.hid (S1.out.trans (hb.mono LBv1))
              have hz : (v1.alloc (.cells #[] 58)).heap.size ≤ v1.heap.size + 1 ∧ v1.heap.size + 1 ≤ (v1.alloc (.cells #[] 58)).heap.size := by rw [size_al]; omega
              have E1_2 := Lib.hid (Ob.made v1 58 #[])
              have T2 : Hid (Tg (v1.alloc (.cells #[] 58)) (fun b => wr.heap.size + 1 ≤ b ∧ b ≠ v1.heap.size ∧ b ≠ 0) B1 m1 e1 r.tg) := Lib.hid (T1.out.keep (Kept.all hb _) (fun b hb hlt => by obtain ⟨a1, a2, a3⟩ := hb; refine ⟨a1, ?_, ?_⟩ <;> omega))
              refine hK _ _ S2.out ?_
              clear hK K hb
              generalize v1.alloc (.cells #[] 58) = v2 at *
              have LBv2 : wr.heap.size + 1 ≤ v2.heap.size := by omega
              have X1_2 : v1.heap.size < v2.heap.size := by omega
              refine HeadW_ready (rs := [6, 7]) (by kernel_rfl) rfl rfl ?_
              refine AllW.cons rfl (fun K hK => ?_) (AllW.cons rfl (fun K hK => ?_) AllW.nil)
              · obtain ⟨B2, e2, v3, ra, ba, oa, qa⟩ := copy_nods_at E1_2.out (HN.out.keep (Kept.all (HRB.out.trans (S2.out.mono (by omega))) _) (fun _ h _ => h)) HM2.out (by omega)
                refine step_append_run rfl (.tmp 28) (.tmp 30) _ _ rfl (by first | rfl | simp [Act.eval]) (by first | rfl | simp [Act.eval]) ra ?_
                have S3 := Lib.hid (S2.out.trans (ba.mono (by omega)))
                have HSv3 := ba.size
                have LBv3 : wr.heap.size + 1 ≤ v3.heap.size := Nat.le_trans LBv2 ba.size
                have T3 : Hid (Tg v3 (fun b => wr.heap.size + 1 ≤ b ∧ b ≠ v1.heap.size ∧ b ≠ 0) B1 m1 e1 r.tg) := Lib.hid (T2.out.keep (Kept.below_ qa (fun b hb => by obtain ⟨a1, a2, a3⟩ := hb; exact a2)) (fun b hb hlt => by obtain ⟨a1, a2, a3⟩ := hb; refine ⟨a1, ?_, ?_⟩ <;> omega))
                have Tx3 : Hid (Tg v3 (fun b => wr.heap.size + 1 ≤ b ∧ b ≠ 0 ∧ b ≠ 0) B1 m1 e1 r.tg) := Lib.hid (T3.out.keep (Kept.refl _ _) (fun b hb hlt => by obtain ⟨a1, a2, a3⟩ := hb; refine ⟨a1, ?_, ?_⟩ <;> omega))
                have N3 : Hid (Nds v3 (fun b => wr.heap.size + 1 ≤ b ∧ b ≠ 0 ∧ b ≠ 0) B2 m2 e2 r.cond) := Lib.hid (oa.keep (Kept.refl _ _) (fun b hb hlt => by have hb : b = v1.heap.size ∨ b = v2.heap.size := hb; refine ⟨?_, ?_, ?_⟩ <;> omega))
                refine hK _ _ S3.out ?_
                clear hK K ra ba oa qa
                refine HeadW_ready (rs := [7]) (by kernel_rfl) rfl rfl ?_
                refine AllW.cons rfl (fun K hK => ?_) AllW.nil
                go_simp
                have hb : Below v3.heap.size v3 (v3.alloc (.cells #[] 42)) := (Below.refl _ _).alloc (Nat.le_refl _) _
                have S4 := Lib.hid (S3.out.trans (hb.mono LBv3))
                have hz : (v3.alloc (.cells #[] 42)).heap.size ≤ v3.heap.size + 1 ∧ v3.heap.size + 1 ≤ (v3.alloc (.cells #[] 42)).heap.size := by rw [size_al]; omega
                have E2_4 := Lib.hid (Ob.made v3 42 #[])
                have T4 : Hid (Tg (v3.alloc (.cells #[] 42)) (fun b => wr.heap.size + 1 ≤ b ∧ b ≠ 0 ∧ b ≠ v3.heap.size) B1 m1 e1 r.tg) := Lib.hid (Tx3.out.keep (Kept.all hb _) (fun b hb hlt => by obtain ⟨a1, a2, a3⟩ := hb; refine ⟨a1, ?_, ?_⟩ <;> omega))
                have N4 : Hid (Nds (v3.alloc (.cells #[] 42)) (fun b => wr.heap.size + 1 ≤ b ∧ b ≠ 0 ∧ b ≠ v3.heap.size) B2 m2 e2 r.cond) := Lib.hid (N3.out.keep (Kept.all hb _) (fun b hb hlt => by obtain ⟨a1, a2, a3⟩ := hb; refine ⟨a1, ?_, ?_⟩ <;> omega))
                refine hK _ _ S4.out ?_
                clear hK K hb
                generalize v3.alloc (.cells #[] 42) = v4 at *
                have LBv4 : wr.heap.size + 1 ≤ v4.heap.size := by omega
                have X2_4 : v3.heap.size < v4.heap.size := by omega
                refine HeadW_ready (rs := [10]) (by kernel_rfl) rfl rfl ?_
                refine AllW.cons rfl (fun K hK => ?_) AllW.nil
                obtain ⟨B3, e3, v5, ra, ba, oa, qa⟩ := copy_duts_at E2_4.out (HD.out.keep (Kept.all (HRB.out.trans (S4.out.mono (by omega))) _) (fun _ h _ => h)) HM3.out (by omega)
                refine step_append_run rfl (.tmp 32) (.tmp 34) _ _ rfl (by first | rfl | simp [Act.eval]) (by first | rfl | simp [Act.eval]) ra ?_
                have S5 := Lib.hid (S4.out.trans (ba.mono (by omega)))
                have HSv5 := ba.size
                have LBv5 : wr.heap.size + 1 ≤ v5.heap.size := Nat.le_trans LBv4 ba.size
                have T5 : Hid (Tg v5 (fun b => wr.heap.size + 1 ≤ b ∧ b ≠ 0 ∧ b ≠ v3.heap.size) B1 m1 e1 r.tg) := Lib.hid (T4.out.keep (Kept.below_ qa (fun b hb => by obtain ⟨a1, a2, a3⟩ := hb; exact a3)) (fun b hb hlt => by obtain ⟨a1, a2, a3⟩ := hb; refine ⟨a1, ?_, ?_⟩ <;> omega))
                have N5 : Hid (Nds v5 (fun b => wr.heap.size + 1 ≤ b ∧ b ≠ 0 ∧ b ≠ v3.heap.size) B2 m2 e2 r.cond) := Lib.hid (N4.out.keep (Kept.below_ qa (fun b hb => by obtain ⟨a1, a2, a3⟩ := hb; exact a3)) (fun b hb hlt => by obtain ⟨a1, a2, a3⟩ := hb; refine ⟨a1, ?_, ?_⟩ <;> omega))
                have Tx5 : Hid (Tg v5 (fun b => wr.heap.size + 1 ≤ b ∧ b ≠ 0 ∧ b ≠ 0) B1 m1 e1 r.tg) := Lib.hid (T5.out.keep (Kept.refl _ _) (fun b hb hlt => by obtain ⟨a1, a2, a3⟩ := hb; refine ⟨a1, ?_, ?_⟩ <;> omega))
                have Nx5 : Hid (Nds v5 (fun b => wr.heap.size + 1 ≤ b ∧ b ≠ 0 ∧ b ≠ 0) B2 m2 e2 r.cond) := Lib.hid (N5.out.keep (Kept.refl _ _) (fun b hb hlt => by obtain ⟨a1, a2, a3⟩ := hb; refine ⟨a1, ?_, ?_⟩ <;> omega))
                have D5 : Hid (Dus v5 (fun b => wr.heap.size + 1 ≤ b ∧ b ≠ 0 ∧ b ≠ 0) B3 m3 e3 r.ob) := Lib.hid (oa.keep (Kept.refl _ _) (fun b hb hlt => by have hb : b = v3.heap.size ∨ b = v4.heap.size := hb; refine ⟨?_, ?_, ?_⟩ <;> omega))
                refine hK _ _ S5.out ?_
                clear hK K ra ba oa qa
                intro _
                refine ⟨by kernel_rfl, ?_⟩
                simp only [List.drop_succ_cons, List.drop_zero]
                have ob := KRO.out _ S5.out
                have f1 := ob.frozen 2
                have f2 := (ob.put 2 (.slice B1 m1 e1)).frozen 3
                have f3 := ((ob.put 2 (.slice B1 m1 e1)).put 3 (.slice B2 m2 e2)).frozen 4
                have f4 := ob.cell 2
                have f5 := (ob.put 2 (.slice B1 m1 e1)).cell 3
                have f6 := ((ob.put 2 (.slice B1 m1 e1)).put 3 (.slice B2 m2 e2)).cell 4
                have HRel := Lib.hid (copy_r6 (HRB.out.trans (S5.out.mono (by omega))) ob (Tx5.out.keep (Kept.refl _ _) (fun b hb _ => hb.1)) (Nx5.out.keep (Kept.refl _ _) (fun b hb _ => hb.1)) (D5.out.keep (Kept.refl _ _) (fun b hb _ => hb.1)))
                clear ob
                go_wp2_with fail
                go_meet
                case rel => exact HRel.out
              · go_simp
                have hb : Below v2.heap.size v2 (v2.alloc (.cells #[] 42)) := (Below.refl _ _).alloc (Nat.le_refl _) _
                have S6 := Lib.hid (S2.out.trans (hb.mono LBv2))
                have hz : (v2.alloc (.cells #[] 42)).heap.size ≤ v2.heap.size + 1 ∧ v2.heap.size + 1 ≤ (v2.alloc (.cells #[] 42)).heap.size := by rw [size_al]; omega
                have E1_6 := Lib.hid (E1_2.out.below hb E1_2.out.lt)
                have E2_6 := Lib.hid (Ob.made v2 42 #[])
                have T6 : Hid (Tg (v2.alloc (.cells #[] 42)) (fun b => wr.heap.size + 1 ≤ b ∧ b ≠ v1.heap.size ∧ b ≠ v2.heap.size) B1 m1 e1 r.tg) := Lib.hid (T2.out.keep (Kept.all hb _) (fun b hb hlt => by obtain ⟨a1, a2, a3⟩ := hb; refine ⟨a1, ?_, ?_⟩ <;> omega))
                refine hK _ _ S6.out ?_
                clear hK K hb
                generalize v2.alloc (.cells #[] 42) = v6 at *
                have LBv6 : wr.heap.size + 1 ≤ v6.heap.size := by omega
                have X1_6 : v1.heap.size < v6.heap.size := by have := X1_2; omega
                have X2_6 : v2.heap.size < v6.heap.size := by omega
                refine HeadW_ready (rs := [6]) (by kernel_rfl) rfl rfl ?_
                refine AllW.cons rfl (fun K hK => ?_) AllW.nil
                obtain ⟨B2, e2, v7, ra, ba, oa, qa⟩ := copy_nods_at E1_6.out (HN.out.keep (Kept.all (HRB.out.trans (S6.out.mono (by omega))) _) (fun _ h _ => h)) HM2.out (by omega)
                refine step_append_run rfl (.tmp 28) (.tmp 30) _ _ rfl (by first | rfl | simp [Act.eval]) (by first | rfl | simp [Act.eval]) ra ?_
                have S7 := Lib.hid (S6.out.trans (ba.mono (by omega)))
                have HSv7 := ba.size
                have LBv7 : wr.heap.size + 1 ≤ v7.heap.size := Nat.le_trans LBv6 ba.size
                have E2_7 := Lib.hid (E2_6.out.keep (qa.2 _ (by show v2.heap.size ≠ v1.heap.size; omega) E2_6.out.lt))
                have T7 : Hid (Tg v7 (fun b => wr.heap.size + 1 ≤ b ∧ b ≠ v1.heap.size ∧ b ≠ v2.heap.size) B1 m1 e1 r.tg) := Lib.hid (T6.out.keep (Kept.below_ qa (fun b hb => by obtain ⟨a1, a2, a3⟩ := hb; exact a2)) (fun b hb hlt => by obtain ⟨a1, a2, a3⟩ := hb; refine ⟨a1, ?_, ?_⟩ <;> omega))
                have Tx7 : Hid (Tg v7 (fun b => wr.heap.size + 1 ≤ b ∧ b ≠ 0 ∧ b ≠ v2.heap.size) B1 m1 e1 r.tg) := Lib.hid (T7.out.keep (Kept.refl _ _) (fun b hb hlt => by obtain ⟨a1, a2, a3⟩ := hb; refine ⟨a1, ?_, ?_⟩ <;> omega))
                have N7 : Hid (Nds v7 (fun b => wr.heap.size + 1 ≤ b ∧ b ≠ 0 ∧ b ≠ v2.heap.size) B2 m2 e2 r.cond) := Lib.hid (oa.keep (Kept.refl _ _) (fun b hb hlt => by have hb : b = v1.heap.size ∨ b = v6.heap.size := hb; refine ⟨?_, ?_, ?_⟩ <;> omega))
                refine hK _ _ S7.out ?_
                clear hK K ra ba oa qa
                have X2_7 : v2.heap.size < v7.heap.size := by have := X2_6; omega
                refine HeadW_ready (rs := [10]) (by kernel_rfl) rfl rfl ?_
                refine AllW.cons rfl (fun K hK => ?_) AllW.nil
                obtain ⟨B3, e3, v8, ra, ba, oa, qa⟩ := copy_duts_at E2_7.out (HD.out.keep (Kept.all (HRB.out.trans (S7.out.mono (by omega))) _) (fun _ h _ => h)) HM3.out (by omega)
                refine step_append_run rfl (.tmp 32) (.tmp 34) _ _ rfl (by first | rfl | simp [Act.eval]) (by first | rfl | simp [Act.eval]) ra ?_
                have S8 := Lib.hid (S7.out.trans (ba.mono (by omega)))
                have HSv8 := ba.size
                have LBv8 : wr.heap.size + 1 ≤ v8.heap.size := Nat.le_trans LBv7 ba.size
                have T8 : Hid (Tg v8 (fun b => wr.heap.size + 1 ≤ b ∧ b ≠ 0 ∧ b ≠ v2.heap.size) B1 m1 e1 r.tg) := Lib.hid (Tx7.out.keep (Kept.below_ qa (fun b hb => by obtain ⟨a1, a2, a3⟩ := hb; exact a3)) (fun b hb hlt => by obtain ⟨a1, a2, a3⟩ := hb; refine ⟨a1, ?_, ?_⟩ <;> omega))
                have N8 : Hid (Nds v8 (fun b => wr.heap.size + 1 ≤ b ∧ b ≠ 0 ∧ b ≠ v2.heap.size) B2 m2 e2 r.cond) := Lib.hid (N7.out.keep (Kept.below_ qa (fun b hb => by obtain ⟨a1, a2, a3⟩ := hb; exact a3)) (fun b hb hlt => by obtain ⟨a1, a2, a3⟩ := hb; refine ⟨a1, ?_, ?_⟩ <;> omega))
                have Tx8 : Hid (Tg v8 (fun b => wr.heap.size + 1 ≤ b ∧ b ≠ 0 ∧ b ≠ 0) B1 m1 e1 r.tg) := Lib.hid (T8.out.keep (Kept.refl _ _) (fun b hb hlt => by obtain ⟨a1, a2, a3⟩ := hb; refine ⟨a1, ?_, ?_⟩ <;> omega))
                have Nx8 : Hid (Nds v8 (fun b => wr.heap.size + 1 ≤ b ∧ b ≠ 0 ∧ b ≠ 0) B2 m2 e2 r.cond) := Lib.hid (N8.out.keep (Kept.refl _ _) (fun b hb hlt => by obtain ⟨a1, a2, a3⟩ := hb; refine ⟨a1, ?_, ?_⟩ <;> omega))
                have D8 : Hid (Dus v8 (fun b => wr.heap.size + 1 ≤ b ∧ b ≠ 0 ∧ b ≠ 0) B3 m3 e3 r.ob) := Lib.hid (oa.keep (Kept.refl _ _) (fun b hb hlt => by have hb : b = v2.heap.size ∨ b = v7.heap.size := hb; refine ⟨?_, ?_, ?_⟩ <;> omega))
                refine hK _ _ S8.out ?_
                clear hK K ra ba oa qa
                intro _
                refine ⟨by kernel_rfl, ?_⟩
                simp only [List.drop_succ_cons, List.drop_zero]
                have ob := KRO.out _ S8.out
                have f1 := ob.frozen 2
                have f2 := (ob.put 2 (.slice B1 m1 e1)).frozen 3
                have f3 := ((ob.put 2 (.slice B1 m1 e1)).put 3 (.slice B2 m2 e2)).frozen 4
                have f4 := ob.cell 2
                have f5 := (ob.put 2 (.slice B1 m1 e1)).cell 3
                have f6 := ((ob.put 2 (.slice B1 m1 e1)).put 3 (.slice B2 m2 e2)).cell 4
                have HRel := Lib.hid (copy_r6 (HRB.out.trans (S8.out.mono (by omega))) ob (Tx8.out.keep (Kept.refl _ _) (fun b hb _ => hb.1)) (Nx8.out.keep (Kept.refl _ _) (fun b hb _ => hb.1)) (D8.out.keep (Kept.refl _ _) (fun b hb _ => hb.1)))
                clear ob
                go_wp2_with fail
                go_meet
                case rel => exact HRel.out
            · go_simp
              have hb : Below v1.heap.size v1 (v1.alloc (.cells #[] 42)) := (Below.refl _ _).alloc (Nat.le_refl _) _
              have S9 := Lib.hid (S1.out.trans (hb.mono LBv1))
              have hz : (v1.alloc (.cells #[] 42)).heap.size ≤ v1.heap.size + 1 ∧ v1.heap.size + 1 ≤ (v1.alloc (.cells #[] 42)).heap.size := by rw [size_al]; omega
              have E2_9 := Lib.hid (Ob.made v1 42 #[])
              have T9 : Hid (Tg (v1.alloc (.cells #[] 42)) (fun b => wr.heap.size + 1 ≤ b ∧ b ≠ 0 ∧ b ≠ v1.heap.size) B1 m1 e1 r.tg) := Lib.hid (T1.out.keep (Kept.all hb _) (fun b hb hlt => by obtain ⟨a1, a2, a3⟩ := hb; refine ⟨a1, ?_, ?_⟩ <;> omega))
              refine hK _ _ S9.out ?_
              clear hK K hb
              generalize v1.alloc (.cells #[] 42) = v9 at *
              have LBv9 : wr.heap.size + 1 ≤ v9.heap.size := by omega
              have X2_9 : v1.heap.size < v9.heap.size := by omega
              refine HeadW_ready (rs := [3]) (by kernel_rfl) rfl rfl ?_
              refine AllW.cons rfl (fun K hK => ?_) AllW.nil
              go_simp
              have hb : Below v9.heap.size v9 (v9.alloc (.cells #[] 58)) := (Below.refl _ _).alloc (Nat.le_refl _) _
              have S10 := Lib.hid (S9.out.trans (hb.mono LBv9))
              have hz : (v9.alloc (.cells #[] 58)).heap.size ≤ v9.heap.size + 1 ∧ v9.heap.size + 1 ≤ (v9.alloc (.cells #[] 58)).heap.size := by rw [size_al]; omega
              have E2_10 := Lib.hid (E2_9.out.below hb E2_9.out.lt)
              have E1_10 := Lib.hid (Ob.made v9 58 #[])
              have T10 : Hid (Tg (v9.alloc (.cells #[] 58)) (fun b => wr.heap.size + 1 ≤ b ∧ b ≠ v9.heap.size ∧ b ≠ v1.heap.size) B1 m1 e1 r.tg) := Lib.hid (T9.out.keep (Kept.all hb _) (fun b hb hlt => by obtain ⟨a1, a2, a3⟩ := hb; refine ⟨a1, ?_, ?_⟩ <;> omega))
              refine hK _ _ S10.out ?_
              clear hK K hb
              generalize v9.alloc (.cells #[] 58) = v10 at *
              have LBv10 : wr.heap.size + 1 ≤ v10.heap.size := by omega
              have X1_10 : v9.heap.size < v10.heap.size := by omega
              have X2_10 : v1.heap.size < v10.heap.size := by have := X2_9; omega
              refine HeadW_ready (rs := [6]) (by kernel_rfl) rfl rfl ?_
              refine AllW.cons rfl (fun K hK => ?_) AllW.nil
              obtain ⟨B2, e2, v11, ra, ba, oa, qa⟩ := copy_nods_at E1_10.out (HN.out.keep (Kept.all (HRB.out.trans (S10.out.mono (by omega))) _) (fun _ h _ => h)) HM2.out (by omega)
              refine step_append_run rfl (.tmp 28) (.tmp 30) _ _ rfl (by first | rfl | simp [Act.eval]) (by first | rfl | simp [Act.eval]) ra ?_
              have S11 := Lib.hid (S10.out.trans (ba.mono (by omega)))
              have HSv11 := ba.size
              have LBv11 : wr.heap.size + 1 ≤ v11.heap.size := Nat.le_trans LBv10 ba.size
              have E2_11 := Lib.hid (E2_10.out.keep (qa.2 _ (by show v1.heap.size ≠ v9.heap.size; omega) E2_10.out.lt))
              have T11 : Hid (Tg v11 (fun b => wr.heap.size + 1 ≤ b ∧ b ≠ v9.heap.size ∧ b ≠ v1.heap.size) B1 m1 e1 r.tg) := Lib.hid (T10.out.keep (Kept.below_ qa (fun b hb => by obtain ⟨a1, a2, a3⟩ := hb; exact a2)) (fun b hb hlt => by obtain ⟨a1, a2, a3⟩ := hb; refine ⟨a1, ?_, ?_⟩ <;> omega))
              have Tx11 : Hid (Tg v11 (fun b => wr.heap.size + 1 ≤ b ∧ b ≠ 0 ∧ b ≠ v1.heap.size) B1 m1 e1 r.tg) := Lib.hid (T11.out.keep (Kept.refl _ _) (fun b hb hlt => by obtain ⟨a1, a2, a3⟩ := hb; refine ⟨a1, ?_, ?_⟩ <;> omega))
              have N11 : Hid (Nds v11 (fun b => wr.heap.size + 1 ≤ b ∧ b ≠ 0 ∧ b ≠ v1.heap.size) B2 m2 e2 r.cond) := Lib.hid (oa.keep (Kept.refl _ _) (fun b hb hlt => by have hb : b = v9.heap.size ∨ b = v10.heap.size := hb; refine ⟨?_, ?_, ?_⟩ <;> omega))
              refine hK _ _ S11.out ?_
              clear hK K ra ba oa qa
              have X2_11 : v1.heap.size < v11.heap.size := by have := X2_10; omega
              refine HeadW_ready (rs := [10]) (by kernel_rfl) rfl rfl ?_
              refine AllW.cons rfl (fun K hK => ?_) AllW.nil
              obtain ⟨B3, e3, v12, ra, ba, oa, qa⟩ := copy_duts_at E2_11.out (HD.out.keep (Kept.all (HRB.out.trans (S11.out.mono (by omega))) _) (fun _ h _ => h)) HM3.out (by omega)
              refine step_append_run rfl (.tmp 32) (.tmp 34) _ _ rfl (by first | rfl | simp [Act.eval]) (by first | rfl | simp [Act.eval]) ra ?_
              have S12 := Lib.hid (S11.out.trans (ba.mono (by omega)))
              have HSv12 := ba.size
              have LBv12 : wr.heap.size + 1 ≤ v12.heap.size := Nat.le_trans LBv11 ba.size
              have T12 : Hid (Tg v12 (fun b => wr.heap.size + 1 ≤ b ∧ b ≠ 0 ∧ b ≠ v1.heap.size) B1 m1 e1 r.tg) := Lib.hid (Tx11.out.keep (Kept.below_ qa (fun b hb => by obtain ⟨a1, a2, a3⟩ := hb; exact a3)) (fun b hb hlt => by obtain ⟨a1, a2, a3⟩ := hb; refine ⟨a1, ?_, ?_⟩ <;> omega))
              have N12 : Hid (Nds v12 (fun b => wr.heap.size + 1 ≤ b ∧ b ≠ 0 ∧ b ≠ v1.heap.size) B2 m2 e2 r.cond) := Lib.hid (N11.out.keep (Kept.below_ qa (fun b hb => by obtain ⟨a1, a2, a3⟩ := hb; exact a3)) (fun b hb hlt => by obtain ⟨a1, a2, a3⟩ := hb; refine ⟨a1, ?_, ?_⟩ <;> omega))
              have Tx12 : Hid (Tg v12 (fun b => wr.heap.size + 1 ≤ b ∧ b ≠ 0 ∧ b ≠ 0) B1 m1 e1 r.tg) := Lib.hid (T12.out.keep (Kept.refl _ _) (fun b hb hlt => by obtain ⟨a1, a2, a3⟩ := hb; refine ⟨a1, ?_, ?_⟩ <;> omega))
              have Nx12 : Hid (Nds v12 (fun b => wr.heap.size + 1 ≤ b ∧ b ≠ 0 ∧ b ≠ 0) B2 m2 e2 r.cond) := Lib.hid (N12.out.keep (Kept.refl _ _) (fun b hb hlt => by obtain ⟨a1, a2, a3⟩ := hb; refine ⟨a1, ?_, ?_⟩ <;> omega))
              have D12 : Hid (Dus v12 (fun b => wr.heap.size + 1 ≤ b ∧ b ≠ 0 ∧ b ≠ 0) B3 m3 e3 r.ob) := Lib.hid (oa.keep (Kept.refl _ _) (fun b hb hlt => by have hb : b = v1.heap.size ∨ b = v11.heap.size := hb; refine ⟨?_, ?_, ?_⟩ <;> omega))
              refine hK _ _ S12.out ?_
              clear hK K ra ba oa qa
              intro _
              refine ⟨by kernel_rfl, ?_⟩
              simp only [List.drop_succ_cons, List.drop_zero]
              have ob := KRO.out _ S12.out
              have f1 := ob.frozen 2
              have f2 := (ob.put 2 (.slice B1 m1 e1)).frozen 3
              have f3 := ((ob.put 2 (.slice B1 m1 e1)).put 3 (.slice B2 m2 e2)).frozen 4
              have f4 := ob.cell 2
              have f5 := (ob.put 2 (.slice B1 m1 e1)).cell 3
              have f6 := ((ob.put 2 (.slice B1 m1 e1)).put 3 (.slice B2 m2 e2)).cell 4
              have HRel := Lib.hid (copy_r6 (HRB.out.trans (S12.out.mono (by omega))) ob (Tx12.out.keep (Kept.refl _ _) (fun b hb _ => hb.1)) (Nx12.out.keep (Kept.refl _ _) (fun b hb _ => hb.1)) (D12.out.keep (Kept.refl _ _) (fun b hb _ => hb.1)))
              clear ob
              go_wp2_with fail
              go_meet
              case rel => exact HRel.out
          · go_simp
            have hb : Below v0.heap.size v0 (v0.alloc (.cells #[] 58)) := (Below.refl _ _).alloc (Nat.le_refl _) _
            have S13 := Lib.hid (S0.out.trans (hb.mono LBv0))
            have hz : (v0.alloc (.cells #[] 58)).heap.size ≤ v0.heap.size + 1 ∧ v0.heap.size + 1 ≤ (v0.alloc (.cells #[] 58)).heap.size := by rw [size_al]; omega
            have E1_13 := Lib.hid (Ob.made v0 58 #[])
            refine hK _ _ S13.out ?_
            clear hK K hb
            generalize v0.alloc (.cells #[] 58) = v13 at *
            have LBv13 : wr.heap.size + 1 ≤ v13.heap.size := by omega
            have X1_13 : v0.heap.size < v13.heap.size := by omega
            refine HeadW_ready (rs := [2, 7]) (by kernel_rfl) rfl rfl ?_
            refine AllW.cons rfl (fun K hK => ?_) (AllW.cons rfl (fun K hK => ?_) AllW.nil)
            · go_simp
              refine (CR.out _ (HRB.out.trans (S13.out.mono (by omega)))).mono ?_
              rintro e v14 ⟨B1, e1, rfl, hb, ht⟩
              have S14 := Lib.hid (S13.out.trans (hb.mono LBv13))
              have LBv14 : wr.heap.size + 1 ≤ v14.heap.size := Nat.le_trans LBv13 hb.size
              have HSv14 := hb.size
              have E1_14 := Lib.hid (E1_13.out.below hb E1_13.out.lt)
              have X1_14 : v0.heap.size < v14.heap.size := by have := X1_13; omega
              have T14 : Hid (Tg v14 (fun b => wr.heap.size + 1 ≤ b ∧ b ≠ v0.heap.size ∧ b ≠ 0) B1 m1 e1 r.tg) := Lib.hid (ht.keep (Kept.refl _ _) (fun b hb hlt => by have hb : v13.heap.size ≤ b := hb; refine ⟨by omega, ?_, ?_⟩ <;> omega))
              refine hK _ _ S14.out ?_
              clear hK K hb ht
              refine HeadW_take (i := 11) (v := ?_) G rfl (by kernel_rfl) (by kernel_rfl) (by kernel_rfl) (fun _ _ _ h => h) (Or.inl ⟨by rfl, ?_⟩) S14.out ?_
              rotate_left
              · intro wz hS
                go_simp
                try with_reducible rfl
              refine HeadW_ready (rs := [6, 7]) (by kernel_rfl) rfl rfl ?_
              refine AllW.cons rfl (fun K hK => ?_) (AllW.cons rfl (fun K hK => ?_) AllW.nil)
              · obtain ⟨B2, e2, v15, ra, ba, oa, qa⟩ := copy_nods_at E1_14.out (HN.out.keep (Kept.all (HRB.out.trans (S14.out.mono (by omega))) _) (fun _ h _ => h)) HM2.out (by omega)
                refine step_append_run rfl (.tmp 28) (.tmp 30) _ _ rfl (by first | rfl | simp [Act.eval]) (by first | rfl | simp [Act.eval]) ra ?_
                have S15 := Lib.hid (S14.out.trans (ba.mono (by omega)))
                have HSv15 := ba.size
                have LBv15 : wr.heap.size + 1 ≤ v15.heap.size := Nat.le_trans LBv14 ba.size
                have T15 : Hid (Tg v15 (fun b => wr.heap.size + 1 ≤ b ∧ b ≠ v0.heap.size ∧ b ≠ 0) B1 m1 e1 r.tg) := Lib.hid (T14.out.keep (Kept.below_ qa (fun b hb => by obtain ⟨a1, a2, a3⟩ := hb; exact a2)) (fun b hb hlt => by obtain ⟨a1, a2, a3⟩ := hb; refine ⟨a1, ?_, ?_⟩ <;> omega))
                have Tx15 : Hid (Tg v15 (fun b => wr.heap.size + 1 ≤ b ∧ b ≠ 0 ∧ b ≠ 0) B1 m1 e1 r.tg) := Lib.hid (T15.out.keep (Kept.refl _ _) (fun b hb hlt => by obtain ⟨a1, a2, a3⟩ := hb; refine ⟨a1, ?_, ?_⟩ <;> omega))
                have N15 : Hid (Nds v15 (fun b => wr.heap.size + 1 ≤ b ∧ b ≠ 0 ∧ b ≠ 0) B2 m2 e2 r.cond) := Lib.hid (oa.keep (Kept.refl _ _) (fun b hb hlt => by have hb : b = v0.heap.size ∨ b = v14.heap.size := hb; refine ⟨?_, ?_, ?_⟩ <;> omega))
                refine hK _ _ S15.out ?_
                clear hK K ra ba oa qa
                refine HeadW_ready (rs := [7]) (by kernel_rfl) rfl rfl ?_
                refine AllW.cons rfl (fun K hK => ?_) AllW.nil
                go_simp
                have hb : Below v15.heap.size v15 (v15.alloc (.cells #[] 42)) := (Below.refl _ _).alloc (Nat.le_refl _) _
                have S16 := Lib.hid (S15.out.trans (hb.mono LBv15))
                have hz : (v15.alloc (.cells #[] 42)).heap.size ≤ v15.heap.size + 1 ∧ v15.heap.size + 1 ≤ (v15.alloc (.cells #[] 42)).heap.size := by rw [size_al]; omega
                have E2_16 := Lib.hid (Ob.made v15 42 #[])
                have T16 : Hid (Tg (v15.alloc (.cells #[] 42)) (fun b => wr.heap.size + 1 ≤ b ∧ b ≠ 0 ∧ b ≠ v15.heap.size) B1 m1 e1 r.tg) := Lib.hid (Tx15.out.keep (Kept.all hb _) (fun b hb hlt => by obtain ⟨a1, a2, a3⟩ := hb; refine ⟨a1, ?_, ?_⟩ <;> omega))
                have N16 : Hid (Nds (v15.alloc (.cells #[] 42)) (fun b => wr.heap.size + 1 ≤ b ∧ b ≠ 0 ∧ b ≠ v15.heap.size) B2 m2 e2 r.cond) := Lib.hid (N15.out.keep (Kept.all hb _) (fun b hb hlt => by obtain ⟨a1, a2, a3⟩ := hb; refine ⟨a1, ?_, ?_⟩ <;> omega))
                refine hK _ _ S16.out ?_
                clear hK K hb
                generalize v15.alloc (.cells #[] 42) = v16 at *
                have LBv16 : wr.heap.size + 1 ≤ v16.heap.size := by omega
                have X2_16 : v15.heap.size < v16.heap.size := by omega
                refine HeadW_ready (rs := [10]) (by kernel_rfl) rfl rfl ?_
                refine AllW.cons rfl (fun K hK => ?_) AllW.nil
                obtain ⟨B3, e3, v17, ra, ba, oa, qa⟩ := copy_duts_at E2_16.out (HD.out.keep (Kept.all (HRB.out.trans (S16.out.mono (by omega))) _) (fun _ h _ => h)) HM3.out (by omega)
                refine step_append_run rfl (.tmp 32) (.tmp 34) _ _ rfl (by first | rfl | simp [Act.eval]) (by first | rfl | simp [Act.eval]) ra ?_
                have S17 := Lib.hid (S16.out.trans (ba.mono (by omega)))
                have HSv17 := ba.size
                have LBv17 : wr.heap.size + 1 ≤ v17.heap.size := Nat.le_trans LBv16 ba.size
                have T17 : Hid (Tg v17 (fun b => wr.heap.size + 1 ≤ b ∧ b ≠ 0 ∧ b ≠ v15.heap.size) B1 m1 e1 r.tg) := Lib.hid (T16.out.keep (Kept.below_ qa (fun b hb => by obtain ⟨a1, a2, a3⟩ := hb; exact a3)) (fun b hb hlt => by obtain ⟨a1, a2, a3⟩ := hb; refine ⟨a1, ?_, ?_⟩ <;> omega))
                have N17 : Hid (Nds v17 (fun b => wr.heap.size + 1 ≤ b ∧ b ≠ 0 ∧ b ≠ v15.heap.size) B2 m2 e2 r.cond) := Lib.hid (N16.out.keep (Kept.below_ qa (fun b hb => by obtain ⟨a1, a2, a3⟩ := hb; exact a3)) (fun b hb hlt => by obtain ⟨a1, a2, a3⟩ := hb; refine ⟨a1, ?_, ?_⟩ <;> omega))
                have Tx17 : Hid (Tg v17 (fun b => wr.heap.size + 1 ≤ b ∧ b ≠ 0 ∧ b ≠ 0) B1 m1 e1 r.tg) := Lib.hid (T17.out.keep (Kept.refl _ _) (fun b hb hlt => by obtain ⟨a1, a2, a3⟩ := hb; refine ⟨a1, ?_, ?_⟩ <;> omega))
                have Nx17 : Hid (Nds v17 (fun b => wr.heap.size + 1 ≤ b ∧ b ≠ 0 ∧ b ≠ 0) B2 m2 e2 r.cond) := Lib.hid (N17.out.keep (Kept.refl _ _) (fun b hb hlt => by obtain ⟨a1, a2, a3⟩ := hb; refine ⟨a1, ?_, ?_⟩ <;> omega))
                have D17 : Hid (Dus v17 (fun b => wr.heap.size + 1 ≤ b ∧ b ≠ 0 ∧ b ≠ 0) B3 m3 e3 r.ob) := Lib.hid (oa.keep (Kept.refl _ _) (fun b hb hlt => by have hb : b = v15.heap.size ∨ b = v16.heap.size := hb; refine ⟨?_, ?_, ?_⟩ <;> omega))
                refine hK _ _ S17.out ?_
                clear hK K ra ba oa qa
                intro _
                refine ⟨by kernel_rfl, ?_⟩
                simp only [List.drop_succ_cons, List.drop_zero]
                have ob := KRO.out _ S17.out
                have f1 := ob.frozen 2
                have f2 := (ob.put 2 (.slice B1 m1 e1)).frozen 3
                have f3 := ((ob.put 2 (.slice B1 m1 e1)).put 3 (.slice B2 m2 e2)).frozen 4
                have f4 := ob.cell 2
                have f5 := (ob.put 2 (.slice B1 m1 e1)).cell 3
                have f6 := ((ob.put 2 (.slice B1 m1 e1)).put 3 (.slice B2 m2 e2)).cell 4
                have HRel := Lib.hid (copy_r6 (HRB.out.trans (S17.out.mono (by omega))) ob (Tx17.out.keep (Kept.refl _ _) (fun b hb _ => hb.1)) (Nx17.out.keep (Kept.refl _ _) (fun b hb _ => hb.1)) (D17.out.keep (Kept.refl _ _) (fun b hb _ => hb.1)))
                clear ob
                go_wp2_with fail
                go_meet
                case rel => exact HRel.out
              · go_simp
                have hb : Below v14.heap.size v14 (v14.alloc (.cells #[] 42)) := (Below.refl _ _).alloc (Nat.le_refl _) _
                have S18 := Lib.hid (S14.out.trans (hb.mono LBv14))
                have hz : (v14.alloc (.cells #[] 42)).heap.size ≤ v14.heap.size + 1 ∧ v14.heap.size + 1 ≤ (v14.alloc (.cells #[] 42)).heap.size := by rw [size_al]; omega
                have E1_18 := Lib.hid (E1_14.out.below hb E1_14.out.lt)
                have E2_18 := Lib.hid (Ob.made v14 42 #[])
                have T18 : Hid (Tg (v14.alloc (.cells #[] 42)) (fun b => wr.heap.size + 1 ≤ b ∧ b ≠ v0.heap.size ∧ b ≠ v14.heap.size) B1 m1 e1 r.tg) := Lib.hid (T14.out.keep (Kept.all hb _) (fun b hb hlt => by obtain ⟨a1, a2, a3⟩ := hb; refine ⟨a1, ?_, ?_⟩ <;> omega))
                refine hK _ _ S18.out ?_
                clear hK K hb
                generalize v14.alloc (.cells #[] 42) = v18 at *
                have LBv18 : wr.heap.size + 1 ≤ v18.heap.size := by omega
                have X1_18 : v0.heap.size < v18.heap.size := by have := X1_14; omega
                have X2_18 : v14.heap.size < v18.heap.size := by omega
                refine HeadW_ready (rs := [6]) (by kernel_rfl) rfl rfl ?_
                refine AllW.cons rfl (fun K hK => ?_) AllW.nil
                obtain ⟨B2, e2, v19, ra, ba, oa, qa⟩ := copy_nods_at E1_18.out (HN.out.keep (Kept.all (HRB.out.trans (S18.out.mono (by omega))) _) (fun _ h _ => h)) HM2.out (by omega)
                refine step_append_run rfl (.tmp 28) (.tmp 30) _ _ rfl (by first | rfl | simp [Act.eval]) (by first | rfl | simp [Act.eval]) ra ?_
                have S19 := Lib.hid (S18.out.trans (ba.mono (by omega)))
                have HSv19 := ba.size
                have LBv19 : wr.heap.size + 1 ≤ v19.heap.size := Nat.le_trans LBv18 ba.size
                have E2_19 := Lib.hid (E2_18.out.keep (qa.2 _ (by show v14.heap.size ≠ v0.heap.size; omega) E2_18.out.lt))
                have T19 : Hid (Tg v19 (fun b => wr.heap.size + 1 ≤ b ∧ b ≠ v0.heap.size ∧ b ≠ v14.heap.size) B1 m1 e1 r.tg) := Lib.hid (T18.out.keep (Kept.below_ qa (fun b hb => by obtain ⟨a1, a2, a3⟩ := hb; exact a2)) (fun b hb hlt => by obtain ⟨a1, a2, a3⟩ := hb; refine ⟨a1, ?_, ?_⟩ <;> omega))
                have Tx19 : Hid (Tg v19 (fun b => wr.heap.size + 1 ≤ b ∧ b ≠ 0 ∧ b ≠ v14.heap.size) B1 m1 e1 r.tg) := Lib.hid (T19.out.keep (Kept.refl _ _) (fun b hb hlt => by obtain ⟨a1, a2, a3⟩ := hb; refine ⟨a1, ?_, ?_⟩ <;> omega))
                have N19 : Hid (Nds v19 (fun b => wr.heap.size + 1 ≤ b ∧ b ≠ 0 ∧ b ≠ v14.heap.size) B2 m2 e2 r.cond) := Lib.hid (oa.keep (Kept.refl _ _) (fun b hb hlt => by have hb : b = v0.heap.size ∨ b = v18.heap.size := hb; refine ⟨?_, ?_, ?_⟩ <;> omega))
                refine hK _ _ S19.out ?_
                clear hK K ra ba oa qa
                have X2_19 : v14.heap.size < v19.heap.size := by have := X2_18; omega
                refine HeadW_ready (rs := [10]) (by kernel_rfl) rfl rfl ?_
                refine AllW.cons rfl (fun K hK => ?_) AllW.nil
                obtain ⟨B3, e3, v20, ra, ba, oa, qa⟩ := copy_duts_at E2_19.out (HD.out.keep (Kept.all (HRB.out.trans (S19.out.mono (by omega))) _) (fun _ h _ => h)) HM3.out (by omega)
                refine step_append_run rfl (.tmp 32) (.tmp 34) _ _ rfl (by first | rfl | simp [Act.eval]) (by first | rfl | simp [Act.eval]) ra ?_
                have S20 := Lib.hid (S19.out.trans (ba.mono (by omega)))
                have HSv20 := ba.size
                have LBv20 : wr.heap.size + 1 ≤ v20.heap.size := Nat.le_trans LBv19 ba.size
                have T20 : Hid (Tg v20 (fun b => wr.heap.size + 1 ≤ b ∧ b ≠ 0 ∧ b ≠ v14.heap.size) B1 m1 e1 r.tg) := Lib.hid (Tx19.out.keep (Kept.below_ qa (fun b hb => by obtain ⟨a1, a2, a3⟩ := hb; exact a3)) (fun b hb hlt => by obtain ⟨a1, a2, a3⟩ := hb; refine ⟨a1, ?_, ?_⟩ <;> omega))
                have N20 : Hid (Nds v20 (fun b => wr.heap.size + 1 ≤ b ∧ b ≠ 0 ∧ b ≠ v14.heap.size) B2 m2 e2 r.cond) := Lib.hid (N19.out.keep (Kept.below_ qa (fun b hb => by obtain ⟨a1, a2, a3⟩ := hb; exact a3)) (fun b hb hlt => by obtain ⟨a1, a2, a3⟩ := hb; refine ⟨a1, ?_, ?_⟩ <;> omega))
                have Tx20 : Hid (Tg v20 (fun b => wr.heap.size + 1 ≤ b ∧ b ≠ 0 ∧ b ≠ 0) B1 m1 e1 r.tg) := Lib.hid (T20.out.keep (Kept.refl _ _) (fun b hb hlt => by obtain ⟨a1, a2, a3⟩ := hb; refine ⟨a1, ?_, ?_⟩ <;> omega))
                have Nx20 : Hid (Nds v20 (fun b => wr.heap.size + 1 ≤ b ∧ b ≠ 0 ∧ b ≠ 0) B2 m2 e2 r.cond) := Lib.hid (N20.out.keep (Kept.refl _ _) (fun b hb hlt => by obtain ⟨a1, a2, a3⟩ := hb; refine ⟨a1, ?_, ?_⟩ <;> omega))
                have D20 : Hid (Dus v20 (fun b => wr.heap.size + 1 ≤ b ∧ b ≠ 0 ∧ b ≠ 0) B3 m3 e3 r.ob) := Lib.hid (oa.keep (Kept.refl _ _) (fun b hb hlt => by have hb : b = v14.heap.size ∨ b = v19.heap.size := hb; refine ⟨?_, ?_, ?_⟩ <;> omega))
                refine hK _ _ S20.out ?_
                clear hK K ra ba oa qa
                intro _
                refine ⟨by kernel_rfl, ?_⟩
                simp only [List.drop_succ_cons, List.drop_zero]
                have ob := KRO.out _ S20.out
                have f1 := ob.frozen 2
                have f2 := (ob.put 2 (.slice B1 m1 e1)).frozen 3
                have f3 := ((ob.put 2 (.slice B1 m1 e1)).put 3 (.slice B2 m2 e2)).frozen 4
                have f4 := ob.cell 2
                have f5 := (ob.put 2 (.slice B1 m1 e1)).cell 3
                have f6 := ((ob.put 2 (.slice B1 m1 e1)).put 3 (.slice B2 m2 e2)).cell 4
                have HRel := Lib.hid (copy_r6 (HRB.out.trans (S20.out.mono (by omega))) ob (Tx20.out.keep (Kept.refl _ _) (fun b hb _ => hb.1)) (Nx20.out.keep (Kept.refl _ _) (fun b hb _ => hb.1)) (D20.out.keep (Kept.refl _ _) (fun b hb _ => hb.1)))
                clear ob
                go_wp2_with fail
                go_meet
                case rel => exact HRel.out
            · go_simp
              have hb : Below v13.heap.size v13 (v13.alloc (.cells #[] 42)) := (Below.refl _ _).alloc (Nat.le_refl _) _
              have S21 := Lib.hid (S13.out.trans (hb.mono LBv13))
              have hz : (v13.alloc (.cells #[] 42)).heap.size ≤ v13.heap.size + 1 ∧ v13.heap.size + 1 ≤ (v13.alloc (.cells #[] 42)).heap.size := by rw [size_al]; omega
              have E1_21 := Lib.hid (E1_13.out.below hb E1_13.out.lt)
              have E2_21 := Lib.hid (Ob.made v13 42 #[])
              refine hK _ _ S21.out ?_
              clear hK K hb
              generalize v13.alloc (.cells #[] 42) = v21 at *
              have LBv21 : wr.heap.size + 1 ≤ v21.heap.size := by omega
              have X1_21 : v0.heap.size < v21.heap.size := by have := X1_13; omega
              have X2_21 : v13.heap.size < v21.heap.size := by omega
              refine HeadW_ready (rs := [2]) (by kernel_rfl) rfl rfl ?_
              refine AllW.cons rfl (fun K hK => ?_) AllW.nil
              go_simp
              refine (CR.out _ (HRB.out.trans (S21.out.mono (by omega)))).mono ?_
              rintro e v22 ⟨B1, e1, rfl, hb, ht⟩
              have S22 := Lib.hid (S21.out.trans (hb.mono LBv21))
              have LBv22 : wr.heap.size + 1 ≤ v22.heap.size := Nat.le_trans LBv21 hb.size
              have HSv22 := hb.size
              have E1_22 := Lib.hid (E1_21.out.below hb E1_21.out.lt)
              have E2_22 := Lib.hid (E2_21.out.below hb E2_21.out.lt)
              have X1_22 : v0.heap.size < v22.heap.size := by have := X1_21; omega
              have X2_22 : v13.heap.size < v22.heap.size := by have := X2_21; omega
              have T22 : Hid (Tg v22 (fun b => wr.heap.size + 1 ≤ b ∧ b ≠ v0.heap.size ∧ b ≠ v13.heap.size) B1 m1 e1 r.tg) := Lib.hid (ht.keep (Kept.refl _ _) (fun b hb hlt => by have hb : v21.heap.size ≤ b := hb; refine ⟨by omega, ?_, ?_⟩ <;> omega))
              refine hK _ _ S22.out ?_
              clear hK K hb ht
              refine HeadW_take (i := 11) (v := ?_) G rfl (by kernel_rfl) (by kernel_rfl) (by kernel_rfl) (fun _ _ _ h => h) (Or.inl ⟨by rfl, ?_⟩) S22.out ?_
              rotate_left
              · intro wz hS
                go_simp
                try with_reducible rfl
              refine HeadW_ready (rs := [6]) (by kernel_rfl) rfl rfl ?_
              refine AllW.cons rfl (fun K hK => ?_) AllW.nil
              obtain ⟨B2, e2, v23, ra, ba, oa, qa⟩ := copy_nods_at E1_22.out (HN.out.keep (Kept.all (HRB.out.trans (S22.out.mono (by omega))) _) (fun _ h _ => h)) HM2.out (by omega)
              refine step_append_run rfl (.tmp 28) (.tmp 30) _ _ rfl (by first | rfl | simp [Act.eval]) (by first | rfl | simp [Act.eval]) ra ?_
              have S23 := Lib.hid (S22.out.trans (ba.mono (by omega)))
              have HSv23 := ba.size
              have LBv23 : wr.heap.size + 1 ≤ v23.heap.size := Nat.le_trans LBv22 ba.size
              have E2_23 := Lib.hid (E2_22.out.keep (qa.2 _ (by show v13.heap.size ≠ v0.heap.size; omega) E2_22.out.lt))
              have T23 : Hid (Tg v23 (fun b => wr.heap.size + 1 ≤ b ∧ b ≠ v0.heap.size ∧ b ≠ v13.heap.size) B1 m1 e1 r.tg) := Lib.hid (T22.out.keep (Kept.below_ qa (fun b hb => by obtain ⟨a1, a2, a3⟩ := hb; exact a2)) (fun b hb hlt => by obtain ⟨a1, a2, a3⟩ := hb; refine ⟨a1, ?_, ?_⟩ <;> omega))
              have Tx23 : Hid (Tg v23 (fun b => wr.heap.size + 1 ≤ b ∧ b ≠ 0 ∧ b ≠ v13.heap.size) B1 m1 e1 r.tg) := Lib.hid (T23.out.keep (Kept.refl _ _) (fun b hb hlt => by obtain ⟨a1, a2, a3⟩ := hb; refine ⟨a1, ?_, ?_⟩ <;> omega))
              have N23 : Hid (Nds v23 (fun b => wr.heap.size + 1 ≤ b ∧ b ≠ 0 ∧ b ≠ v13.heap.size) B2 m2 e2 r.cond) := Lib.hid (oa.keep (Kept.refl _ _) (fun b hb hlt => by have hb : b = v0.heap.size ∨ b = v22.heap.size := hb; refine ⟨?_, ?_, ?_⟩ <;> omega))
              refine hK _ _ S23.out ?_
              clear hK K ra ba oa qa
              have X2_23 : v13.heap.size < v23.heap.size := by have := X2_22; omega
              refine HeadW_ready (rs := [10]) (by kernel_rfl) rfl rfl ?_
              refine AllW.cons rfl (fun K hK => ?_) AllW.nil
              obtain ⟨B3, e3, v24, ra, ba, oa, qa⟩ := copy_duts_at E2_23.out (HD.out.keep (Kept.all (HRB.out.trans (S23.out.mono (by omega))) _) (fun _ h _ => h)) HM3.out (by omega)
              refine step_append_run rfl (.tmp 32) (.tmp 34) _ _ rfl (by first | rfl | simp [Act.eval]) (by first | rfl | simp [Act.eval]) ra ?_
              have S24 := Lib.hid (S23.out.trans (ba.mono (by omega)))
              have HSv24 := ba.size
              have LBv24 : wr.heap.size + 1 ≤ v24.heap.size := Nat.le_trans LBv23 ba.size
              have T24 : Hid (Tg v24 (fun b => wr.heap.size + 1 ≤ b ∧ b ≠ 0 ∧ b ≠ v13.heap.size) B1 m1 e1 r.tg) := Lib.hid (Tx23.out.keep (Kept.below_ qa (fun b hb => by obtain ⟨a1, a2, a3⟩ := hb; exact a3)) (fun b hb hlt => by obtain ⟨a1, a2, a3⟩ := hb; refine ⟨a1, ?_, ?_⟩ <;> omega))
              have N24 : Hid (Nds v24 (fun b => wr.heap.size + 1 ≤ b ∧ b ≠ 0 ∧ b ≠ v13.heap.size) B2 m2 e2 r.cond) := Lib.hid (N23.out.keep (Kept.below_ qa (fun b hb => by obtain ⟨a1, a2, a3⟩ := hb; exact a3)) (fun b hb hlt => by obtain ⟨a1, a2, a3⟩ := hb; refine ⟨a1, ?_, ?_⟩ <;> omega))
              have Tx24 : Hid (Tg v24 (fun b => wr.heap.size + 1 ≤ b ∧ b ≠ 0 ∧ b ≠ 0) B1 m1 e1 r.tg) := Lib.hid (T24.out.keep (Kept.refl _ _) (fun b hb hlt => by obtain ⟨a1, a2, a3⟩ := hb; refine ⟨a1, ?_, ?_⟩ <;> omega))
              have Nx24 : Hid (Nds v24 (fun b => wr.heap.size + 1 ≤ b ∧ b ≠ 0 ∧ b ≠ 0) B2 m2 e2 r.cond) := Lib.hid (N24.out.keep (Kept.refl _ _) (fun b hb hlt => by obtain ⟨a1, a2, a3⟩ := hb; refine ⟨a1, ?_, ?_⟩ <;> omega))
              have D24 : Hid (Dus v24 (fun b => wr.heap.size + 1 ≤ b ∧ b ≠ 0 ∧ b ≠ 0) B3 m3 e3 r.ob) := Lib.hid (oa.keep (Kept.refl _ _) (fun b hb hlt => by have hb : b = v13.heap.size ∨ b = v23.heap.size := hb; refine ⟨?_, ?_, ?_⟩ <;> omega))
              refine hK _ _ S24.out ?_
              clear hK K ra ba oa qa
              intro _
              refine ⟨by kernel_rfl, ?_⟩
              simp only [List.drop_succ_cons, List.drop_zero]
              have ob := KRO.out _ S24.out
              have f1 := ob.frozen 2
              have f2 := (ob.put 2 (.slice B1 m1 e1)).frozen 3
              have f3 := ((ob.put 2 (.slice B1 m1 e1)).put 3 (.slice B2 m2 e2)).frozen 4
              have f4 := ob.cell 2
              have f5 := (ob.put 2 (.slice B1 m1 e1)).cell 3
              have f6 := ((ob.put 2 (.slice B1 m1 e1)).put 3 (.slice B2 m2 e2)).cell 4
              have HRel := Lib.hid (copy_r6 (HRB.out.trans (S24.out.mono (by omega))) ob (Tx24.out.keep (Kept.refl _ _) (fun b hb _ => hb.1)) (Nx24.out.keep (Kept.refl _ _) (fun b hb _ => hb.1)) (D24.out.keep (Kept.refl _ _) (fun b hb _ => hb.1)))
              clear ob
              go_wp2_with fail
              go_meet
              case rel => exact HRel.out
          · go_simp
            have hb : Below v0.heap.size v0 (v0.alloc (.cells #[] 42)) := (Below.refl _ _).alloc (Nat.le_refl _) _
            have S25 := Lib.hid (S0.out.trans (hb.mono LBv0))
            have hz : (v0.alloc (.cells #[] 42)).heap.size ≤ v0.heap.size + 1 ∧ v0.heap.size + 1 ≤ (v0.alloc (.cells #[] 42)).heap.size := by rw [size_al]; omega
            have E2_25 := Lib.hid (Ob.made v0 42 #[])
            refine hK _ _ S25.out ?_
            clear hK K hb
            generalize v0.alloc (.cells #[] 42) = v25 at *
            have LBv25 : wr.heap.size + 1 ≤ v25.heap.size := by omega
            have X2_25 : v0.heap.size < v25.heap.size := by omega
            refine HeadW_ready (rs := [2, 3]) (by kernel_rfl) rfl rfl ?_
            refine AllW.cons rfl (fun K hK => ?_) (AllW.cons rfl (fun K hK => ?_) AllW.nil)
            · go_simp
              refine (CR.out _ (HRB.out.trans (S25.out.mono (by omega)))).mono ?_
              rintro e v26 ⟨B1, e1, rfl, hb, ht⟩
              have S26 := Lib.hid (S25.out.trans (hb.mono LBv25))
              have LBv26 : wr.heap.size + 1 ≤ v26.heap.size := Nat.le_trans LBv25 hb.size
              have HSv26 := hb.size
              have E2_26 := Lib.hid (E2_25.out.below hb E2_25.out.lt)
              have X2_26 : v0.heap.size < v26.heap.size := by have := X2_25; omega
              have T26 : Hid (Tg v26 (fun b => wr.heap.size + 1 ≤ b ∧ b ≠ 0 ∧ b ≠ v0.heap.size) B1 m1 e1 r.tg) := Lib.hid (ht.keep (Kept.refl _ _) (fun b hb hlt => by have hb : v25.heap.size ≤ b := hb; refine ⟨by omega, ?_, ?_⟩ <;> omega))
              refine hK _ _ S26.out ?_
              clear hK K hb ht
              refine HeadW_take (i := 11) (v := ?_) G rfl (by kernel_rfl) (by kernel_rfl) (by kernel_rfl) (fun _ _ _ h => h) (Or.inl ⟨by rfl, ?_⟩) S26.out ?_
              rotate_left
              · intro wz hS
                go_simp
                try with_reducible rfl
              refine HeadW_ready (rs := [3]) (by kernel_rfl) rfl rfl ?_
              refine AllW.cons rfl (fun K hK => ?_) AllW.nil
              go_simp
              have hb : Below v26.heap.size v26 (v26.alloc (.cells #[] 58)) := (Below.refl _ _).alloc (Nat.le_refl _) _
              have S27 := Lib.hid (S26.out.trans (hb.mono LBv26))
              have hz : (v26.alloc (.cells #[] 58)).heap.size ≤ v26.heap.size + 1 ∧ v26.heap.size + 1 ≤ (v26.alloc (.cells #[] 58)).heap.size := by rw [size_al]; omega
              have E2_27 := Lib.hid (E2_26.out.below hb E2_26.out.lt)
              have E1_27 := Lib.hid (Ob.made v26 58 #[])
              have T27 : Hid (Tg (v26.alloc (.cells #[] 58)) (fun b => wr.heap.size + 1 ≤ b ∧ b ≠ v26.heap.size ∧ b ≠ v0.heap.size) B1 m1 e1 r.tg) := Lib.hid (T26.out.keep (Kept.all hb _) (fun b hb hlt => by obtain ⟨a1, a2, a3⟩ := hb; refine ⟨a1, ?_, ?_⟩ <;> omega))
              refine hK _ _ S27.out ?_
              clear hK K hb
              generalize v26.alloc (.cells #[] 58) = v27 at *
              have LBv27 : wr.heap.size + 1 ≤ v27.heap.size := by omega
              have X1_27 : v26.heap.size < v27.heap.size := by omega
              have X2_27 : v0.heap.size < v27.heap.size := by have := X2_26; omega
              refine HeadW_ready (rs := [6]) (by kernel_rfl) rfl rfl ?_
              refine AllW.cons rfl (fun K hK => ?_) AllW.nil
              obtain ⟨B2, e2, v28, ra, ba, oa, qa⟩ := copy_nods_at E1_27.out (HN.out.keep (Kept.all (HRB.out.trans (S27.out.mono (by omega))) _) (fun _ h _ => h)) HM2.out (by omega)
              refine step_append_run rfl (.tmp 28) (.tmp 30) _ _ rfl (by first | rfl | simp [Act.eval]) (by first | rfl | simp [Act.eval]) ra ?_
              have S28 := Lib.hid (S27.out.trans (ba.mono (by omega)))
              have HSv28 := ba.size
              have LBv28 : wr.heap.size + 1 ≤ v28.heap.size := Nat.le_trans LBv27 ba.size
              have E2_28 := Lib.hid (E2_27.out.keep (qa.2 _ (by show v0.heap.size ≠ v26.heap.size; omega) E2_27.out.lt))
              have T28 : Hid (Tg v28 (fun b => wr.heap.size + 1 ≤ b ∧ b ≠ v26.heap.size ∧ b ≠ v0.heap.size) B1 m1 e1 r.tg) := Lib.hid (T27.out.keep (Kept.below_ qa (fun b hb => by obtain ⟨a1, a2, a3⟩ := hb; exact a2)) (fun b hb hlt => by obtain ⟨a1, a2, a3⟩ := hb; refine ⟨a1, ?_, ?_⟩ <;> omega))
              have Tx28 : Hid (Tg v28 (fun b => wr.heap.size + 1 ≤ b ∧ b ≠ 0 ∧ b ≠ v0.heap.size) B1 m1 e1 r.tg) := Lib.hid (T28.out.keep (Kept.refl _ _) (fun b hb hlt => by obtain ⟨a1, a2, a3⟩ := hb; refine ⟨a1, ?_, ?_⟩ <;> omega))
              have N28 : Hid (Nds v28 (fun b => wr.heap.size + 1 ≤ b ∧ b ≠ 0 ∧ b ≠ v0.heap.size) B2 m2 e2 r.cond) := Lib.hid (oa.keep (Kept.refl _ _) (fun b hb hlt => by have hb : b = v26.heap.size ∨ b = v27.heap.size := hb; refine ⟨?_, ?_, ?_⟩ <;> omega))
              refine hK _ _ S28.out ?_
              clear hK K ra ba oa qa
              have X2_28 : v0.heap.size < v28.heap.size := by have := X2_27; omega
              refine HeadW_ready (rs := [10]) (by kernel_rfl) rfl rfl ?_
              refine AllW.cons rfl (fun K hK => ?_) AllW.nil
              obtain ⟨B3, e3, v29, ra, ba, oa, qa⟩ := copy_duts_at E2_28.out (HD.out.keep (Kept.all (HRB.out.trans (S28.out.mono (by omega))) _) (fun _ h _ => h)) HM3.out (by omega)
              refine step_append_run rfl (.tmp 32) (.tmp 34) _ _ rfl (by first | rfl | simp [Act.eval]) (by first | rfl | simp [Act.eval]) ra ?_
              have S29 := Lib.hid (S28.out.trans (ba.mono (by omega)))
              have HSv29 := ba.size
              have LBv29 : wr.heap.size + 1 ≤ v29.heap.size := Nat.le_trans LBv28 ba.size
              have T29 : Hid (Tg v29 (fun b => wr.heap.size + 1 ≤ b ∧ b ≠ 0 ∧ b ≠ v0.heap.size) B1 m1 e1 r.tg) := Lib.hid (Tx28.out.keep (Kept.below_ qa (fun b hb => by obtain ⟨a1, a2, a3⟩ := hb; exact a3)) (fun b hb hlt => by obtain ⟨a1, a2, a3⟩ := hb; refine ⟨a1, ?_, ?_⟩ <;> omega))
              have N29 : Hid (Nds v29 (fun b => wr.heap.size + 1 ≤ b ∧ b ≠ 0 ∧ b ≠ v0.heap.size) B2 m2 e2 r.cond) := Lib.hid (N28.out.keep (Kept.below_ qa (fun b hb => by obtain ⟨a1, a2, a3⟩ := hb; exact a3)) (fun b hb hlt => by obtain ⟨a1, a2, a3⟩ := hb; refine ⟨a1, ?_, ?_⟩ <;> omega))
              have Tx29 : Hid (Tg v29 (fun b => wr.heap.size + 1 ≤ b ∧ b ≠ 0 ∧ b ≠ 0) B1 m1 e1 r.tg) := Lib.hid (T29.out.keep (Kept.refl _ _) (fun b hb hlt => by obtain ⟨a1, a2, a3⟩ := hb; refine ⟨a1, ?_, ?_⟩ <;> omega))
              have Nx29 : Hid (Nds v29 (fun b => wr.heap.size + 1 ≤ b ∧ b ≠ 0 ∧ b ≠ 0) B2 m2 e2 r.cond) := Lib.hid (N29.out.keep (Kept.refl _ _) (fun b hb hlt => by obtain ⟨a1, a2, a3⟩ := hb; refine ⟨a1, ?_, ?_⟩ <;> omega))
              have D29 : Hid (Dus v29 (fun b => wr.heap.size + 1 ≤ b ∧ b ≠ 0 ∧ b ≠ 0) B3 m3 e3 r.ob) := Lib.hid (oa.keep (Kept.refl _ _) (fun b hb hlt => by have hb : b = v0.heap.size ∨ b = v28.heap.size := hb; refine ⟨?_, ?_, ?_⟩ <;> omega))
              refine hK _ _ S29.out ?_
              clear hK K ra ba oa qa
              intro _
              refine ⟨by kernel_rfl, ?_⟩
              simp only [List.drop_succ_cons, List.drop_zero]
              have ob := KRO.out _ S29.out
              have f1 := ob.frozen 2
              have f2 := (ob.put 2 (.slice B1 m1 e1)).frozen 3
              have f3 := ((ob.put 2 (.slice B1 m1 e1)).put 3 (.slice B2 m2 e2)).frozen 4
              have f4 := ob.cell 2
              have f5 := (ob.put 2 (.slice B1 m1 e1)).cell 3
              have f6 := ((ob.put 2 (.slice B1 m1 e1)).put 3 (.slice B2 m2 e2)).cell 4
              have HRel := Lib.hid (copy_r6 (HRB.out.trans (S29.out.mono (by omega))) ob (Tx29.out.keep (Kept.refl _ _) (fun b hb _ => hb.1)) (Nx29.out.keep (Kept.refl _ _) (fun b hb _ => hb.1)) (D29.out.keep (Kept.refl _ _) (fun b hb _ => hb.1)))
              clear ob
              go_wp2_with fail
              go_meet
              case rel => exact HRel.out
            · go_simp
              have hb : Below v25.heap.size v25 (v25.alloc (.cells #[] 58)) := (Below.refl _ _).alloc (Nat.le_refl _) _
              have S30 := Lib.hid (S25.out.trans (hb.mono LBv25))
              have hz : (v25.alloc (.cells #[] 58)).heap.size ≤ v25.heap.size + 1 ∧ v25.heap.size + 1 ≤ (v25.alloc (.cells #[] 58)).heap.size := by rw [size_al]; omega
              have E2_30 := Lib.hid (E2_25.out.below hb E2_25.out.lt)
              have E1_30 := Lib.hid (Ob.made v25 58 #[])
              refine hK _ _ S30.out ?_
              clear hK K hb
              generalize v25.alloc (.cells #[] 58) = v30 at *
              have LBv30 : wr.heap.size + 1 ≤ v30.heap.size := by omega
              have X1_30 : v25.heap.size < v30.heap.size := by omega
              have X2_30 : v0.heap.size < v30.heap.size := by have := X2_25; omega
              refine HeadW_ready (rs := [2]) (by kernel_rfl) rfl rfl ?_
              refine AllW.cons rfl (fun K hK => ?_) AllW.nil
              go_simp
              refine (CR.out _ (HRB.out.trans (S30.out.mono (by omega)))).mono ?_
              rintro e v31 ⟨B1, e1, rfl, hb, ht⟩
              have S31 := Lib.hid (S30.out.trans (hb.mono LBv30))
              have LBv31 : wr.heap.size + 1 ≤ v31.heap.size := Nat.le_trans LBv30 hb.size
              have HSv31 := hb.size
              have E1_31 := Lib.hid (E1_30.out.below hb E1_30.out.lt)
              have E2_31 := Lib.hid (E2_30.out.below hb E2_30.out.lt)
              have X1_31 : v25.heap.size < v31.heap.size := by have := X1_30; omega
              have X2_31 : v0.heap.size < v31.heap.size := by have := X2_30; omega
              have T31 : Hid (Tg v31 (fun b => wr.heap.size + 1 ≤ b ∧ b ≠ v25.heap.size ∧ b ≠ v0.heap.size) B1 m1 e1 r.tg) := Lib.hid (ht.keep (Kept.refl _ _) (fun b hb hlt => by have hb : v30.heap.size ≤ b := hb; refine ⟨by omega, ?_, ?_⟩ <;> omega))
              refine hK _ _ S31.out ?_
              clear hK K hb ht
              refine HeadW_take (i := 11) (v := ?_) G rfl (by kernel_rfl) (by kernel_rfl) (by kernel_rfl) (fun _ _ _ h => h) (Or.inl ⟨by rfl, ?_⟩) S31.out ?_
              rotate_left
              · intro wz hS
                go_simp
                try with_reducible rfl
              refine HeadW_ready (rs := [6]) (by kernel_rfl) rfl rfl ?_
              refine AllW.cons rfl (fun K hK => ?_) AllW.nil
              obtain ⟨B2, e2, v32, ra, ba, oa, qa⟩ := copy_nods_at E1_31.out (HN.out.keep (Kept.all (HRB.out.trans (S31.out.mono (by omega))) _) (fun _ h _ => h)) HM2.out (by omega)
              refine step_append_run rfl (.tmp 28) (.tmp 30) _ _ rfl (by first | rfl | simp [Act.eval]) (by first | rfl | simp [Act.eval]) ra ?_
              have S32 := Lib.hid (S31.out.trans (ba.mono (by omega)))
              have HSv32 := ba.size
              have LBv32 : wr.heap.size + 1 ≤ v32.heap.size := Nat.le_trans LBv31 ba.size
              have E2_32 := Lib.hid (E2_31.out.keep (qa.2 _ (by show v0.heap.size ≠ v25.heap.size; omega) E2_31.out.lt))
              have T32 : Hid (Tg v32 (fun b => wr.heap.size + 1 ≤ b ∧ b ≠ v25.heap.size ∧ b ≠ v0.heap.size) B1 m1 e1 r.tg) := Lib.hid (T31.out.keep (Kept.below_ qa (fun b hb => by obtain ⟨a1, a2, a3⟩ := hb; exact a2)) (fun b hb hlt => by obtain ⟨a1, a2, a3⟩ := hb; refine ⟨a1, ?_, ?_⟩ <;> omega))
              have Tx32 : Hid (Tg v32 (fun b => wr.heap.size + 1 ≤ b ∧ b ≠ 0 ∧ b ≠ v0.heap.size) B1 m1 e1 r.tg) := Lib.hid (T32.out.keep (Kept.refl _ _) (fun b hb hlt => by obtain ⟨a1, a2, a3⟩ := hb; refine ⟨a1, ?_, ?_⟩ <;> omega))
              have N32 : Hid (Nds v32 (fun b => wr.heap.size + 1 ≤ b ∧ b ≠ 0 ∧ b ≠ v0.heap.size) B2 m2 e2 r.cond) := Lib.hid (oa.keep (Kept.refl _ _) (fun b hb hlt => by have hb : b = v25.heap.size ∨ b = v31.heap.size := hb; refine ⟨?_, ?_, ?_⟩ <;> omega))
              refine hK _ _ S32.out ?_
              clear hK K ra ba oa qa
              have X2_32 : v0.heap.size < v32.heap.size := by have := X2_31; omega
              refine HeadW_ready (rs := [10]) (by kernel_rfl) rfl rfl ?_
              refine AllW.cons rfl (fun K hK => ?_) AllW.nil
              obtain ⟨B3, e3, v33, ra, ba, oa, qa⟩ := copy_duts_at E2_32.out (HD.out.keep (Kept.all (HRB.out.trans (S32.out.mono (by omega))) _) (fun _ h _ => h)) HM3.out (by omega)
              refine step_append_run rfl (.tmp 32) (.tmp 34) _ _ rfl (by first | rfl | simp [Act.eval]) (by first | rfl | simp [Act.eval]) ra ?_
              have S33 := Lib.hid (S32.out.trans (ba.mono (by omega)))
              have HSv33 := ba.size
              have LBv33 : wr.heap.size + 1 ≤ v33.heap.size := Nat.le_trans LBv32 ba.size
              have T33 : Hid (Tg v33 (fun b => wr.heap.size + 1 ≤ b ∧ b ≠ 0 ∧ b ≠ v0.heap.size) B1 m1 e1 r.tg) := Lib.hid (Tx32.out.keep (Kept.below_ qa (fun b hb => by obtain ⟨a1, a2, a3⟩ := hb; exact a3)) (fun b hb hlt => by obtain ⟨a1, a2, a3⟩ := hb; refine ⟨a1, ?_, ?_⟩ <;> omega))
              have N33 : Hid (Nds v33 (fun b => wr.heap.size + 1 ≤ b ∧ b ≠ 0 ∧ b ≠ v0.heap.size) B2 m2 e2 r.cond) := Lib.hid (N32.out.keep (Kept.below_ qa (fun b hb => by obtain ⟨a1, a2, a3⟩ := hb; exact a3)) (fun b hb hlt => by obtain ⟨a1, a2, a3⟩ := hb; refine ⟨a1, ?_, ?_⟩ <;> omega))
              have Tx33 : Hid (Tg v33 (fun b => wr.heap.size + 1 ≤ b ∧ b ≠ 0 ∧ b ≠ 0) B1 m1 e1 r.tg) := Lib.hid (T33.out.keep (Kept.refl _ _) (fun b hb hlt => by obtain ⟨a1, a2, a3⟩ := hb; refine ⟨a1, ?_, ?_⟩ <;> omega))
              have Nx33 : Hid (Nds v33 (fun b => wr.heap.size + 1 ≤ b ∧ b ≠ 0 ∧ b ≠ 0) B2 m2 e2 r.cond) := Lib.hid (N33.out.keep (Kept.refl _ _) (fun b hb hlt => by obtain ⟨a1, a2, a3⟩ := hb; refine ⟨a1, ?_, ?_⟩ <;> omega))
              have D33 : Hid (Dus v33 (fun b => wr.heap.size + 1 ≤ b ∧ b ≠ 0 ∧ b ≠ 0) B3 m3 e3 r.ob) := Lib.hid (oa.keep (Kept.refl _ _) (fun b hb hlt => by have hb : b = v0.heap.size ∨ b = v32.heap.size := hb; refine ⟨?_, ?_, ?_⟩ <;> omega))
              refine hK _ _ S33.out ?_
              clear hK K ra ba oa qa
              intro _
              refine ⟨by kernel_rfl, ?_⟩
              simp only [List.drop_succ_cons, List.drop_zero]
              have ob := KRO.out _ S33.out
              have f1 := ob.frozen 2
              have f2 := (ob.put 2 (.slice B1 m1 e1)).frozen 3
              have f3 := ((ob.put 2 (.slice B1 m1 e1)).put 3 (.slice B2 m2 e2)).frozen 4
              have f4 := ob.cell 2
              have f5 := (ob.put 2 (.slice B1 m1 e1)).cell 3
              have f6 := ((ob.put 2 (.slice B1 m1 e1)).put 3 (.slice B2 m2 e2)).cell 4
              have HRel := Lib.hid (copy_r6 (HRB.out.trans (S33.out.mono (by omega))) ob (Tx33.out.keep (Kept.refl _ _) (fun b hb _ => hb.1)) (Nx33.out.keep (Kept.refl _ _) (fun b hb _ => hb.1)) (D33.out.keep (Kept.refl _ _) (fun b hb _ => hb.1)))
              clear ob
              go_wp2_with fail
              go_meet
              case rel => exact HRel.out

        case rest =>
          obtain ⟨B1, e1, B2, e2, B3, e3, hob, hb2, ht2, hn2, hd2⟩ := hcut
          obtain ⟨A8, c8, w8, r8, g8, b8⟩ := push_rule (HG.out.below keeps_rul hb2) HID.out (ht2.keep (Kept.refl _ _) (fun b hb _ => HG.out.apart b (Nat.le_of_succ_le hb))) (hn2.keep (Kept.refl _ _) (fun b hb _ => HG.out.apart b (Nat.le_of_succ_le hb))) (hd2.keep (Kept.refl _ _) (fun b hb _ => HG.out.apart b (Nat.le_of_succ_le hb))) (by have := HC2.out; omega)
          have q0 := hob.cell 0
          have q1 := hob.cell 1
          have q2 := hob.cell 2
          have q3 := hob.cell 3
          have q4 := hob.cell 4
          have R8 := Lib.hid r8
          have G8 := Lib.hid g8
          have B8 := Lib.hid ((HB.out.trans (hb2.mono HB.out.size)).trans b8)
          clear hob hb2 ht2 hn2 hd2 r8 g8 b8
          go_wp2_with (at_builtin; refine wpList_append_run (o := ⟨some 42, _, _, _, _, _⟩) rfl _ _ _ _ rfl rfl rfl R8.out ?_)
          go_roundw
          case rel => exact ⟨k + 1, A8, c8, by omega, by go_num, rfl, B8.out, by rw [List.take_add_one, HX.out]; exact G8.out⟩
          case measure => simp [intOf]; omega
      · obtain rfl : k = n2 := by omega
        obtain ⟨wb, hwb⟩ : ∃ wb, wb = wr := ⟨wr, rfl⟩
        subst hwb
        have hg2 := HG.out
        rw [List.take_of_length_le (Nat.le_of_eq HL2.out)] at hg2
        have HG2 := Lib.hid hg2
        have OB2 := Lib.hid (OBw.out.below HB.out OBw.out.lt)
        have OZ2 := Lib.hid (OZw.out.below HB.out OZw.out.lt)
        have cb5 := OB2.out.cell 5
        have hle3 := Rw.le h3
        have hcap3 := Rw.cap h3
        have hbig3 := Rw.big h3
        have HL3 := Lib.hid (Rw.len h3)
        have HC3 : Hid (n3 ≤ sumC (polC d) p.kids ∧ sumC (polC d) p.kids ≤ 3000) := ⟨kids_len h3, by unfold polC at hs; omega⟩
        unfold maxLen at hcap3
        have H3 := Lib.hid h3
        have HIH := Lib.hid IH
        clear hg2 HG h3 IH
        go_wp2
        go_loopw [6, 47] (fun v i wr => ∃ (k : Nat) (A : Option Addr) (c : Nat), k ≤ n3 ∧ i = .int .i64 k ∧ v = .slice A k c ∧ Below wb.heap.size wb wr ∧ Gr 7 (fun w R => PolAt w R d) wr wb.heap.size 28 A k c (p.kids.take k)) (fun v i _ => n3 - (intOf i).toNat)
        case atStart => exact ⟨0, none, 0, Nat.zero_le _, rfl, rfl, Below.refl _ _, Gr.nil _ _ (Nat.le_refl _)⟩
        case round =>
          obtain ⟨k3', A9, c9, hk3, rfl, rfl, hb, hg⟩ := hrel
          have HB3 := Lib.hid hb
          have HG3 := Lib.hid hg
          have BWR : Hid (Below w.heap.size w wr) := Lib.hid (BWw.out.trans ((HB.out.trans (hb.mono HB.out.size)).mono BWw.out.size))
          clear hb hg
          by_cases hlt3 : k3' < n3
          · obtain ⟨b, o, q, d', A5, m5, c5, A6, m6, c6, A7, m7, c7, A8, m8, c8, rfl, hRb, hbl, hq, rfl, ⟨hqid, hqalg⟩, ⟨g0, g1, g2, g3, g4, g5, g6⟩, ht, hr, hkd, ho⟩ := (H3.out.keep (Kept.all BWR.out _) (fun _ h _ => h)).at_ hlt3
            have hsq := sumC_le (f := polC (d' + 1)) hq
            have hbk : Below wr.heap.size wr (wr.alloc (.cells #[.string q.id, .bool q.set, .int .i64 q.alg, .slice A5 m5 c5, .slice A6 m6 c6, .slice A7 m7 c7, .slice A8 m8 c8] 28)) := (Below.refl _ _).alloc (Nat.le_refl _) _
            have hpq : polC (d' + 1) q ≤ 3000 := by have := HC3.out; omega
            have hm6 : m6 ≤ 3000 := by have := Rw.len hr; unfold polC at hpq; omega
            have hm7 : m7 ≤ 3000 := by have := kids_len hkd; unfold polC at hpq; omega
            have HCall := Lib.hid (HIH.out d' rfl (w := wr.alloc (.cells #[.string q.id, .bool q.set, .int .i64 q.alg, .slice A5 m5 c5, .slice A6 m6 c6, .slice A7 m7 c7, .slice A8 m8 c8] 28)) hpq hqid hqalg (ht.keep (Kept.all hbk _) (fun _ h _ => h)) (hr.keep (Kept.all hbk _) (fun _ h _ => h)) (hkd.keep (Kept.all hbk _) (fun _ h _ => h)) (ho.keep (Kept.all hbk _) (fun _ h _ => h)))
            have HX3 := Lib.hid hq
            have HQ : Hid (q.id.size ≤ maxLen ∧ InI q.alg ∧ m6 ≤ 3000 ∧ m7 ≤ 3000) := ⟨hqid, hqalg, hm6, hm7⟩
            have HBK := Lib.hid hbk
            have HLT : k3' < 1000000 := by have := HC3.out; omega
            clear hsq hpq hqid ht hr hkd ho hq hbk hm6 hm7
            go_wp2_with (first
              | (go_at_call 22; (with_reducible refine HCall.out.mono ?_); rintro e w7 ⟨B1, e1, B2, e2, B3, e3, B4, e4, rfl, hb, hp⟩; have hb7 := HBK.out.trans (hb.mono HBK.out.size); obtain ⟨Ax, cx, w8, r8, g8, b8⟩ := push_pol (HG3.out.below (keeps_pol _) hb7) (PolAt.keep (Kept.refl _ _) (fun b hb _ => HG3.out.apart b (Nat.le_trans HBK.out.size hb)) (hp.at_ HQ.out.1 HQ.out.2.1 HQ.out.2.2.1 HQ.out.2.2.2)) HLT; have R8 := Lib.hid r8; have G8 := Lib.hid g8; have B8 := Lib.hid ((HB3.out.trans (hb7.mono HB3.out.size)).trans b8); clear hb hp hb7 r8 g8 b8)
              | (at_builtin; refine wpList_append_run (o := ⟨some 55, _, _, _, _, _⟩) rfl _ _ _ _ rfl rfl rfl R8.out ?_))
            go_roundw
            case rel => exact ⟨k3' + 1, Ax, cx, by omega, by go_num, rfl, B8.out, by rw [List.take_add_one, HX3.out]; exact G8.out⟩
            case measure => simp [intOf]; omega
          · obtain rfl : k3' = n3 := by omega
            have OB3 := Lib.hid (OB2.out.below HB3.out OB2.out.lt)
            have OZ3 := Lib.hid (OZ2.out.below HB3.out OZ2.out.lt)
            have x0 := OB3.out.cell 0
            have x1 := OB3.out.cell 1
            have x2 := OB3.out.cell 2
            have x3 := OB3.out.cell 3
            have x4 := OB3.out.cell 4
            have x5 := OB3.out.cell 5
            have x6 := OB3.out.cell 6
            have y4 := OB3.out.frozen 4
            have y5 := (OB3.out.put 4 (.slice A k c)).frozen 5
            have o1 : Only w.heap.size wr ((wr.setCell ⟨w.heap.size, 4, none⟩ (.slice A k c)).setCell ⟨w.heap.size, 5, none⟩ (.slice A9 k3' c9)) := (Only.refl.setCell (p := ⟨w.heap.size, 4, none⟩) rfl _).setCell (p := ⟨w.heap.size, 5, none⟩) rfl _
            have z0 := OZ3.out.keep (o1.heap OZ3.out.lt (by omega))
            have zc0 := z0.cell 0
            have zf0 := z0.frozen 0
            have z1 := z0.put 0 (.string p.id)
            have zc1 := z1.cell 1
            have zf1 := z1.frozen 1
            have z2 := z1.put 1 (.bool p.set)
            have zc2 := z2.cell 2
            have zf2 := z2.frozen 2
            have z3 := z2.put 2 (.int .i64 p.alg)
            have zc3 := z3.cell 3
            have zf3 := z3.frozen 3
            have z4 := z3.put 3 (.slice B1p n1 d1p)
            have zc4 := z4.cell 4
            have zf4 := z4.frozen 4
            have z5 := z4.put 4 (.slice A k c)
            have zc5 := z5.cell 5
            have zf5 := z5.frozen 5
            have z6 := z5.put 5 (.slice A9 k3' c9)
            have zc6 := z6.cell 6
            have zf6 := z6.frozen 6
            have z7 := z6.put 6 (.slice B4p n4 d4p)
            have o2 := ((((((((Only.refl (r := w.heap.size + 1) (w := (wr.setCell ⟨w.heap.size, 4, none⟩ (.slice A k c)).setCell ⟨w.heap.size, 5, none⟩ (.slice A9 k3' c9))).setCell (p := ⟨w.heap.size + 1, 0, none⟩) rfl (.string p.id)).setCell (p := ⟨w.heap.size + 1, 1, none⟩) rfl (.bool p.set)).setCell (p := ⟨w.heap.size + 1, 2, none⟩) rfl (.int .i64 p.alg)).setCell (p := ⟨w.heap.size + 1, 3, none⟩) rfl (.slice B1p n1 d1p)).setCell (p := ⟨w.heap.size + 1, 4, none⟩) rfl (.slice A k c)).setCell (p := ⟨w.heap.size + 1, 5, none⟩) rfl (.slice A9 k3' c9)).setCell (p := ⟨w.heap.size + 1, 6, none⟩) rfl (.slice B4p n4 d4p))
            have HE := Lib.hid (copy_end BWw.out HB.out HB3.out (by have := OZw.out.lt; omega) o1 o2 TPw.out DPw.out HG2.out (by have := HG3.out; rwa [List.take_of_length_le (Nat.le_of_eq HL3.out)] at this))
            have HZ : Hid (Ob (((((((((wr.setCell ⟨w.heap.size, 4, none⟩ (.slice A k c)).setCell ⟨w.heap.size, 5, none⟩ (.slice A9 k3' c9)).setCell ⟨w.heap.size + 1, 0, none⟩ (.string p.id)).setCell ⟨w.heap.size + 1, 1, none⟩ (.bool p.set)).setCell ⟨w.heap.size + 1, 2, none⟩ (.int .i64 p.alg)).setCell ⟨w.heap.size + 1, 3, none⟩ (.slice B1p n1 d1p)).setCell ⟨w.heap.size + 1, 4, none⟩ (.slice A k c)).setCell ⟨w.heap.size + 1, 5, none⟩ (.slice A9 k3' c9)).setCell ⟨w.heap.size + 1, 6, none⟩ (.slice B4p n4 d4p)) (w.heap.size + 1) 28 #[.string p.id, .bool p.set, .int .i64 p.alg, .slice B1p n1 d1p, .slice A k c, .slice A9 k3' c9, .slice B4p n4 d4p]) := by
              show Ob _ _ _ _
              simpa using z7
            clear o1 o2 z0 z1 z2 z3 z4 z5 z6 z7
            go_wp2
            refine bodyPost_ret (pol_ret rfl rfl HZ.out) rfl ?_
            exact ⟨B1p, d1p, A, c, A9, c9, B4p, d4p, rfl, HE.out⟩
theorem cok_all : ∀ d, CpOk d
  | 0 => copy_step 0 fun d' h => by omega
  | d + 1 => copy_step (d + 1) fun d' h => by
    obtain rfl : d' = d := by omega
    exact cok_all d'
end Go.Proofs.YtmoglaknmlhpgaaGreat
/- What the laws of stage 14 call: Small, Copy, Right, eval.Policy, in any later world. -/
namespace Go.Proofs.YtmoglaknmlhpgaaGreat
set_option linter.unusedVariables false
open Go.RowKit

section
variable {w : World} {R : Nat → Prop} {p : Pol} {A1 A2 A3 A4 : Option Addr} {n1 k1 n2 k2 n3 k3 n4 k4 : Nat}
theorem evsmall (h : PolIn w R p A1 n1 k1 A2 n2 k2 A3 n3 k3 A4 n4 k4) : ∃ m, Pls w R m A3 n3 k3 p.kids ∧ ∀ V, Below w.heap.size w V →
    Calls Tryz.prog 14 #[.agg #[.string p.id, .bool p.set, .int .i64 p.alg, .slice A1 n1 k1, .slice A2 n2 k2, .slice A3 n3 k3, .slice A4 n4 k4]] V fun e w' => e = .returned (.bool (decide (polC (m + 1) p ≤ 3000))) ∧ Below V.heap.size V w' := by
  obtain ⟨h0, h1, h2, ⟨m, h3⟩, h4⟩ := h
  refine ⟨m, h3, fun V hV => ?_⟩
  have hk := Kept.all hV R
  exact small_pol h0.1 (h1.keep hk (fun _ h _ => h)) (h2.keep hk (fun _ h _ => h)) (h3.keep hk (fun _ h _ => h)) (h4.keep hk (fun _ h _ => h))
theorem evright (h : PolIn w R p A1 n1 k1 A2 n2 k2 A3 n3 k3 A4 n4 k4) {r : Int} (hr : rightE p = r) (V : World) (hV : Below w.heap.size w V) :
    Calls Tryz.prog 16 #[.agg #[.string p.id, .bool p.set, .int .i64 p.alg, .slice A1 n1 k1, .slice A2 n2 k2, .slice A3 n3 k3, .slice A4 n4 k4]] V fun e w' => e = .returned (.int .i64 r) ∧ Below V.heap.size V w' := by
  have := right_pol (h.then_ hV)
  rwa [hr] at this
theorem evcopy {m : Nat} (h : PolIn w R p A1 n1 k1 A2 n2 k2 A3 n3 k3 A4 n4 k4) (hs : polC (m + 1) p ≤ 3000) (h3 : Pls w R m A3 n3 k3 p.kids) (V : World) (hV : Below w.heap.size w V) :
    Calls Tryz.prog 22 #[.agg #[.string p.id, .bool p.set, .int .i64 p.alg, .slice A1 n1 k1, .slice A2 n2 k2, .slice A3 n3 k3, .slice A4 n4 k4]] V
      fun e w' => ∃ B1 d1 B2 d2 B3 d3 B4 d4, e = .returned (.agg #[.string p.id, .bool p.set, .int .i64 p.alg, .slice B1 n1 d1, .slice B2 n2 d2, .slice B3 n3 d3, .slice B4 n4 d4]) ∧ Below V.heap.size V w' ∧ PolIn w' (fun b => V.heap.size ≤ b) p B1 n1 d1 B2 n2 d2 B3 n3 d3 B4 n4 d4 := by
  have hk := Kept.all hV R
  obtain ⟨h0, h1, h2, _, h4⟩ := h
  have hn2 : n2 ≤ 3000 := by have := Rw.len h2; have e : p.rules.length ≤ polC (m + 1) p := (by rw [polC]; omega); omega
  have hn3 : n3 ≤ 3000 := by have := kids_len h3; have e : sumC (polC m) p.kids ≤ polC (m + 1) p := (by rw [polC]; omega); omega
  refine (cok_all m hs h0.1 h0.2 (h1.keep hk (fun _ h _ => h)) (h2.keep hk (fun _ h _ => h)) (h3.keep hk (fun _ h _ => h)) (h4.keep hk (fun _ h _ => h))).mono ?_
  rintro e w' ⟨B1, d1, B2, d2, B3, d3, B4, d4, rfl, hb, hc⟩
  exact ⟨B1, d1, B2, d2, B3, d3, B4, d4, rfl, hb, PolAt.in_ (hc.at_ h0.1 h0.2 hn2 hn3)⟩
theorem evdec {R2 : Nat → Prop} {A : Option Addr} {n c : Nat} {ask : List Giv} {vp vd : Fin 5} {vob : List Dut} (h : PolIn w R p A1 n1 k1 A2 n2 k2 A3 n3 k3 A4 n4 k4) (hr : rightE p = 0) (hA : Gvs w R2 A n c ask) (hG : ShortG ask) (hv : evV ask p = ⟨(vp, vd), vob⟩) (V : World) (hV : Below w.heap.size w V) :
    Calls Tryz.prog 11 #[.agg #[.string p.id, .bool p.set, .int .i64 p.alg, .slice A1 n1 k1, .slice A2 n2 k2, .slice A3 n3 k3, .slice A4 n4 k4], .slice A n c] V
      fun e w' => ∃ A' n' c', e = .returned (.tuple #[.agg #[.complex .f64 (fl vp) (fl vd), .slice A' n' c'], .int .i64 0]) ∧ Below V.heap.size V w' ∧ Dus w' (fun b => V.heap.size ≤ b) A' n' c' vob :=
  evpol_is hv hr (h.then_ hV) (hA.keep (Kept.all hV R2) (fun _ h _ => h)) hG
theorem evfew {R2 : Nat → Prop} {A : Option Addr} {n c : Nat} {ask : List Giv} (hA : Gvs w R2 A n c ask) {b : Bool} (hb : decide (fewC ask ≤ 1200) = b) (V : World) (hV : Below w.heap.size w V) :
    Calls Tryz.prog 15 #[.slice A n c] V fun e w' => e = .returned (.bool b) ∧ Below V.heap.size V w' := by
  have := few_any (hA.keep (Kept.all hV R2) (fun _ h _ => h))
  rwa [hb] at this
end
end Go.Proofs.YtmoglaknmlhpgaaGreat
/- With first, rules behind the one that applies don't matter; with the two that override, order doesn't (plain). -/
namespace Go.Proofs.YtmoglaknmlhpgaaGreat
set_option linter.unusedVariables false

def RuleOk (r : Rul) : Prop := Named (bl r.id) ∧ tgE r.tg = 0 ∧ exprE r.cond = 0 ∧ obE r.ob = 0
theorem orE_zero {a b : Int} : orE a b = 0 ↔ a = 0 ∧ b = 0 := by unfold orE; split <;> omega
theorem ruleS_ok {r : Rul} {s : Seen} (hn : s.n + 1 ≤ 64) : (ruleS r s).1 = 0 ↔ RuleOk r ∧ metB r.id s.ids = false := by
  unfold ruleS idS RuleOk
  by_cases h : Named (bl r.id) ∧ metB r.id s.ids = false
  · rw [if_pos h]
    simp only
    rw [if_neg (by omega)]
    simp only [orE_zero]
    exact ⟨fun ⟨a, b, c⟩ => ⟨⟨h.1, a, b, c⟩, h.2⟩, fun ⟨⟨_, a, b, c⟩, _⟩ => ⟨a, b, c⟩⟩
  · rw [if_neg h]
    simp only
    exact ⟨fun e => by simp at e, fun ⟨⟨a, _⟩, b⟩ => absurd ⟨a, b⟩ h⟩
theorem ruleS_two {r : Rul} {s : Seen} (h : (ruleS r s).1 = 0) : (ruleS r s).2 = ⟨s.ids ++ [r.id], s.n + 1⟩ := by
  unfold ruleS idS at h ⊢
  by_cases hc : Named (bl r.id) ∧ metB r.id s.ids = false
  · rw [if_pos hc] at h ⊢
    simp only at h ⊢
    split
    · rfl
    · rfl
  · rw [if_neg hc] at h
    simp at h
theorem metB_one (x y : ByteArray) (l : List ByteArray) : metB x (l ++ [y]) = false ↔ metB x l = false ∧ y ≠ x := by
  rw [metB_app]
  simp [metB]
theorem rules_iff : ∀ {l : List Rul} {s : Seen}, s.n + l.length ≤ 64 → ((firstS ruleS l s).1 = 0 ↔ (∀ r ∈ l, RuleOk r ∧ metB r.id s.ids = false) ∧ (l.map Rul.id).Nodup)
  | [], s, _ => by simp [firstS]
  | r :: l, s, hn => by
    simp only [List.length_cons] at hn
    unfold firstS
    by_cases h0 : (ruleS r s).1 = 0
    · rw [if_neg (by simpa using h0), ruleS_two h0, rules_iff (by show s.n + 1 + l.length ≤ 64; omega)]
      obtain ⟨h1, h2⟩ := (ruleS_ok (by omega)).1 h0
      simp only [List.mem_cons, forall_eq_or_imp, List.map_cons, List.nodup_cons, List.mem_map, not_exists, not_and, metB_one]
      constructor
      · rintro ⟨a, b⟩
        exact ⟨⟨⟨h1, h2⟩, fun x hx => ⟨(a x hx).1, (a x hx).2.1⟩⟩, fun x hx e => (a x hx).2.2 e.symm, b⟩
      · rintro ⟨⟨_, a⟩, c, b⟩
        exact ⟨fun x hx => ⟨(a x hx).1, (a x hx).2, fun e => c x hx e.symm⟩, b⟩
    · rw [if_pos h0]
      constructor
      · intro e; exact absurd e h0
      · rintro ⟨a, _⟩
        exact absurd ((ruleS_ok (by omega)).2 (a r (by simp))) h0
def withR (p : Pol) (alg : Int) (l : List Rul) : Pol := .mk p.id p.set alg p.tg l p.kids p.ob
theorem flat_kids {p : Pol} (h : rightE p = 0) (hs : p.set = false) : p.kids = [] ∧ p.alg ≠ 4 ∧ 1 ≤ p.alg ∧ p.alg ≤ 6 := by
  have h2 := (right_parts h).2.1
  unfold fitsB at h2
  rw [hs] at h2
  simp at h2
  exact ⟨h2.2.1, h2.2.2, h2.1.1, h2.1.2⟩
theorem right_with {p : Pol} (h : rightE p = 0) (hs : p.set = false) {a : Int} (ha : 1 ≤ a ∧ a ≤ 6 ∧ a ≠ 4) {l : List Rul} (hm : ∀ r ∈ l, r ∈ p.rules) (hl : l.length ≤ p.rules.length) (hd : (p.rules.map Rul.id).Nodup → (l.map Rul.id).Nodup) : rightE (withR p a l) = 0 := by
  obtain ⟨hk, _⟩ := flat_kids h hs
  obtain ⟨h1, h2, h3, h4, s2, s3, h5, h6⟩ := right_parts h
  have h5' : (firstS ruleS p.rules ⟨[p.id], 0⟩).1 = 0 := by rw [h5]
  obtain ⟨r1, r2⟩ := (rules_iff (by show 0 + p.rules.length ≤ 64; omega)).1 h5'
  have e5 : (firstS ruleS l ⟨[p.id], 0⟩).1 = 0 := (rules_iff (by show 0 + l.length ≤ 64; omega)).2 ⟨fun r hr => r1 r (hm r hr), hd r2⟩
  have e6 : firstS ruleS l ⟨[p.id], 0⟩ = (0, (firstS ruleS l ⟨[p.id], 0⟩).2) := by rw [← e5]
  unfold rightE
  rw [polS]
  show (match idS p.id ⟨[], 0⟩ with | none => ((1 : Int), (⟨[], 0⟩ : Seen)) | some s1 => _).1 = 0
  rw [h1]
  simp only
  have e2 : fitsB (withR p a l) = true := by
    unfold fitsB withR
    simp only [Pol.alg, Pol.set, Pol.kids, Pol.rules]
    have hs' : p.set = false := hs
    obtain ⟨i1, i2, i3, i4, i5, i6, i7⟩ := p
    simp only [Pol.set, Pol.kids] at hs' hk
    subst hs' hk
    simp [ha.1, ha.2.1, ha.2.2]
  have e3 : orE (tgE (withR p a l).tg) (obE (withR p a l).ob) = 0 := h3
  have e4 : ¬ (16 < (withR p a l).rules.length ∨ 16 < (withR p a l).kids.length) := by
    show ¬ (16 < l.length ∨ 16 < p.kids.length)
    omega
  have e7 : firstS ruleS (withR p a l).rules ⟨[p.id], 0⟩ = (0, (firstS ruleS l ⟨[p.id], 0⟩).2) := e6
  have e8 : firstS (polS 3) (withR p a l).kids (firstS ruleS l ⟨[p.id], 0⟩).2 = (0, (firstS ruleS l ⟨[p.id], 0⟩).2) := by
    show firstS (polS 3) p.kids _ = _
    rw [hk]
    rfl
  rw [e2, e3, e7, e8]
  simp [e4]
theorem parts_with (ask : List Giv) {p : Pol} (hk : p.kids = []) (a : Int) (l : List Rul) : partsV ask (withR p a l) = l.map (ruleV ask) := by
  show l.map (ruleV ask) ++ p.kids.map (evV ask) = _
  rw [hk]
  simp
theorem dec_with (ask : List Giv) {p : Pol} (hk : p.kids = []) (ht : p.tg = []) (a : Int) (l : List Rul) : evV ask (withR p a l) = ⟨joinV a (l.map (ruleV ask)), alongV a (joinV a (l.map (ruleV ask))) (l.map (ruleV ask)) ++ dutsM p.ob (joinV a (l.map (ruleV ask)))⟩ := by
  rw [decV_eq, parts_with ask hk]
  show polV (metI ask p.tg) a p.ob _ = _
  rw [ht, met_empty]
  rfl
theorem fold_first_na {l : List Mk} (k : List Mk) (h : ∀ m ∈ l, m = (0, 0)) : foldM 2 (l ++ k) = foldM 2 k := by
  induction l with
  | nil => rfl
  | cons m l ih =>
    have hm := h m (by simp)
    subst hm
    rw [List.cons_append, fold_cons, step_0l]
    exact ih (fun x hx => h x (by simp [hx]))
theorem fold_first_at {m : Mk} (hm : m ≠ (0, 0)) (k : List Mk) : foldM 2 (m :: k) = m := by
  rw [fold_cons, step_first]
  unfold firstM
  rw [if_neg hm]
theorem six_rules (ask : List Giv) (l : List Rul) : Six ((l.map (ruleV ask)).map Res.m) := by
  intro m hm
  obtain ⟨r, hr, rfl⟩ := List.mem_map.1 hm
  obtain ⟨x, _, rfl⟩ := List.mem_map.1 hr
  exact ruleT_right _ _ _
theorem join_rules (ask : List Giv) (i : Fin 6) (l : List Rul) : joinV (algN i) (l.map (ruleV ask)) = makeM i ((l.map (ruleV ask)).map Res.m) := by
  unfold joinV
  rw [allK_right i (six_rules ask l)]
theorem dec_first (ask : List Giv) {p : Pol} (hk : p.kids = []) (ht : p.tg = []) {k : Nat} (h1 : ∀ (j : Nat) (r : Rul), p.rules[j]? = some r → j < k → (ruleV ask r).m = (0, 0)) (h2 : ∀ r, p.rules[k]? = some r → (ruleV ask r).m ≠ (0, 0)) :
    evV ask (withR p 3 (p.rules.take (k + 1))) = evV ask (withR p 3 p.rules) := by
  by_cases hlt : k < p.rules.length
  · rw [dec_with ask hk ht, dec_with ask hk ht]
    have hr := h2 p.rules[k] (List.getElem?_eq_getElem hlt)
    have n1 : ∀ x ∈ (p.rules.take k).map (ruleV ask), x.m = (0, 0) := by
      intro x hx
      obtain ⟨r, hr, rfl⟩ := List.mem_map.1 hx
      obtain ⟨j, hj, rfl⟩ := List.getElem_of_mem hr
      rw [List.length_take] at hj
      rw [List.getElem_take]
      exact h1 j _ (List.getElem?_eq_getElem (by omega)) (by omega)
    have e1 : p.rules.take (k + 1) = p.rules.take k ++ [p.rules[k]] := List.take_succ_eq_append_getElem hlt
    have e2 : p.rules = p.rules.take k ++ (p.rules[k] :: p.rules.drop (k + 1)) := by
      conv => lhs; rw [← List.take_append_drop k p.rules, List.drop_eq_getElem_cons hlt]
    have gen : ∀ t : List Rul, joinV 3 ((p.rules.take k ++ (p.rules[k] :: t)).map (ruleV ask)) = (ruleV ask p.rules[k]).m := by
      intro t
      rw [show (3 : Int) = algN 2 from rfl, join_rules]
      rw [List.map_append, List.map_append, List.map_cons, List.map_cons]
      show foldM 2 _ = _
      rw [fold_first_na _ (fun m hm => by obtain ⟨x, hx, rfl⟩ := List.mem_map.1 hm; exact n1 x hx), fold_first_at hr]
    have gen2 : ∀ t : List Rul, alongV 3 (ruleV ask p.rules[k]).m ((p.rules.take k ++ (p.rules[k] :: t)).map (ruleV ask)) = (ruleV ask p.rules[k]).ob := by
      intro t
      rw [List.map_append, along_none _ (fun x hx => by rw [n1 x hx]; exact fun e => hr e.symm), List.map_cons]
      unfold alongV
      rw [if_pos rfl, if_pos rfl]
    have a1 := gen []
    have b1 := gen2 []
    have a2 := gen (p.rules.drop (k + 1))
    have b2 := gen2 (p.rules.drop (k + 1))
    rw [← e1] at a1 b1
    rw [← e2] at a2 b2
    rw [a1, a2, b1, b2]
  · rw [List.take_of_length_le (by omega)]
theorem dec_order (ask : List Giv) {p : Pol} (hk : p.kids = []) (ht : p.tg = []) {a : Fin 6} (ha : a = 0 ∨ a = 1) (n : Nat) :
    (evV ask (withR p (algN a) (p.rules.drop n ++ p.rules.take n))).m = (evV ask (withR p (algN a) p.rules)).m ∧ (evV ask (withR p (algN a) (p.rules.drop n ++ p.rules.take n))).ob.length = (evV ask (withR p (algN a) p.rules)).ob.length := by
  have hj : joinV (algN a) ((p.rules.drop n ++ p.rules.take n).map (ruleV ask)) = joinV (algN a) (p.rules.map (ruleV ask)) := by
    rw [join_rules, join_rules]
    conv => rhs; rw [← List.take_append_drop n p.rules]
    rw [List.map_append, List.map_append, List.map_append, List.map_append]
    unfold makeM
    rw [fold_app, fold_app]
    have hc : ∀ x y, stepM a x y = stepM a y x := by
      intro x y
      rw [step_join (by rcases ha with rfl | rfl <;> decide) (by rcases ha with rfl | rfl <;> decide), step_join (by rcases ha with rfl | rfl <;> decide) (by rcases ha with rfl | rfl <;> decide), join_comm]
    rw [hc]
  rw [dec_with ask hk ht, dec_with ask hk ht, hj]
  refine ⟨rfl, ?_⟩
  have h3 : algN a ≠ 3 := by rcases ha with rfl | rfl <;> decide
  show (alongV _ _ _ ++ _).length = (alongV _ _ _ ++ _).length
  generalize joinV (algN a) (p.rules.map (ruleV ask)) = M
  conv => rhs; rw [← List.take_append_drop n p.rules]
  rw [List.map_append, List.map_append, along_app h3, along_app h3]
  simp only [List.length_append]
  omega
end Go.Proofs.YtmoglaknmlhpgaaGreat
/- Arguments that come in: a slice of bytes as Sl. -/
namespace Go.Proofs.YtmoglaknmlhpgaaGreat
set_option linter.unusedVariables false
open Go.RowKit Go.ChangeShapes Go.WideShapes

theorem cell_lt {w : World} {p : Addr} {v : Value} (h : w.cell? p = some v) : p.block < w.heap.size := by
  rcases Nat.lt_or_ge p.block w.heap.size with hlt | hge
  · exact hlt
  · simp [World.cell?, Array.getElem?_eq_none hge] at h

theorem open_bytes {H : Type} {enc : TypeId × Value → H} {P : Program} {w : World} {base n c : Nat} {spare : Nat → Bool} {held : Bool} {t e : TypeId} {A : Option Addr} {d : DataW H} {p : List MemPlace}
    (ht : P.underlying t = some (.slice e)) (he : P.underlying e = some (.int .u8)) (hc : P.cellsOf e = 1) (h : DataW.Trod enc P w base spare held t (.slice A n c) d p) : ∃ l, Sl w w.heap.size A n c (bv l) := by
  obtain ⟨fuel, hf⟩ := h
  rcases open_ints ht he hc hf with ⟨hcs, _⟩ | ⟨a, len, cap, zs, hcs, _, hl, hm, hz, _, hcell, hwz⟩
  · simp [Value.cells] at hcs
    obtain ⟨rfl, rfl, rfl⟩ := hcs
    exact ⟨[], Sl.nil_ w _⟩
  · simp [Value.cells] at hcs
    obtain ⟨rfl, rfl, rfl⟩ := hcs
    have hzl : n ≤ zs.length := by rw [hz]; split <;> omega
    have hb : ∀ z ∈ zs, ((UInt8.ofNat z.toNat).toNat : Int) = z := by
      intro z hz'
      have := hwz z hz'
      simp only [Lit.wf, Bool.and_eq_true, decide_eq_true_eq] at this
      have h1 : (0 : Int) ≤ z := this.1
      have h2 : z ≤ 255 := this.2
      simp
      omega
    refine ⟨(zs.take n).map fun z => UInt8.ofNat z.toNat, by simp [bv]; omega, hl, hm, ?_⟩
    by_cases h0 : n = 0
    · exact .inl h0
    · right
      obtain ⟨b, o, spot⟩ := a
      have h00 := hcell 0 (by omega)
      have hspot : spot = none := by simpa [Addr.add] using World.cell?_spot h00
      subst hspot
      refine ⟨b, o, rfl, by have := cell_lt h00; simpa [Addr.add] using this, fun j u hj => ?_⟩
      have hjn : j < n := by
        rcases Nat.lt_or_ge j n with hlt | hge
        · exact hlt
        · rw [List.getElem?_eq_none (by simp [bv]; omega)] at hj; cases hj
      have hcj := hcell j (by omega)
      have ha : (⟨b, o, none⟩ : Addr).add j = ⟨b, o + j, none⟩ := by
        by_cases hj0 : j = 0 <;> simp [Addr.add, hj0]
      rw [ha] at hcj
      rw [hcj, ← hj]
      simp only [bv, List.map_map, List.getElem?_map, List.getElem?_take, hjn, if_true]
      rw [List.getElem?_eq_getElem (by omega : j < zs.length)]
      simp only [Option.map_some, Function.comp, List.getD, List.getElem?_eq_getElem (by omega : j < zs.length), Option.getD_some]
      rw [hb _ (List.getElem_mem _)]

theorem own_empty (w : World) (base e : Nat) (hb : base ≤ w.heap.size) : (w.alloc (.cells #[] e)).ownsRow base e 1 (.slice (some ⟨w.heap.size, 0, none⟩) 0 0) 0 [] :=
  ⟨rfl, .inr ⟨w.heap.size, 0, #[], rfl, hb, heap_alloc_new w _, Nat.le_refl _, by simp [maxLen], rfl, rfl⟩⟩

theorem wpList_append_want {P : Program} {w w' : World} {ops : Array Oper} {rest : List Oper} {o : Oper} {a : Act} {Q : Exit → Act → World → Prop} (hgd : Region.wanted o (yielded ops a.tmps) = true) (s x : Operand) (t u : TypeId)
    (ho : o.op = .call { callee := .builtin .append, args := #[s, x], argTypes := #[t, u] }) {sv xv v' : Value} (hs : a.eval s = sv) (hx : a.eval x = xv)
    (hrun : (Builtin.append_ #[t, u] o.type #[sv, xv]).run P w = .ok v' w') (h : wpList P ops Q rest (a.put o.dst v') w') : wpList P ops Q (o :: rest) a w := by
  refine BigFrame.wpList_want hgd fun K hK => ?_
  unfold Oper.wp execOp
  simp only [ho, resolve, invoke, builtin, Sem.run_bind, Sem.run_pure, Result.andThen_ok, List.map_toArray, List.map_cons, List.map_nil, hs, hx, hrun]
  exact hK _ _ h
end Go.Proofs.YtmoglaknmlhpgaaGreat
/- Rows of structs that come in: what any of them asks. -/
namespace Go.Proofs.YtmoglaknmlhpgaaGreat
set_option linter.unusedVariables false
open Go.RowKit Go.ChangeShapes Go.WideShapes

section
variable {H : Type} {enc : TypeId × Value → H} {w : World} {base : Nat} {spare : Nat → Bool} {held : Bool}

def Wt (P : Program) (t : TypeId) (d : DataW H) : Prop := (d.weights P t).all (fun x => decide (x ≤ reachBytes)) = true
theorem wt_all {P : Program} {e : TypeId} : ∀ {l : List (DataW H)}, (DataW.weightsAll P e l).all (fun x => decide (x ≤ reachBytes)) = true → ∀ d ∈ l, Wt P e d
  | [], _, d, hd => by cases hd
  | x :: l, h, d, hd => by
    rw [DataW.weightsAll, List.all_append, Bool.and_eq_true] at h
    rcases List.mem_cons.1 hd with rfl | hd
    · exact h.1
    · exact wt_all h.2 d hd
theorem wt_slice {P : Program} {t e : TypeId} {a b : List (DataW H)} (ht : P.underlying t = some (.slice e)) (h : Wt P t (.slice a b)) : (a.length + b.length) * P.bytesOf e ≤ reachBytes ∧ ∀ d ∈ a, Wt P e d := by
  unfold Wt at h
  rw [DataW.weights] at h
  simp only [ht] at h
  rw [List.all_cons, List.all_append, Bool.and_eq_true, Bool.and_eq_true] at h
  exact ⟨by simpa using h.1, wt_all h.2.1⟩
theorem wt_each {P : Program} : ∀ {ts : List TypeId} {ds : List (DataW H)}, (DataW.weightsEach P ts ds).all (fun x => decide (x ≤ reachBytes)) = true → ∀ (i : Nat) t d, ts[i]? = some t → ds[i]? = some d → Wt P t d
  | [], _, _, _, _, _, ht, _ => by simp at ht
  | _ :: _, [], _, _, _, _, _, hd => by simp at hd
  | t :: ts, d :: ds, h, 0, t', d', ht, hd => by
    rw [DataW.weightsEach, List.all_append, Bool.and_eq_true] at h
    simp at ht hd
    subst ht hd
    exact h.1
  | t :: ts, d :: ds, h, i + 1, t', d', ht, hd => by
    rw [DataW.weightsEach, List.all_append, Bool.and_eq_true] at h
    exact wt_each h.2 i t' d' (by simpa using ht) (by simpa using hd)
theorem wt_struct {P : Program} {t : TypeId} {fs : Array Field} {parts : List (DataW H)} (ht : P.underlying t = some (.struct fs)) (h : Wt P t (.agg parts)) (i : Nat) (f : Field) (d : DataW H) (hf : fs[i]? = some f) (hd : parts[i]? = some d) : Wt P f.type d := by
  unfold Wt at h
  rw [DataW.weights] at h
  simp only [ht] at h
  exact wt_each h i f.type d (by simp [hf]) hd
theorem open_rows {P : Program} {α : Type} [Inhabited α] {e t : TypeId} {k fuel n c : Nat} {A : Option Addr} {x : DataW H × List MemPlace} {Pn : List Value → α → Prop} (ht : P.underlying t = some (.slice e)) (hC : P.cellsOf e = k) (hk : 0 < k)
    (hby : 0 < P.bytesOf e) (hel : ∀ m cs y, m < fuel → cs.length = k → Wt P e y.1 → DataW.trod enc P w base spare held m e cs = some y → ∃ z, Pn cs z) (hwt : Wt P t x.1) (h : DataW.trod enc P w base spare held fuel t [.slice A n c] = some x) : ∃ l, Rw k Pn w (fun _ => True) A n c l := by
  rcases DataW.trod_slice ht h with ⟨hcs, _⟩ | ⟨a, len, cap, elems, rest, m, hfu, hcs, hxe, hb, hl, hm, hlen, hx, _⟩
  · simp at hcs
    obtain ⟨rfl, rfl, rfl⟩ := hcs
    exact ⟨[], Rw.nil_ _ _ _ _⟩
  · simp at hcs
    obtain ⟨rfl, rfl, rfl⟩ := hcs
    subst hxe
    obtain ⟨hw1, hw2⟩ := wt_slice ht hwt
    have hbig : n ≤ 140737488351232 := by
      rw [List.length_map, List.length_map, hlen] at hw1
      have e1 : n * 1 ≤ (n + rest.length) * P.bytesOf e := Nat.mul_le_mul (by omega) hby
      have e2 : reachBytes = 140737488351232 := rfl
      omega
    have hall : ∀ i, i < n → ∃ z : α, ∃ cs : List Value, cs.length = k ∧ (∀ j, j < k → w.cell? ((a.add (i * k)).add j) = cs[j]?) ∧ Pn cs z := fun i hin => by
      have hi := hx i hin
      rw [hC, List.getElem?_eq_getElem (by omega)] at hi
      obtain ⟨cs, hc, hy⟩ := Option.bind_eq_some_iff.1 hi
      obtain ⟨_, hcl, hat⟩ := World.cells?_some hc
      obtain ⟨z, hz⟩ := hel m cs _ (by omega) hcl (hw2 _ (List.mem_map.2 ⟨_, List.getElem_mem (by omega), rfl⟩)) hy
      exact ⟨z, cs, hcl, hat, hz⟩
    obtain ⟨V, hV⟩ := Go.Deep.choose_lt hall
    refine ⟨(List.range n).map V, by simp, hl, ⟨hm, hbig⟩, ?_⟩
    by_cases h0 : n = 0
    · exact .inl h0
    · right
      obtain ⟨b, o, spot⟩ := a
      obtain ⟨cs0, hl0, hat0, _⟩ := hV 0 (by omega)
      have h00 := hat0 0 hk
      rw [List.getElem?_eq_getElem (by omega)] at h00
      have hspot : spot = none := by simpa [Addr.add] using World.cell?_spot h00
      subst hspot
      refine ⟨b, o, rfl, trivial, by have := cell_lt h00; simpa [Addr.add] using this, fun j x hj => ?_⟩
      rw [List.getElem?_map, Option.map_eq_some_iff] at hj
      obtain ⟨i, hi', rfl⟩ := hj
      have hjn : j < n := by have := (List.getElem?_eq_some_iff.1 hi').1; simpa using this
      have hij : i = j := by rw [List.getElem?_range hjn] at hi'; exact (Option.some.inj hi').symm
      subst hij
      obtain ⟨cs, hcl, hat, hz⟩ := hV i hjn
      refine ⟨cs, hcl, fun q v hq => ?_, hz⟩
      have hqk : q < k := by have := (List.getElem?_eq_some_iff.1 hq).1; omega
      have add : ∀ i k : Nat, ((⟨b, o, none⟩ : Addr).add i).add k = ⟨b, o + i + k, none⟩ := by
        intro i k
        by_cases hi0 : i = 0 <;> by_cases hk0 : k = 0 <;> simp [Addr.add, hi0, hk0]
      have := hat q hqk
      rw [add] at this
      rw [this, hq]

theorem len3 {α : Type} {cs : List α} (h : cs.length = 3) : ∃ v0 v1 v2, cs = [v0, v1, v2] := by
  match cs, h with
  | [v0, v1, v2], _ => exact ⟨v0, v1, v2, rfl⟩
theorem len5 {α : Type} {cs : List α} (h : cs.length = 5) : ∃ v0 v1 v2 v3 v4, cs = [v0, v1, v2, v3, v4] := by
  match cs, h with
  | [v0, v1, v2, v3, v4], _ => exact ⟨v0, v1, v2, v3, v4, rfl⟩
theorem len7 {α : Type} {cs : List α} (h : cs.length = 7) : ∃ v0 v1 v2 v3 v4 v5 v6, cs = [v0, v1, v2, v3, v4, v5, v6] := by
  match cs, h with
  | [v0, v1, v2, v3, v4, v5, v6], _ => exact ⟨v0, v1, v2, v3, v4, v5, v6, rfl⟩
theorem fields3 {P : Program} {e : TypeId} {f0 f1 f2 : Field} {fuel : Nat} {cs : List Value} {x : DataW H × List MemPlace} (he : P.underlying e = some (.struct #[f0, f1, f2])) (hwt : Wt P e x.1) (h : DataW.trod enc P w base spare held fuel e cs = some x) :
    ∃ m, fuel = m + 1 ∧ cs.length = P.cellsOf e ∧ ∃ y0 y1 y2, (Wt P f0.type y0.1 ∧ Wt P f1.type y1.1 ∧ Wt P f2.type y2.1) ∧ DataW.trod enc P w base spare held m f0.type ((cs.drop f0.offset).take (P.cellsOf f0.type)) = some y0 ∧ DataW.trod enc P w base spare held m f1.type ((cs.drop f1.offset).take (P.cellsOf f1.type)) = some y1 ∧ DataW.trod enc P w base spare held m f2.type ((cs.drop f2.offset).take (P.cellsOf f2.type)) = some y2 := by
  obtain ⟨ys, n', hn', hy, hlen, hyl, hf⟩ := DataW.trod_struct he h
  subst hy
  have hw := fun i f d => wt_struct he hwt i f d
  have ysn : ys.length = 3 := hyl
  match ys, ysn with
  | [y0, y1, y2], _ => exact ⟨n', hn', hlen, y0, y1, y2, ⟨hw 0 _ _ rfl rfl, hw 1 _ _ rfl rfl, hw 2 _ _ rfl rfl⟩, hf 0 _ rfl, hf 1 _ rfl, hf 2 _ rfl⟩
theorem fields5 {P : Program} {e : TypeId} {f0 f1 f2 f3 f4 : Field} {fuel : Nat} {cs : List Value} {x : DataW H × List MemPlace} (he : P.underlying e = some (.struct #[f0, f1, f2, f3, f4])) (hwt : Wt P e x.1) (h : DataW.trod enc P w base spare held fuel e cs = some x) :
    ∃ m, fuel = m + 1 ∧ cs.length = P.cellsOf e ∧ ∃ y0 y1 y2 y3 y4, (Wt P f0.type y0.1 ∧ Wt P f1.type y1.1 ∧ Wt P f2.type y2.1 ∧ Wt P f3.type y3.1 ∧ Wt P f4.type y4.1) ∧ DataW.trod enc P w base spare held m f0.type ((cs.drop f0.offset).take (P.cellsOf f0.type)) = some y0 ∧ DataW.trod enc P w base spare held m f1.type ((cs.drop f1.offset).take (P.cellsOf f1.type)) = some y1 ∧ DataW.trod enc P w base spare held m f2.type ((cs.drop f2.offset).take (P.cellsOf f2.type)) = some y2 ∧ DataW.trod enc P w base spare held m f3.type ((cs.drop f3.offset).take (P.cellsOf f3.type)) = some y3 ∧ DataW.trod enc P w base spare held m f4.type ((cs.drop f4.offset).take (P.cellsOf f4.type)) = some y4 := by
  obtain ⟨ys, n', hn', hy, hlen, hyl, hf⟩ := DataW.trod_struct he h
  subst hy
  have hw := fun i f d => wt_struct he hwt i f d
  have ysn : ys.length = 5 := hyl
  match ys, ysn with
  | [y0, y1, y2, y3, y4], _ => exact ⟨n', hn', hlen, y0, y1, y2, y3, y4, ⟨hw 0 _ _ rfl rfl, hw 1 _ _ rfl rfl, hw 2 _ _ rfl rfl, hw 3 _ _ rfl rfl, hw 4 _ _ rfl rfl⟩, hf 0 _ rfl, hf 1 _ rfl, hf 2 _ rfl, hf 3 _ rfl, hf 4 _ rfl⟩
theorem fields7 {P : Program} {e : TypeId} {f0 f1 f2 f3 f4 f5 f6 : Field} {fuel : Nat} {cs : List Value} {x : DataW H × List MemPlace} (he : P.underlying e = some (.struct #[f0, f1, f2, f3, f4, f5, f6])) (hwt : Wt P e x.1) (h : DataW.trod enc P w base spare held fuel e cs = some x) :
    ∃ m, fuel = m + 1 ∧ cs.length = P.cellsOf e ∧ ∃ y0 y1 y2 y3 y4 y5 y6, (Wt P f0.type y0.1 ∧ Wt P f1.type y1.1 ∧ Wt P f2.type y2.1 ∧ Wt P f3.type y3.1 ∧ Wt P f4.type y4.1 ∧ Wt P f5.type y5.1 ∧ Wt P f6.type y6.1) ∧ DataW.trod enc P w base spare held m f0.type ((cs.drop f0.offset).take (P.cellsOf f0.type)) = some y0 ∧ DataW.trod enc P w base spare held m f1.type ((cs.drop f1.offset).take (P.cellsOf f1.type)) = some y1 ∧ DataW.trod enc P w base spare held m f2.type ((cs.drop f2.offset).take (P.cellsOf f2.type)) = some y2 ∧ DataW.trod enc P w base spare held m f3.type ((cs.drop f3.offset).take (P.cellsOf f3.type)) = some y3 ∧ DataW.trod enc P w base spare held m f4.type ((cs.drop f4.offset).take (P.cellsOf f4.type)) = some y4 ∧ DataW.trod enc P w base spare held m f5.type ((cs.drop f5.offset).take (P.cellsOf f5.type)) = some y5 ∧ DataW.trod enc P w base spare held m f6.type ((cs.drop f6.offset).take (P.cellsOf f6.type)) = some y6 := by
  obtain ⟨ys, n', hn', hy, hlen, hyl, hf⟩ := DataW.trod_struct he h
  subst hy
  have hw := fun i f d => wt_struct he hwt i f d
  have ysn : ys.length = 7 := hyl
  match ys, ysn with
  | [y0, y1, y2, y3, y4, y5, y6], _ => exact ⟨n', hn', hlen, y0, y1, y2, y3, y4, y5, y6, ⟨hw 0 _ _ rfl rfl, hw 1 _ _ rfl rfl, hw 2 _ _ rfl rfl, hw 3 _ _ rfl rfl, hw 4 _ _ rfl rfl, hw 5 _ _ rfl rfl, hw 6 _ _ rfl rfl⟩, hf 0 _ rfl, hf 1 _ rfl, hf 2 _ rfl, hf 3 _ rfl, hf 4 _ rfl, hf 5 _ rfl, hf 6 _ rfl⟩
theorem slice_cells {P : Program} {t e : TypeId} {m : Nat} {v : Value} {y : DataW H × List MemPlace} (ht : P.underlying t = some (.slice e)) (h : DataW.trod enc P w base spare held m t [v] = some y) : ∃ A n c, v = .slice A n c := by
  rcases DataW.trod_slice ht h with ⟨hcs, _⟩ | ⟨a, len, cap, elems, rest, m, hfu, hcs, _⟩
  · exact ⟨none, 0, 0, by simpa using hcs⟩
  · exact ⟨some a, len, cap, by simpa using hcs⟩
theorem open_struct {P : Program} {t : TypeId} {fs : Array Field} {r : Reach} {b0 : Nat} {v : Value} {d : DataW H} {p : List MemPlace} (hs : P.underlying t = some (.struct fs)) (hv : Value.okWide P w r b0 t v) (h : DataW.Trod enc P w base spare held t v d p) :
    ∃ (cs : List Value) (m : Nat), v = .agg cs.toArray ∧ DataW.trod enc P w base spare held m t cs = some (d, p) := by
  obtain ⟨cs, rfl, hsz⟩ := WideShapes.okWide_struct hs hv
  obtain ⟨m, hm⟩ := h
  exact ⟨cs.toList, m, by simp, hm⟩
end
end Go.Proofs.YtmoglaknmlhpgaaGreat
/- Values and attributes that come in. -/
namespace Go.Proofs.YtmoglaknmlhpgaaGreat
set_option linter.unusedVariables false
open Go.RowKit Go.ChangeShapes Go.WideShapes

instance : Inhabited Atr := ⟨zeroA⟩
section
variable {H : Type} {enc : TypeId × Value → H} {w : World} {base : Nat} {spare : Nat → Bool} {held : Bool}

theorem open_atr_cells {m : Nat} {cs : List Value} {y : DataW H × List MemPlace} (hwt : Wt Tryz.prog 56 y.1) (h : DataW.trod enc Tryz.prog w base spare held m 56 cs = some y) : ∃ a : Atr, cs = a.cells ∧ a.ok := by
  obtain ⟨m', _, hlen, y0, y1, y2, ⟨q0, q1, q2⟩, g0, g1, g2⟩ := fields3 Tryz.underlying56 hwt h
  obtain ⟨v0, v1, v2, rfl⟩ := len3 (hlen.trans (show Tryz.prog.cellsOf 56 = 3 by kernel_rfl))
  have g0 : DataW.trod enc Tryz.prog w base spare held m' 3 (([v0, v1, v2] : List Value).drop 0 |>.take (Tryz.prog.cellsOf 3)) = some y0 := g0
  rw [show Tryz.prog.cellsOf 3 = 1 by kernel_rfl] at g0
  have g1 : DataW.trod enc Tryz.prog w base spare held m' 9 (([v0, v1, v2] : List Value).drop 1 |>.take (Tryz.prog.cellsOf 9)) = some y1 := g1
  rw [show Tryz.prog.cellsOf 9 = 1 by kernel_rfl] at g1
  have g2 : DataW.trod enc Tryz.prog w base spare held m' 4 (([v0, v1, v2] : List Value).drop 2 |>.take (Tryz.prog.cellsOf 4)) = some y2 := g2
  rw [show Tryz.prog.cellsOf 4 = 1 by kernel_rfl] at g2
  obtain ⟨x0, e0, _, w0⟩ := DataW.trod_int Tryz.underlying3 (show DataW.trod enc Tryz.prog w base spare held m' 3 [v0] = some y0 from g0)
  obtain ⟨x1, e1, _, w1⟩ := DataW.trod_string Tryz.underlying9 (show DataW.trod enc Tryz.prog w base spare held m' 9 [v1] = some y1 from g1)
  obtain ⟨x2, e2, _⟩ := DataW.trod_bool Tryz.underlying4 (show DataW.trod enc Tryz.prog w base spare held m' 4 [v2] = some y2 from g2)
  injection e0 with e0
  injection e1 with e1
  injection e2 with e2
  subst e0 e1 e2
  exact ⟨⟨x0, x1, x2⟩, rfl, wf_bounds w0, w1⟩
theorem open_vl_cells {m : Nat} {cs : List Value} {y : DataW H × List MemPlace} (hwt : Wt Tryz.prog 40 y.1) (h : DataW.trod enc Tryz.prog w base spare held m 40 cs = some y) : ∃ a : Vl, cs = a.cells ∧ a.ok := by
  obtain ⟨m', _, hlen, y0, y1, y2, ⟨q0, q1, q2⟩, g0, g1, g2⟩ := fields3 Tryz.underlying40 hwt h
  obtain ⟨v0, v1, v2, rfl⟩ := len3 (hlen.trans (show Tryz.prog.cellsOf 40 = 3 by kernel_rfl))
  have g0 : DataW.trod enc Tryz.prog w base spare held m' 3 (([v0, v1, v2] : List Value).drop 0 |>.take (Tryz.prog.cellsOf 3)) = some y0 := g0
  rw [show Tryz.prog.cellsOf 3 = 1 by kernel_rfl] at g0
  have g1 : DataW.trod enc Tryz.prog w base spare held m' 3 (([v0, v1, v2] : List Value).drop 1 |>.take (Tryz.prog.cellsOf 3)) = some y1 := g1
  rw [show Tryz.prog.cellsOf 3 = 1 by kernel_rfl] at g1
  have g2 : DataW.trod enc Tryz.prog w base spare held m' 9 (([v0, v1, v2] : List Value).drop 2 |>.take (Tryz.prog.cellsOf 9)) = some y2 := g2
  rw [show Tryz.prog.cellsOf 9 = 1 by kernel_rfl] at g2
  obtain ⟨x0, e0, _, w0⟩ := DataW.trod_int Tryz.underlying3 (show DataW.trod enc Tryz.prog w base spare held m' 3 [v0] = some y0 from g0)
  obtain ⟨x1, e1, _, w1⟩ := DataW.trod_int Tryz.underlying3 (show DataW.trod enc Tryz.prog w base spare held m' 3 [v1] = some y1 from g1)
  obtain ⟨x2, e2, _, w2⟩ := DataW.trod_string Tryz.underlying9 (show DataW.trod enc Tryz.prog w base spare held m' 9 [v2] = some y2 from g2)
  injection e0 with e0
  injection e1 with e1
  injection e2 with e2
  subst e0 e1 e2
  exact ⟨⟨x0, x1, x2⟩, rfl, wf_bounds w0, wf_bounds w1, w2⟩
end
end Go.Proofs.YtmoglaknmlhpgaaGreat
/- Policies, and what they are of, that come in. -/
namespace Go.Proofs.YtmoglaknmlhpgaaGreat
set_option linter.unusedVariables false
open Go.RowKit Go.ChangeShapes Go.WideShapes

instance : Inhabited Mat := ⟨⟨zeroA, 0, zeroV⟩⟩
instance : Inhabited Nod := ⟨⟨0, zeroV, zeroA⟩⟩
instance : Inhabited Dut := ⟨⟨0, 0, ByteArray.empty⟩⟩
instance : Inhabited Rul := ⟨⟨ByteArray.empty, false, [], [], []⟩⟩
instance : Inhabited Pol := ⟨.mk ByteArray.empty false 0 [] [] [] []⟩

section
variable {H : Type} {enc : TypeId × Value → H} {w : World} {base : Nat} {spare : Nat → Bool} {held : Bool}

theorem bytes_dut : Tryz.prog.bytesOf 42 = 32 := by kernel_rfl
theorem bytes_nod : Tryz.prog.bytesOf 58 = 72 := by kernel_rfl
theorem bytes_mat : Tryz.prog.bytesOf 64 = 72 := by kernel_rfl
theorem bytes_s1 : Tryz.prog.bytesOf 65 = 24 := by kernel_rfl
theorem bytes_s2 : Tryz.prog.bytesOf 66 = 24 := by kernel_rfl
theorem bytes_rul : Tryz.prog.bytesOf 61 = 96 := by kernel_rfl
theorem bytes_pol : Tryz.prog.bytesOf 28 = 128 := by kernel_rfl
theorem open_dut_cells {m : Nat} {cs : List Value} {y : DataW H × List MemPlace} (hwt : Wt Tryz.prog 42 y.1) (h : DataW.trod enc Tryz.prog w base spare held m 42 cs = some y) : ∃ a : Dut, cs = a.cells ∧ a.ok := by
  obtain ⟨m', _, hlen, y0, y1, y2, ⟨q0, q1, q2⟩, g0, g1, g2⟩ := fields3 Tryz.underlying42 hwt h
  obtain ⟨v0, v1, v2, rfl⟩ := len3 (hlen.trans (show Tryz.prog.cellsOf 42 = 3 by kernel_rfl))
  have g0 : DataW.trod enc Tryz.prog w base spare held m' 3 (([v0, v1, v2] : List Value).drop 0 |>.take (Tryz.prog.cellsOf 3)) = some y0 := g0
  rw [show Tryz.prog.cellsOf 3 = 1 by kernel_rfl] at g0
  have g1 : DataW.trod enc Tryz.prog w base spare held m' 3 (([v0, v1, v2] : List Value).drop 1 |>.take (Tryz.prog.cellsOf 3)) = some y1 := g1
  rw [show Tryz.prog.cellsOf 3 = 1 by kernel_rfl] at g1
  have g2 : DataW.trod enc Tryz.prog w base spare held m' 9 (([v0, v1, v2] : List Value).drop 2 |>.take (Tryz.prog.cellsOf 9)) = some y2 := g2
  rw [show Tryz.prog.cellsOf 9 = 1 by kernel_rfl] at g2
  obtain ⟨x0, e0, _, w0⟩ := DataW.trod_int Tryz.underlying3 (show DataW.trod enc Tryz.prog w base spare held m' 3 [v0] = some y0 from g0)
  obtain ⟨x1, e1, _, w1⟩ := DataW.trod_int Tryz.underlying3 (show DataW.trod enc Tryz.prog w base spare held m' 3 [v1] = some y1 from g1)
  obtain ⟨x2, e2, _, w2⟩ := DataW.trod_string Tryz.underlying9 (show DataW.trod enc Tryz.prog w base spare held m' 9 [v2] = some y2 from g2)
  injection e0 with e0
  injection e1 with e1
  injection e2 with e2
  subst e0 e1 e2
  exact ⟨⟨x0, x1, x2⟩, rfl, wf_bounds w0, wf_bounds w1, w2⟩
theorem open_mat_cells {m : Nat} {cs : List Value} {y : DataW H × List MemPlace} (hwt : Wt Tryz.prog 64 y.1) (h : DataW.trod enc Tryz.prog w base spare held m 64 cs = some y) : ∃ a : Mat, cs = a.cells ∧ a.ok := by
  obtain ⟨m', _, hlen, y0, y1, y2, ⟨q0, q1, q2⟩, g0, g1, g2⟩ := fields3 Tryz.underlying64 hwt h
  obtain ⟨v0, v1, v2, v3, v4, v5, v6, rfl⟩ := len7 (hlen.trans (show Tryz.prog.cellsOf 64 = 7 by kernel_rfl))
  have g0 : DataW.trod enc Tryz.prog w base spare held m' 56 (([v0, v1, v2, v3, v4, v5, v6] : List Value).drop 0 |>.take (Tryz.prog.cellsOf 56)) = some y0 := g0
  rw [show Tryz.prog.cellsOf 56 = 3 by kernel_rfl] at g0
  obtain ⟨x0, e0, w0⟩ := open_atr_cells q0 (show DataW.trod enc Tryz.prog w base spare held m' 56 [v0, v1, v2] = some y0 from g0)
  simp [Atr.cells] at e0
  have g1 : DataW.trod enc Tryz.prog w base spare held m' 3 (([v0, v1, v2, v3, v4, v5, v6] : List Value).drop 3 |>.take (Tryz.prog.cellsOf 3)) = some y1 := g1
  rw [show Tryz.prog.cellsOf 3 = 1 by kernel_rfl] at g1
  obtain ⟨x1, e1, _, w1⟩ := DataW.trod_int Tryz.underlying3 (show DataW.trod enc Tryz.prog w base spare held m' 3 [v3] = some y1 from g1)
  injection e1 with e1
  have g2 : DataW.trod enc Tryz.prog w base spare held m' 40 (([v0, v1, v2, v3, v4, v5, v6] : List Value).drop 4 |>.take (Tryz.prog.cellsOf 40)) = some y2 := g2
  rw [show Tryz.prog.cellsOf 40 = 3 by kernel_rfl] at g2
  obtain ⟨x2, e2, w2⟩ := open_vl_cells q2 (show DataW.trod enc Tryz.prog w base spare held m' 40 [v4, v5, v6] = some y2 from g2)
  simp [Vl.cells] at e2
  obtain ⟨rfl, rfl, rfl⟩ := e0
  subst e1
  obtain ⟨rfl, rfl, rfl⟩ := e2
  exact ⟨⟨x0, x1, x2⟩, rfl, w0, wf_bounds w1, w2⟩
theorem open_nod_cells {m : Nat} {cs : List Value} {y : DataW H × List MemPlace} (hwt : Wt Tryz.prog 58 y.1) (h : DataW.trod enc Tryz.prog w base spare held m 58 cs = some y) : ∃ a : Nod, cs = a.cells ∧ a.ok := by
  obtain ⟨m', _, hlen, y0, y1, y2, ⟨q0, q1, q2⟩, g0, g1, g2⟩ := fields3 Tryz.underlying58 hwt h
  obtain ⟨v0, v1, v2, v3, v4, v5, v6, rfl⟩ := len7 (hlen.trans (show Tryz.prog.cellsOf 58 = 7 by kernel_rfl))
  have g0 : DataW.trod enc Tryz.prog w base spare held m' 3 (([v0, v1, v2, v3, v4, v5, v6] : List Value).drop 0 |>.take (Tryz.prog.cellsOf 3)) = some y0 := g0
  rw [show Tryz.prog.cellsOf 3 = 1 by kernel_rfl] at g0
  obtain ⟨x0, e0, _, w0⟩ := DataW.trod_int Tryz.underlying3 (show DataW.trod enc Tryz.prog w base spare held m' 3 [v0] = some y0 from g0)
  injection e0 with e0
  have g1 : DataW.trod enc Tryz.prog w base spare held m' 40 (([v0, v1, v2, v3, v4, v5, v6] : List Value).drop 1 |>.take (Tryz.prog.cellsOf 40)) = some y1 := g1
  rw [show Tryz.prog.cellsOf 40 = 3 by kernel_rfl] at g1
  obtain ⟨x1, e1, w1⟩ := open_vl_cells q1 (show DataW.trod enc Tryz.prog w base spare held m' 40 [v1, v2, v3] = some y1 from g1)
  simp [Vl.cells] at e1
  have g2 : DataW.trod enc Tryz.prog w base spare held m' 56 (([v0, v1, v2, v3, v4, v5, v6] : List Value).drop 4 |>.take (Tryz.prog.cellsOf 56)) = some y2 := g2
  rw [show Tryz.prog.cellsOf 56 = 3 by kernel_rfl] at g2
  obtain ⟨x2, e2, w2⟩ := open_atr_cells q2 (show DataW.trod enc Tryz.prog w base spare held m' 56 [v4, v5, v6] = some y2 from g2)
  simp [Atr.cells] at e2
  subst e0
  obtain ⟨rfl, rfl, rfl⟩ := e1
  obtain ⟨rfl, rfl, rfl⟩ := e2
  exact ⟨⟨x0, x1, x2⟩, rfl, wf_bounds w0, w1, w2⟩

theorem open_duts_f {m n c : Nat} {A : Option Addr} {x : DataW H × List MemPlace} (hwt : Wt Tryz.prog 26 x.1) (h : DataW.trod enc Tryz.prog w base spare held m 26 [.slice A n c] = some x) : ∃ l, Dus w (fun _ => True) A n c l :=
  open_rows Tryz.underlying26 (by kernel_rfl) (by omega) (by rw [bytes_dut]; omega) (fun m cs y _ _ q h => open_dut_cells q h) hwt h
theorem open_nods_f {m n c : Nat} {A : Option Addr} {x : DataW H × List MemPlace} (hwt : Wt Tryz.prog 54 x.1) (h : DataW.trod enc Tryz.prog w base spare held m 54 [.slice A n c] = some x) : ∃ l, Nds w (fun _ => True) A n c l :=
  open_rows Tryz.underlying54 (by kernel_rfl) (by omega) (by rw [bytes_nod]; omega) (fun m cs y _ _ q h => open_nod_cells q h) hwt h
theorem open_mats_f {m n c : Nat} {A : Option Addr} {x : DataW H × List MemPlace} (hwt : Wt Tryz.prog 65 x.1) (h : DataW.trod enc Tryz.prog w base spare held m 65 [.slice A n c] = some x) : ∃ l, Ms w (fun _ => True) A n c l :=
  open_rows Tryz.underlying65 (by kernel_rfl) (by omega) (by rw [bytes_mat]; omega) (fun m cs y _ _ q h => open_mat_cells q h) hwt h
theorem open_alls_f {m n c : Nat} {A : Option Addr} {x : DataW H × List MemPlace} (hwt : Wt Tryz.prog 66 x.1) (h : DataW.trod enc Tryz.prog w base spare held m 66 [.slice A n c] = some x) : ∃ l, Als w (fun _ => True) A n c l :=
  open_rows Tryz.underlying66 (by kernel_rfl) (by omega) (by rw [bytes_s1]; omega) (fun m cs y _ hl q h => by
    match cs, hl with
    | [v], _ =>
      obtain ⟨A', n', c', rfl⟩ := slice_cells Tryz.underlying65 h
      obtain ⟨l, hl⟩ := open_mats_f q h
      exact ⟨l, A', n', c', rfl, hl⟩) hwt h
theorem open_anys_f {m n c : Nat} {A : Option Addr} {x : DataW H × List MemPlace} (hwt : Wt Tryz.prog 23 x.1) (h : DataW.trod enc Tryz.prog w base spare held m 23 [.slice A n c] = some x) : ∃ l, Tg w (fun _ => True) A n c l :=
  open_rows Tryz.underlying23 (by kernel_rfl) (by omega) (by rw [bytes_s2]; omega) (fun m cs y _ hl q h => by
    match cs, hl with
    | [v], _ =>
      obtain ⟨A', n', c', rfl⟩ := slice_cells Tryz.underlying66 h
      obtain ⟨l, hl⟩ := open_alls_f q h
      exact ⟨l, A', n', c', rfl, hl⟩) hwt h
theorem open_rul_cells {m : Nat} {cs : List Value} {y : DataW H × List MemPlace} (hwt : Wt Tryz.prog 61 y.1) (h : DataW.trod enc Tryz.prog w base spare held m 61 cs = some y) : ∃ r : Rul, RulAt w (fun _ => True) cs r := by
  obtain ⟨m', _, hlen, y0, y1, y2, y3, y4, ⟨q0, q1, q2, q3, q4⟩, g0, g1, g2, g3, g4⟩ := fields5 Tryz.underlying61 hwt h
  obtain ⟨v0, v1, v2, v3, v4, rfl⟩ := len5 (hlen.trans (show Tryz.prog.cellsOf 61 = 5 by kernel_rfl))
  have g0 : DataW.trod enc Tryz.prog w base spare held m' 9 (([v0, v1, v2, v3, v4] : List Value).drop 0 |>.take (Tryz.prog.cellsOf 9)) = some y0 := g0
  have g1 : DataW.trod enc Tryz.prog w base spare held m' 4 (([v0, v1, v2, v3, v4] : List Value).drop 1 |>.take (Tryz.prog.cellsOf 4)) = some y1 := g1
  have g2 : DataW.trod enc Tryz.prog w base spare held m' 23 (([v0, v1, v2, v3, v4] : List Value).drop 2 |>.take (Tryz.prog.cellsOf 23)) = some y2 := g2
  have g3 : DataW.trod enc Tryz.prog w base spare held m' 54 (([v0, v1, v2, v3, v4] : List Value).drop 3 |>.take (Tryz.prog.cellsOf 54)) = some y3 := g3
  have g4 : DataW.trod enc Tryz.prog w base spare held m' 26 (([v0, v1, v2, v3, v4] : List Value).drop 4 |>.take (Tryz.prog.cellsOf 26)) = some y4 := g4
  rw [show Tryz.prog.cellsOf 9 = 1 by kernel_rfl] at g0
  rw [show Tryz.prog.cellsOf 4 = 1 by kernel_rfl] at g1
  rw [show Tryz.prog.cellsOf 23 = 1 by kernel_rfl] at g2
  rw [show Tryz.prog.cellsOf 54 = 1 by kernel_rfl] at g3
  rw [show Tryz.prog.cellsOf 26 = 1 by kernel_rfl] at g4
  have g2 : DataW.trod enc Tryz.prog w base spare held m' 23 [v2] = some y2 := g2
  have g3 : DataW.trod enc Tryz.prog w base spare held m' 54 [v3] = some y3 := g3
  have g4 : DataW.trod enc Tryz.prog w base spare held m' 26 [v4] = some y4 := g4
  obtain ⟨x0, e0, _, w0⟩ := DataW.trod_string Tryz.underlying9 (show DataW.trod enc Tryz.prog w base spare held m' 9 [v0] = some y0 from g0)
  obtain ⟨x1, e1, _⟩ := DataW.trod_bool Tryz.underlying4 (show DataW.trod enc Tryz.prog w base spare held m' 4 [v1] = some y1 from g1)
  injection e0 with e0
  injection e1 with e1
  subst e0 e1
  obtain ⟨A2, n2, c2, rfl⟩ := slice_cells Tryz.underlying23 g2
  obtain ⟨A3, n3, c3, rfl⟩ := slice_cells Tryz.underlying54 g3
  obtain ⟨A4, n4, c4, rfl⟩ := slice_cells Tryz.underlying26 g4
  obtain ⟨l2, h2⟩ := open_anys_f q2 g2
  obtain ⟨l3, h3⟩ := open_nods_f q3 g3
  obtain ⟨l4, h4⟩ := open_duts_f q4 g4
  exact ⟨⟨x0, x1, l2, l3, l4⟩, A2, n2, c2, A3, n3, c3, A4, n4, c4, rfl, w0, h2, h3, h4⟩
theorem open_ruls_f {m n c : Nat} {A : Option Addr} {x : DataW H × List MemPlace} (hwt : Wt Tryz.prog 24 x.1) (h : DataW.trod enc Tryz.prog w base spare held m 24 [.slice A n c] = some x) : ∃ l, Rus w (fun _ => True) A n c l :=
  open_rows Tryz.underlying24 (by kernel_rfl) (by omega) (by rw [bytes_rul]; omega) (fun m cs y _ _ q h => open_rul_cells q h) hwt h
theorem open_pol_cells : ∀ {m : Nat} {cs : List Value} {y : DataW H × List MemPlace}, Wt Tryz.prog 28 y.1 → DataW.trod enc Tryz.prog w base spare held m 28 cs = some y → ∃ p : Pol, PolAt w (fun _ => True) m cs p := by
  intro m
  induction m using Nat.strongRecOn with
  | ind m ih =>
  intro cs y hwt h
  obtain ⟨m', hm, hlen, y0, y1, y2, y3, y4, y5, y6, ⟨q0, q1, q2, q3, q4, q5, q6⟩, g0, g1, g2, g3, g4, g5, g6⟩ := fields7 Tryz.underlying28 hwt h
  obtain ⟨v0, v1, v2, v3, v4, v5, v6, rfl⟩ := len7 (hlen.trans (show Tryz.prog.cellsOf 28 = 7 by kernel_rfl))
  have g0 : DataW.trod enc Tryz.prog w base spare held m' 9 (([v0, v1, v2, v3, v4, v5, v6] : List Value).drop 0 |>.take (Tryz.prog.cellsOf 9)) = some y0 := g0
  rw [show Tryz.prog.cellsOf 9 = 1 by kernel_rfl] at g0
  have g0 : DataW.trod enc Tryz.prog w base spare held m' 9 [v0] = some y0 := g0
  have g1 : DataW.trod enc Tryz.prog w base spare held m' 4 (([v0, v1, v2, v3, v4, v5, v6] : List Value).drop 1 |>.take (Tryz.prog.cellsOf 4)) = some y1 := g1
  rw [show Tryz.prog.cellsOf 4 = 1 by kernel_rfl] at g1
  have g1 : DataW.trod enc Tryz.prog w base spare held m' 4 [v1] = some y1 := g1
  have g2 : DataW.trod enc Tryz.prog w base spare held m' 3 (([v0, v1, v2, v3, v4, v5, v6] : List Value).drop 2 |>.take (Tryz.prog.cellsOf 3)) = some y2 := g2
  rw [show Tryz.prog.cellsOf 3 = 1 by kernel_rfl] at g2
  have g2 : DataW.trod enc Tryz.prog w base spare held m' 3 [v2] = some y2 := g2
  have g3 : DataW.trod enc Tryz.prog w base spare held m' 23 (([v0, v1, v2, v3, v4, v5, v6] : List Value).drop 3 |>.take (Tryz.prog.cellsOf 23)) = some y3 := g3
  rw [show Tryz.prog.cellsOf 23 = 1 by kernel_rfl] at g3
  have g3 : DataW.trod enc Tryz.prog w base spare held m' 23 [v3] = some y3 := g3
  have g4 : DataW.trod enc Tryz.prog w base spare held m' 24 (([v0, v1, v2, v3, v4, v5, v6] : List Value).drop 4 |>.take (Tryz.prog.cellsOf 24)) = some y4 := g4
  rw [show Tryz.prog.cellsOf 24 = 1 by kernel_rfl] at g4
  have g4 : DataW.trod enc Tryz.prog w base spare held m' 24 [v4] = some y4 := g4
  have g5 : DataW.trod enc Tryz.prog w base spare held m' 25 (([v0, v1, v2, v3, v4, v5, v6] : List Value).drop 5 |>.take (Tryz.prog.cellsOf 25)) = some y5 := g5
  rw [show Tryz.prog.cellsOf 25 = 1 by kernel_rfl] at g5
  have g5 : DataW.trod enc Tryz.prog w base spare held m' 25 [v5] = some y5 := g5
  have g6 : DataW.trod enc Tryz.prog w base spare held m' 26 (([v0, v1, v2, v3, v4, v5, v6] : List Value).drop 6 |>.take (Tryz.prog.cellsOf 26)) = some y6 := g6
  rw [show Tryz.prog.cellsOf 26 = 1 by kernel_rfl] at g6
  have g6 : DataW.trod enc Tryz.prog w base spare held m' 26 [v6] = some y6 := g6
  obtain ⟨x0, e0, _, w0⟩ := DataW.trod_string Tryz.underlying9 g0
  obtain ⟨x1, e1, _⟩ := DataW.trod_bool Tryz.underlying4 g1
  obtain ⟨x2, e2, _, w2⟩ := DataW.trod_int Tryz.underlying3 g2
  injection e0 with e0
  injection e1 with e1
  injection e2 with e2
  subst e0 e1 e2
  obtain ⟨A3, n3, c3, rfl⟩ := slice_cells Tryz.underlying23 g3
  obtain ⟨A4, n4, c4, rfl⟩ := slice_cells Tryz.underlying24 g4
  obtain ⟨A5, n5, c5, rfl⟩ := slice_cells Tryz.underlying25 g5
  obtain ⟨A6, n6, c6, rfl⟩ := slice_cells Tryz.underlying26 g6
  obtain ⟨l3, h3⟩ := open_anys_f q3 g3
  obtain ⟨l4, h4⟩ := open_ruls_f q4 g4
  obtain ⟨l6, h6⟩ := open_duts_f q6 g6
  have hk : ∃ l, Rw 7 (PolAt w (fun _ => True) m') w (fun _ => True) A5 n5 c5 l :=
    open_rows Tryz.underlying25 (by kernel_rfl) (by omega) (by rw [bytes_pol]; omega) (fun q cs y hq _ hw h => by
      obtain ⟨p, hp⟩ := ih q (by omega) hw h
      exact ⟨p, PolAt.more (by omega) hp⟩) q5 g5
  obtain ⟨l5, h5⟩ := hk
  subst hm
  exact ⟨.mk x0 x1 x2 l3 l4 l5 l6, A3, n3, c3, A4, n4, c4, A5, n5, c5, A6, n6, c6, rfl, w0, wf_bounds w2, h3, h4, h5, h6⟩

theorem open_duts {n c : Nat} {A : Option Addr} {d : DataW H} {p : List MemPlace} (hwt : Wt Tryz.prog 26 d) (h : DataW.Trod enc Tryz.prog w base spare held 26 (.slice A n c) d p) : ∃ l, Dus w (fun _ => True) A n c l := by
  obtain ⟨m, hm⟩ := h
  exact open_duts_f hwt hm
theorem open_nods {n c : Nat} {A : Option Addr} {d : DataW H} {p : List MemPlace} (hwt : Wt Tryz.prog 54 d) (h : DataW.Trod enc Tryz.prog w base spare held 54 (.slice A n c) d p) : ∃ l, Nds w (fun _ => True) A n c l := by
  obtain ⟨m, hm⟩ := h
  exact open_nods_f hwt hm
theorem open_tgt {n c : Nat} {A : Option Addr} {d : DataW H} {p : List MemPlace} (hwt : Wt Tryz.prog 23 d) (h : DataW.Trod enc Tryz.prog w base spare held 23 (.slice A n c) d p) : ∃ l, Tg w (fun _ => True) A n c l := by
  obtain ⟨m, hm⟩ := h
  exact open_anys_f hwt hm
set_option maxRecDepth 100000 in
theorem open_pol {r : Reach} {b0 : Nat} {v : Value} {d : DataW H} {p : List MemPlace} (hv : Value.okWide Tryz.prog w r b0 28 v) (hwt : Wt Tryz.prog 28 d) (h : DataW.Trod enc Tryz.prog w base spare held 28 v d p) :
    ∃ (P : Pol) (A1 : Option Addr) (n1 k1 : Nat) (A2 : Option Addr) (n2 k2 : Nat) (A3 : Option Addr) (n3 k3 : Nat) (A4 : Option Addr) (n4 k4 : Nat), v = .agg #[.string P.id, .bool P.set, .int .i64 P.alg, .slice A1 n1 k1, .slice A2 n2 k2, .slice A3 n3 k3, .slice A4 n4 k4] ∧ PolIn w (fun _ => True) P A1 n1 k1 A2 n2 k2 A3 n3 k3 A4 n4 k4 := by
  obtain ⟨cs, m, rfl, hm⟩ := open_struct Tryz.underlying28 hv h
  obtain ⟨P, hP⟩ := open_pol_cells hwt hm
  clear hm hv h
  match m, hP with
  | d + 1, ⟨A1, n1, k1, A2, n2, k2, A3, n3, k3, A4, n4, k4, e, h0, h00, h1, h2, h3, h4⟩ =>
    exact ⟨P, A1, n1, k1, A2, n2, k2, A3, n3, k3, A4, n4, k4, congrArg (fun x : List Value => Value.agg x.toArray) e, ⟨h0, h00⟩, h1, h2, ⟨d, h3⟩, h4⟩
end
end Go.Proofs.YtmoglaknmlhpgaaGreat
/- Requests that come in. -/
namespace Go.Proofs.YtmoglaknmlhpgaaGreat
set_option linter.unusedVariables false
open Go.RowKit Go.ChangeShapes Go.WideShapes

instance : Inhabited Vl := ⟨⟨0, 0, ByteArray.empty⟩⟩
section
variable {H : Type} {enc : TypeId × Value → H} {w : World} {base : Nat} {spare : Nat → Bool} {held : Bool}
theorem bytes_val : Tryz.prog.bytesOf 40 = 32 := by kernel_rfl
theorem bytes_giv : Tryz.prog.bytesOf 78 = 48 := by kernel_rfl
theorem open_vls_f {m n c : Nat} {A : Option Addr} {x : DataW H × List MemPlace} (hwt : Wt Tryz.prog 76 x.1) (h : DataW.trod enc Tryz.prog w base spare held m 76 [.slice A n c] = some x) : ∃ l, Vls w (fun _ => True) A n c l :=
  open_rows Tryz.underlying76 (by kernel_rfl) (by omega) (by rw [bytes_val]; omega) (fun m cs y _ _ q h => open_vl_cells q h) hwt h
theorem open_giv_cells {m : Nat} {cs : List Value} {y : DataW H × List MemPlace} (hwt : Wt Tryz.prog 78 y.1) (h : DataW.trod enc Tryz.prog w base spare held m 78 cs = some y) : ∃ g : Giv, GivAt w (fun _ => True) cs g := by
  obtain ⟨m', _, hlen, y0, y1, y2, ⟨q0, q1, q2⟩, g0, g1, g2⟩ := fields3 Tryz.underlying78 hwt h
  obtain ⟨v0, v1, v2, rfl⟩ := len3 (hlen.trans (show Tryz.prog.cellsOf 78 = 3 by kernel_rfl))
  have g0 : DataW.trod enc Tryz.prog w base spare held m' 3 (([v0, v1, v2] : List Value).drop 0 |>.take (Tryz.prog.cellsOf 3)) = some y0 := g0
  rw [show Tryz.prog.cellsOf 3 = 1 by kernel_rfl] at g0
  have g1 : DataW.trod enc Tryz.prog w base spare held m' 9 (([v0, v1, v2] : List Value).drop 1 |>.take (Tryz.prog.cellsOf 9)) = some y1 := g1
  rw [show Tryz.prog.cellsOf 9 = 1 by kernel_rfl] at g1
  have g2 : DataW.trod enc Tryz.prog w base spare held m' 76 (([v0, v1, v2] : List Value).drop 2 |>.take (Tryz.prog.cellsOf 76)) = some y2 := g2
  rw [show Tryz.prog.cellsOf 76 = 1 by kernel_rfl] at g2
  obtain ⟨x0, e0, _, w0⟩ := DataW.trod_int Tryz.underlying3 (show DataW.trod enc Tryz.prog w base spare held m' 3 [v0] = some y0 from g0)
  obtain ⟨x1, e1, _, w1⟩ := DataW.trod_string Tryz.underlying9 (show DataW.trod enc Tryz.prog w base spare held m' 9 [v1] = some y1 from g1)
  injection e0 with e0
  injection e1 with e1
  subst e0 e1
  have g2 : DataW.trod enc Tryz.prog w base spare held m' 76 [v2] = some y2 := g2
  obtain ⟨A2, n2, c2, rfl⟩ := slice_cells Tryz.underlying76 g2
  obtain ⟨l2, h2⟩ := open_vls_f q2 g2
  exact ⟨⟨x0, x1, l2⟩, A2, n2, c2, rfl, ⟨wf_bounds w0, w1⟩, h2⟩
theorem open_givs_f {m n c : Nat} {A : Option Addr} {x : DataW H × List MemPlace} (hwt : Wt Tryz.prog 37 x.1) (h : DataW.trod enc Tryz.prog w base spare held m 37 [.slice A n c] = some x) : ∃ l, Gvs w (fun _ => True) A n c l :=
  open_rows Tryz.underlying37 (by kernel_rfl) (by omega) (by rw [bytes_giv]; omega) (fun m cs y _ _ q h => open_giv_cells q h) hwt h
theorem open_givs {n c : Nat} {A : Option Addr} {d : DataW H} {p : List MemPlace} (hwt : Wt Tryz.prog 37 d) (h : DataW.Trod enc Tryz.prog w base spare held 37 (.slice A n c) d p) : ∃ l, Gvs w (fun _ => True) A n c l := by
  obtain ⟨m, hm⟩ := h
  exact open_givs_f hwt hm
set_option maxRecDepth 100000 in
theorem open_giv {r : Reach} {b0 : Nat} {v : Value} {d : DataW H} {p : List MemPlace} (hv : Value.okWide Tryz.prog w r b0 78 v) (hwt : Wt Tryz.prog 78 d) (h : DataW.Trod enc Tryz.prog w base spare held 78 v d p) :
    ∃ (g : Giv) (A : Option Addr) (n c : Nat), v = .agg #[.int .i64 g.cat, .string g.name, .slice A n c] ∧ g.ok ∧ Vls w (fun _ => True) A n c g.bag := by
  obtain ⟨cs, m, rfl, hm⟩ := open_struct Tryz.underlying78 hv h
  obtain ⟨g, A, n, c, rfl, hok, hb⟩ := open_giv_cells hwt hm
  exact ⟨g, A, n, c, rfl, hok, hb⟩
end
end Go.Proofs.YtmoglaknmlhpgaaGreat
