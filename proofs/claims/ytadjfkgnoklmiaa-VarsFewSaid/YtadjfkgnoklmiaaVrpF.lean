/- Several texts in one: KeepPol, VarsShort, KeepCopyT, KeepIs, KeepCopy, VarsMore, CellRows, MarkApp, EvalMem, EvalOn, VApp, AskMem, VBoxPut, AskCopied, AskPlace, AskGet, TgtW, TgtMet, ExprMem, FunNum, FunCall, ExprSmall, ExprLaws, ExprDec, FunJudge, FunCalls, VHas, ExprReck, ExprMade, ExprOk, ExprVal, ExprCond, MarkIndets, EvalRule, CombAll, EvalParts, OperApp, EvalDec, EvalPol, AskFew, AskAsks, AskApart, AskPut, AskWithA, AskShort, EvalRead, EvalRunsM, EvalRuns, EvalLaws, EvalCalls, Open, OpenRows, OpenAtr. -/
import Derived.Test.YtadjfkgnoklmiaaVrpE
import Derived.Test.YtadjfkgnoklmiaaVrpA
import Derived.Test.YtadjfkgnoklmiaaVrpB
import Derived.Deep.CutRange
import Derived.Laws.ResultCell
import Derived.Maps.AppendAt
import Derived.Deep.RegionLaw
import Derived.Laws.OwnMore
import Derived.Lib.MinMax
import Derived.Test.YtadjfkgnoklmiaaVrpC
import Derived.OpenShut
import Derived.ChangeSlices
import Derived.Deep.Slices
import Derived.Deep.Fields
import Derived.Lib.SmallJoins
import Derived.ProofKit
import Derived.SizedLaws
/- bailiffkeep: how much of a policy may be gone through. -/
namespace Go.Proofs.Ytadjfkgnoklmiaa
set_option linter.unusedVariables false
open Go.RowKit

def nodC (n : Nod) : Nat := textC n.a.name + textC n.v.s
def ruleC (r : Rul) : Nat := textC r.id + tgC r.tg + r.cond.length + dutsC r.ob + sumC nodC r.cond
def polC : Nat → Pol → Nat
  | 0, _ => 0
  | d + 1, p => 1 + p.rules.length + textC p.id + tgC p.tg + dutsC p.ob + sumC ruleC p.rules + sumC (polC d) p.kids
def KOk (d : Nat) : Prop :=
  ∀ {w : World} {R : Nat → Prop} {g m : Nat} {p : Pol} {A1 A2 A3 A4 : Option Addr} {n1 k1 n2 k2 n3 k3 n4 k4 : Nat}, Lf w g m → m ≤ 3000 → (∀ b, R b → b ≠ g) → p.id.size ≤ maxLen →
    Tg w R A1 n1 k1 p.tg → Rus w R A2 n2 k2 p.rules → Pls w R d A3 n3 k3 p.kids → Dus w R A4 n4 k4 p.ob →
    Taking 15 #[.pointer (some ⟨g, 0, none⟩), .agg #[.string p.id, .bool p.set, .int .i64 p.alg, .slice A1 n1 k1, .slice A2 n2 k2, .slice A3 n3 k3, .slice A4 n4 k4]] w g m (polC (d + 1) p)
theorem Lf.only {w w' : World} {g m : Nat} (h : Lf w g m) (r : Nat) (ho : Only r w w') (hr : g ≠ r) : Lf w' g m := Ob.keep h (ho.heap (Ob.lt h) hr)


set_option maxRecDepth 100000 in
set_option maxHeartbeats 6400000 in
theorem kpol_step (d : Nat) (ih : ∀ d', d = d' + 1 → KOk d') : KOk d := by
  intro w R g m p A1 A2 A3 A4 n1 k1 n2 k2 n3 k3 n4 k4 hl hm hR hid h1 h2 h3 h4
  have big2 := Rw.big h2
  have big3 := Rw.big h3
  have cap2 := Rw.cap h2
  have cap3 := Rw.cap h3
  have le2 := Rw.le h2
  have le3 := Rw.le h3
  unfold maxLen at cap2 cap3
  have HL2 := Lib.hid (Rw.len h2)
  have HL3 := Lib.hid (Rw.len h3)
  have H1 := Lib.hid h1
  have H2 := Lib.hid h2
  have H3 := Lib.hid h3
  have H4 := Lib.hid h4
  have HR := Lib.hid hR
  have HM := Lib.hid hm
  have HID := Lib.hid hid
  have hgn : w.heap.size ≠ g := by have := hl.lt; omega
  have Xhs : Hid (Ob (w.alloc (.cells #[.string p.id, .bool p.set, .int .i64 p.alg, .slice A1 n1 k1, .slice A2 n2 k2, .slice A3 n3 k3, .slice A4 n4 k4] 32)) w.heap.size 32 #[.string p.id, .bool p.set, .int .i64 p.alg, .slice A1 n1 k1, .slice A2 n2 k2, .slice A3 n3 k3, .slice A4 n4 k4]) := Ob.made _ _ _
  have hC0 := Lib.hid (takes1_any (n := n2) (hl.alloc (.cells #[.string p.id, .bool p.set, .int .i64 p.alg, .slice A1 n1 k1, .slice A2 n2 k2, .slice A3 n3 k3, .slice A4 n4 k4] 32)) hm (by unfold maxLen; omega))
  unfold Taking
  have HC : Hid (polC (d + 1) p = 1 + n2 + textC p.id + tgC p.tg + dutsC p.ob + sumC ruleC p.rules + sumC (polC d) p.kids) := by show polC (d + 1) p = _; unfold polC; rw [HL2.out]
  generalize polC (d + 1) p = cc at *
  clear hl hm hR hid h1 h2 h3 h4
  by_cases o0 : 1 + n2 ≤ m
  · rw [decide_eq_true o0] at hC0
    have Ok0 := Lib.hid o0
    clear o0
    by_cases o1 : textC p.id ≤ m - (1 + n2)
    · have dd1 := decide_eq_true o1
      have Ok1 := Lib.hid o1
      clear o1
      by_cases o2 : tgC p.tg ≤ m - (1 + n2) - textC p.id
      · have dd2 := decide_eq_true o2
        have Ok2 := Lib.hid o2
        clear o2
        by_cases o3 : dutsC p.ob ≤ m - (1 + n2) - textC p.id - tgC p.tg
        · have dd3 := decide_eq_true o3
          have Ok3 := Lib.hid o3
          clear o3
          go_enter Try.func15, Try.ntmps15
          go_wp2_with (first
            | (go_at_call 26; (with_reducible refine hC0.out.mono ?_); rintro e vh0 ⟨rfl, hb, hw⟩; have Bh0 := Lib.hid hb; have Lh0 := Lib.hid (hw Ok0.out); have Xh0 := Lib.hid (Xhs.out.keep (hb.heap Xhs.out.lt hgn)); have yh00 := Xh0.out.cell 0; have hC1 := Lib.hid (ktext_any p.id Lh0.out (by have := HM.out; omega) HID.out); unfold Taking at hC1; rw [dd1] at hC1; clear hb hw)
            | (go_at_call 27; (with_reducible refine hC1.out.mono ?_); rintro e vh1 ⟨rfl, hb, hw⟩; have Bh1 := Lib.hid hb; have Lh1 := Lib.hid (hw Ok1.out); have Xh1 := Lib.hid (Xh0.out.keep (hb.heap Xh0.out.lt hgn)); have yh13 := Xh1.out.cell 3; have hC2 := Lib.hid (ktarget_any Lh1.out (by have := HM.out; omega) HR.out (H1.out.keep ((((Only.alloc g w (.cells #[.string p.id, .bool p.set, .int .i64 p.alg, .slice A1 n1 k1, .slice A2 n2 k2, .slice A3 n3 k3, .slice A4 n4 k4] 32)).trans Bh0.out).trans Bh1.out).kept HR.out) (fun _ h _ => h))); unfold Taking at hC2; rw [dd2] at hC2; clear hb hw)
            | (go_at_call 28; (with_reducible refine hC2.out.mono ?_); rintro e vh2 ⟨rfl, hb, hw⟩; have Bh2 := Lib.hid hb; have Lh2 := Lib.hid (hw Ok2.out); have Xh2 := Lib.hid (Xh1.out.keep (hb.heap Xh1.out.lt hgn)); have yh26 := Xh2.out.cell 6; have hC3 := Lib.hid (kobls_any Lh2.out (by have := HM.out; omega) HR.out (H4.out.keep (((((Only.alloc g w (.cells #[.string p.id, .bool p.set, .int .i64 p.alg, .slice A1 n1 k1, .slice A2 n2 k2, .slice A3 n3 k3, .slice A4 n4 k4] 32)).trans Bh0.out).trans Bh1.out).trans Bh2.out).kept HR.out) (fun _ h _ => h))); unfold Taking at hC3; rw [dd3] at hC3; clear hb hw)
            | (go_at_call 29; (with_reducible refine hC3.out.mono ?_); rintro e vh3 ⟨rfl, hb, hw⟩; have Bh3 := Lib.hid hb; have Lh3 := Lib.hid (hw Ok3.out); have Xh3 := Lib.hid (Xh2.out.keep (hb.heap Xh2.out.lt hgn)); have yh34 := Xh3.out.cell 4; have yh35 := Xh3.out.cell 5; clear hb hw))
          have G3 := Lib.hid (((((Only.alloc g w (.cells #[.string p.id, .bool p.set, .int .i64 p.alg, .slice A1 n1 k1, .slice A2 n2 k2, .slice A3 n3 k3, .slice A4 n4 k4] 32)).trans Bh0.out).trans Bh1.out).trans Bh2.out).trans Bh3.out)
          obtain ⟨m4, hm4⟩ : ∃ m4, m4 = m - (1 + n2) - textC p.id - tgC p.tg - dutsC p.ob := ⟨_, rfl⟩
          rw [← hm4] at Lh3
          have M4 : Hid (m4 + (1 + n2 + textC p.id + tgC p.tg + dutsC p.ob) = m) := by have := Ok0.out; have := Ok1.out; have := Ok2.out; have := Ok3.out; show m4 + _ = m; omega
          clear hm4 Bh0 Bh1 Bh2 Bh3 Lh0 Lh1 Lh2 Xh0 Xh1 Xh2 hC0 hC1 hC2 hC3 Ok0 Ok1 Ok2 Ok3 yh00 yh13 yh26
          go_loopw [42] (fun i wr => ∃ k mk : Nat, k ≤ n2 ∧ i = .int .i64 k ∧ sumC ruleC (p.rules.take k) + mk = m4 ∧ Lf wr g mk ∧ Only g vh3 wr) (fun i _ => n2 - (intOf i).toNat)
          case atStart => exact ⟨0, m4, Nat.zero_le _, rfl, by rw [sumC_zero]; omega, Lh3.out, Only.refl⟩
          case round =>
            obtain ⟨wo, hwo⟩ : ∃ wo, wo = wr := ⟨wr, rfl⟩
            subst hwo
            obtain ⟨k, mk, hk, rfl, hs, hlf, hb⟩ := hrel
            have HS := Lib.hid hs
            have HB := Lib.hid hb
            have HF := Lib.hid hlf
            clear hs hb hlf yh34 yh35
            by_cases hlt : k < n2
            · obtain ⟨b, o, x, B1, j1, q1, B2, j2, q2, B3, j3, q3, rfl, hRb, hbl, hx, xid, ⟨c0, c1, c2, c3, c4⟩, t1, t2, t3⟩ := (H2.out.keep ((G3.out.trans HB.out).kept HR.out) (fun _ h _ => h)).at_ hlt
              have HX := Lib.hid hx
              have HSX := Lib.hid (sumC_le (f := ruleC) hx)
              have HT1 := Lib.hid t1
              have HT2 := Lib.hid t2
              have HT3 := Lib.hid t3
              have HXID := Lib.hid xid
              have big2' := Rw.big t2
              have le2' := Rw.le t2
              have cap2' := Rw.cap t2
              have HLC := Lib.hid (Rw.len t2)
              have HEX : Hid (ruleC x = textC x.id + tgC x.tg + j2 + dutsC x.ob + sumC nodC x.cond) := by show ruleC x = _; unfold ruleC; rw [HLC.out]
              have hne : wo.heap.size ≠ g := by have := HF.out.lt; omega
              have Xrs : Hid (Ob (wo.alloc (.cells #[.string x.id, .bool x.deny, .slice B1 j1 q1, .slice B2 j2 q2, .slice B3 j3 q3] 51)) wo.heap.size 51 #[.string x.id, .bool x.deny, .slice B1 j1 q1, .slice B2 j2 q2, .slice B3 j3 q3]) := Ob.made _ _ _
              have rC0 := Lib.hid (ktext_any x.id (HF.out.alloc (.cells #[.string x.id, .bool x.deny, .slice B1 j1 q1, .slice B2 j2 q2, .slice B3 j3 q3] 51)) (by have := HS.out; have := M4.out; have := HM.out; omega) HXID.out)
              unfold Taking at rC0
              unfold maxLen at cap2'
              clear hx t1 t2 t3 xid
              by_cases hr0 : textC x.id ≤ mk
              · rw [decide_eq_true hr0] at rC0
                have Rk0 := Lib.hid hr0
                clear hr0
                by_cases hr1 : tgC x.tg ≤ mk - textC x.id
                · have rr1 := decide_eq_true hr1
                  have Rk1 := Lib.hid hr1
                  clear hr1
                  by_cases hr2 : j2 ≤ mk - textC x.id - tgC x.tg
                  · have rr2 := decide_eq_true hr2
                    have Rk2 := Lib.hid hr2
                    clear hr2
                    by_cases hr3 : dutsC x.ob ≤ mk - textC x.id - tgC x.tg - j2
                    · have rr3 := decide_eq_true hr3
                      have Rk3 := Lib.hid hr3
                      clear hr3
                      go_wp2_with (first
                        | (go_at_call 27; (with_reducible refine rC0.out.mono ?_); rintro e vr0 ⟨rfl, hb, hw⟩; have Br0 := Lib.hid hb; have Lr0 := Lib.hid (hw Rk0.out); have Xr0 := Lib.hid (Xrs.out.keep (hb.heap Xrs.out.lt hne)); have yr02 := Xr0.out.cell 2; have rC1 := Lib.hid (ktarget_any Lr0.out (by have := HS.out; have := M4.out; have := HM.out; omega) HR.out (HT1.out.keep (((Only.alloc g wo (.cells #[.string x.id, .bool x.deny, .slice B1 j1 q1, .slice B2 j2 q2, .slice B3 j3 q3] 51)).trans Br0.out).kept HR.out) (fun _ h _ => h))); unfold Taking at rC1; rw [rr1] at rC1; clear hb hw)
                        | (go_at_call 28; (with_reducible refine rC1.out.mono ?_); rintro e vr1 ⟨rfl, hb, hw⟩; have Br1 := Lib.hid hb; have Lr1 := Lib.hid (hw Rk1.out); have Xr1 := Lib.hid (Xr0.out.keep (hb.heap Xr0.out.lt hne)); have yr13 := Xr1.out.cell 3; have rC2 := Lib.hid (takes_any (n := j2) Lr1.out (by have := HS.out; have := M4.out; have := HM.out; omega) (by unfold maxLen; omega)); unfold Taking at rC2; rw [rr2] at rC2; clear hb hw)
                        | (go_at_call 26; (with_reducible refine rC2.out.mono ?_); rintro e vr2 ⟨rfl, hb, hw⟩; have Br2 := Lib.hid hb; have Lr2 := Lib.hid (hw Rk2.out); have Xr2 := Lib.hid (Xr1.out.keep (hb.heap Xr1.out.lt hne)); have yr24 := Xr2.out.cell 4; have rC3 := Lib.hid (kobls_any Lr2.out (by have := HS.out; have := M4.out; have := HM.out; omega) HR.out (HT3.out.keep (((((Only.alloc g wo (.cells #[.string x.id, .bool x.deny, .slice B1 j1 q1, .slice B2 j2 q2, .slice B3 j3 q3] 51)).trans Br0.out).trans Br1.out).trans Br2.out).kept HR.out) (fun _ h _ => h))); unfold Taking at rC3; rw [rr3] at rC3; clear hb hw)
                        | (go_at_call 29; (with_reducible refine rC3.out.mono ?_); rintro e vr3 ⟨rfl, hb, hw⟩; have Br3 := Lib.hid hb; have Lr3 := Lib.hid (hw Rk3.out); have Xr3 := Lib.hid (Xr2.out.keep (hb.heap Xr2.out.lt hne)); have yr33 := Xr3.out.cell 3; clear hb hw))
                      have GR := Lib.hid (((((Only.alloc g wo (.cells #[.string x.id, .bool x.deny, .slice B1 j1 q1, .slice B2 j2 q2, .slice B3 j3 q3] 51)).trans Br0.out).trans Br1.out).trans Br2.out).trans Br3.out)
                      obtain ⟨m5, hm5⟩ : ∃ m5, m5 = mk - textC x.id - tgC x.tg - j2 - dutsC x.ob := ⟨_, rfl⟩
                      rw [← hm5] at Lr3
                      have M5 : Hid (m5 + (textC x.id + tgC x.tg + j2 + dutsC x.ob) = mk) := by have := Rk0.out; have := Rk1.out; have := Rk2.out; have := Rk3.out; show m5 + _ = mk; omega
                      clear hm5 Br0 Br1 Br2 Br3 Lr0 Lr1 Lr2 Xr0 Xr1 Xr2 rC0 rC1 rC2 rC3 Rk0 Rk1 Rk2 Rk3 yr02 yr13 yr24
                      go_loopw [76] (fun i wr => ∃ k3 m3 : Nat, k3 ≤ j2 ∧ i = .int .i64 k3 ∧ sumC nodC (x.cond.take k3) + m3 = m5 ∧ Lf wr g m3 ∧ Only g vr3 wr) (fun i _ => j2 - (intOf i).toNat)
                      case atStart => exact ⟨0, m5, Nat.zero_le _, rfl, by rw [sumC_zero]; omega, Lr3.out, Only.refl⟩
                      case round =>
                        obtain ⟨wz, hwz⟩ : ∃ wz, wz = wr := ⟨wr, rfl⟩
                        subst hwz
                        obtain ⟨k3, m3, hk3, rfl, hs, hlf, hb⟩ := hrel
                        have HS3 := Lib.hid hs
                        have HB3 := Lib.hid hb
                        have HF3 := Lib.hid hlf
                        clear hs hb hlf yr33
                        by_cases hlt3 : k3 < j2
                        · obtain ⟨b3, o3, z, rfl, hRb3, hbl3, hz, hok, f0, f1, f2, f3, f4, f5, f6⟩ := (HT2.out.keep ((GR.out.trans HB3.out).kept HR.out) (fun _ h _ => h)).at_ hlt3
                          have HZ := Lib.hid hz
                          have HSZ := Lib.hid (sumC_le (f := nodC) hz)
                          have HEZ : Hid (nodC z = textC z.a.name + textC z.v.s) := rfl
                          have zC0 := Lib.hid (ktext_any z.a.name (HF3.out.alloc (.cells #[.int .i64 z.op, .int .i64 z.v.k, .int .i64 z.v.n, .string z.v.s, .int .i64 z.a.cat, .string z.a.name, .bool z.a.must] 41)) (by have := HS3.out; have := M5.out; have := HS.out; have := M4.out; have := HM.out; omega) hok.2.2.2)
                          unfold Taking at zC0
                          have HOK := Lib.hid hok
                          have hnz : wz.heap.size ≠ g := by have := HF3.out.lt; omega
                          have Xzs : Hid (Ob (wz.alloc (.cells #[.int .i64 z.op, .int .i64 z.v.k, .int .i64 z.v.n, .string z.v.s, .int .i64 z.a.cat, .string z.a.name, .bool z.a.must] 41)) wz.heap.size 41 #[.int .i64 z.op, .int .i64 z.v.k, .int .i64 z.v.n, .string z.v.s, .int .i64 z.a.cat, .string z.a.name, .bool z.a.must]) := Ob.made _ _ _
                          clear hz hok
                          by_cases hz0 : textC z.a.name ≤ m3
                          · rw [decide_eq_true hz0] at zC0
                            have Zk0 := Lib.hid hz0
                            clear hz0
                            by_cases hz1 : textC z.v.s ≤ m3 - textC z.a.name
                            · have zz1 := decide_eq_true hz1
                              have Zk1 := Lib.hid hz1
                              clear hz1
                              go_wp2_with (first
                                | (go_at_call 27; (with_reducible refine zC0.out.mono ?_); rintro e vz0 ⟨rfl, hb, hw⟩; have Bz0 := Lib.hid hb; have Lz0 := Lib.hid (hw Zk0.out); have Xz0 := Lib.hid (Xzs.out.keep (hb.heap Xzs.out.lt hnz)); have yz03 := Xz0.out.cell 3; have zC1 := Lib.hid (ktext_any z.v.s Lz0.out (by have := HS3.out; have := M5.out; have := HS.out; have := M4.out; have := HM.out; omega) HOK.out.2.1.2.2); unfold Taking at zC1; rw [zz1] at zC1; clear hb hw)
                                | (go_at_call 27; (with_reducible refine zC1.out.mono ?_); rintro e vz1 ⟨rfl, hb, hw⟩; have Bz1 := Lib.hid hb; have Lz1 := Lib.hid (hw Zk1.out); have Xz1 := Lib.hid (Xz0.out.keep (hb.heap Xz0.out.lt hnz)); clear hb hw))
                              go_roundw
                              case rel => exact ⟨k3 + 1, m3 - textC z.a.name - textC z.v.s, by omega, by go_num, by rw [sumC_take HZ.out, HEZ.out]; have := HS3.out; have := Zk0.out; have := Zk1.out; omega, Lz1.out, (HB3.out.trans (((Only.alloc g wz (.cells #[.int .i64 z.op, .int .i64 z.v.k, .int .i64 z.v.n, .string z.v.s, .int .i64 z.a.cat, .string z.a.name, .bool z.a.must] 41)).trans Bz0.out).trans Bz1.out))⟩
                              case measure => simp [intOf]; omega
                            · have zz1 := decide_eq_false hz1
                              have Zn1 := Lib.hid hz1
                              clear hz1
                              go_wp2_with (first
                                | (go_at_call 27; (with_reducible refine zC0.out.mono ?_); rintro e vz0 ⟨rfl, hb, hw⟩; have Bz0 := Lib.hid hb; have Lz0 := Lib.hid (hw Zk0.out); have Xz0 := Lib.hid (Xzs.out.keep (hb.heap Xzs.out.lt hnz)); have yz03 := Xz0.out.cell 3; have zC1 := Lib.hid (ktext_any z.v.s Lz0.out (by have := HS3.out; have := M5.out; have := HS.out; have := M4.out; have := HM.out; omega) HOK.out.2.1.2.2); unfold Taking at zC1; rw [zz1] at zC1; clear hb hw)
                                | (go_at_call 27; (with_reducible refine zC1.out.mono ?_); rintro e vz1 ⟨rfl, hb, hw⟩; have Bz1 := Lib.hid hb; clear hb hw))
                              go_ret
                              have hbad : ¬ cc ≤ m := by have := HC.out; have := HS.out; have := M4.out; have := HSX.out; have := HEX.out; have := M5.out; have := HS3.out; have := HSZ.out; have := HEZ.out; have := Zk0.out; have := Zn1.out; omega
                              exact ⟨ret_bool (decide_eq_false hbad).symm, ((((G3.out.trans HB.out).trans GR.out).trans HB3.out).trans (((Only.alloc g wz (.cells #[.int .i64 z.op, .int .i64 z.v.k, .int .i64 z.v.n, .string z.v.s, .int .i64 z.a.cat, .string z.a.name, .bool z.a.must] 41)).trans Bz0.out).trans Bz1.out)), fun h => absurd h hbad⟩
                          · rw [decide_eq_false hz0] at zC0
                            have Zn0 := Lib.hid hz0
                            clear hz0
                            go_wp2_with (first
                              | (go_at_call 27; (with_reducible refine zC0.out.mono ?_); rintro e vz0 ⟨rfl, hb, hw⟩; have Bz0 := Lib.hid hb; clear hb hw))
                            go_ret
                            have hbad : ¬ cc ≤ m := by have := HC.out; have := HS.out; have := M4.out; have := HSX.out; have := HEX.out; have := M5.out; have := HS3.out; have := HSZ.out; have := HEZ.out; have := Zn0.out; omega
                            exact ⟨ret_bool (decide_eq_false hbad).symm, ((((G3.out.trans HB.out).trans GR.out).trans HB3.out).trans ((Only.alloc g wz (.cells #[.int .i64 z.op, .int .i64 z.v.k, .int .i64 z.v.n, .string z.v.s, .int .i64 z.a.cat, .string z.a.name, .bool z.a.must] 41)).trans Bz0.out)), fun h => absurd h hbad⟩
                        · obtain rfl : k3 = j2 := by omega
                          go_wp2
                          go_roundw
                          case rel =>
                            have hs := HS3.out
                            rw [sumC_all HLC.out] at hs
                            exact ⟨k + 1, m3, by omega, by go_num, by rw [sumC_take HX.out, HEX.out]; have := HS.out; have := M5.out; omega, HF3.out, ((HB.out.trans GR.out).trans HB3.out)⟩
                          case measure => simp [intOf]; omega
                    · have rr3 := decide_eq_false hr3
                      have Rn3 := Lib.hid hr3
                      clear hr3
                      go_wp2_with (first
                        | (go_at_call 27; (with_reducible refine rC0.out.mono ?_); rintro e vr0 ⟨rfl, hb, hw⟩; have Br0 := Lib.hid hb; have Lr0 := Lib.hid (hw Rk0.out); have Xr0 := Lib.hid (Xrs.out.keep (hb.heap Xrs.out.lt hne)); have yr02 := Xr0.out.cell 2; have rC1 := Lib.hid (ktarget_any Lr0.out (by have := HS.out; have := M4.out; have := HM.out; omega) HR.out (HT1.out.keep (((Only.alloc g wo (.cells #[.string x.id, .bool x.deny, .slice B1 j1 q1, .slice B2 j2 q2, .slice B3 j3 q3] 51)).trans Br0.out).kept HR.out) (fun _ h _ => h))); unfold Taking at rC1; rw [rr1] at rC1; clear hb hw)
                        | (go_at_call 28; (with_reducible refine rC1.out.mono ?_); rintro e vr1 ⟨rfl, hb, hw⟩; have Br1 := Lib.hid hb; have Lr1 := Lib.hid (hw Rk1.out); have Xr1 := Lib.hid (Xr0.out.keep (hb.heap Xr0.out.lt hne)); have yr13 := Xr1.out.cell 3; have rC2 := Lib.hid (takes_any (n := j2) Lr1.out (by have := HS.out; have := M4.out; have := HM.out; omega) (by unfold maxLen; omega)); unfold Taking at rC2; rw [rr2] at rC2; clear hb hw)
                        | (go_at_call 26; (with_reducible refine rC2.out.mono ?_); rintro e vr2 ⟨rfl, hb, hw⟩; have Br2 := Lib.hid hb; have Lr2 := Lib.hid (hw Rk2.out); have Xr2 := Lib.hid (Xr1.out.keep (hb.heap Xr1.out.lt hne)); have yr24 := Xr2.out.cell 4; have rC3 := Lib.hid (kobls_any Lr2.out (by have := HS.out; have := M4.out; have := HM.out; omega) HR.out (HT3.out.keep (((((Only.alloc g wo (.cells #[.string x.id, .bool x.deny, .slice B1 j1 q1, .slice B2 j2 q2, .slice B3 j3 q3] 51)).trans Br0.out).trans Br1.out).trans Br2.out).kept HR.out) (fun _ h _ => h))); unfold Taking at rC3; rw [rr3] at rC3; clear hb hw)
                        | (go_at_call 29; (with_reducible refine rC3.out.mono ?_); rintro e vr3 ⟨rfl, hb, hw⟩; have Br3 := Lib.hid hb; clear hb hw))
                      go_ret
                      have hbad : ¬ cc ≤ m := by have := HC.out; have := HS.out; have := M4.out; have := HSX.out; have := HEX.out; have := Rk0.out; have := Rk1.out; have := Rk2.out; have := Rn3.out; omega
                      exact ⟨ret_bool (decide_eq_false hbad).symm, ((G3.out.trans HB.out).trans (((((Only.alloc g wo (.cells #[.string x.id, .bool x.deny, .slice B1 j1 q1, .slice B2 j2 q2, .slice B3 j3 q3] 51)).trans Br0.out).trans Br1.out).trans Br2.out).trans Br3.out)), fun h => absurd h hbad⟩
                  · have rr2 := decide_eq_false hr2
                    have Rn2 := Lib.hid hr2
                    clear hr2
                    go_wp2_with (first
                      | (go_at_call 27; (with_reducible refine rC0.out.mono ?_); rintro e vr0 ⟨rfl, hb, hw⟩; have Br0 := Lib.hid hb; have Lr0 := Lib.hid (hw Rk0.out); have Xr0 := Lib.hid (Xrs.out.keep (hb.heap Xrs.out.lt hne)); have yr02 := Xr0.out.cell 2; have rC1 := Lib.hid (ktarget_any Lr0.out (by have := HS.out; have := M4.out; have := HM.out; omega) HR.out (HT1.out.keep (((Only.alloc g wo (.cells #[.string x.id, .bool x.deny, .slice B1 j1 q1, .slice B2 j2 q2, .slice B3 j3 q3] 51)).trans Br0.out).kept HR.out) (fun _ h _ => h))); unfold Taking at rC1; rw [rr1] at rC1; clear hb hw)
                      | (go_at_call 28; (with_reducible refine rC1.out.mono ?_); rintro e vr1 ⟨rfl, hb, hw⟩; have Br1 := Lib.hid hb; have Lr1 := Lib.hid (hw Rk1.out); have Xr1 := Lib.hid (Xr0.out.keep (hb.heap Xr0.out.lt hne)); have yr13 := Xr1.out.cell 3; have rC2 := Lib.hid (takes_any (n := j2) Lr1.out (by have := HS.out; have := M4.out; have := HM.out; omega) (by unfold maxLen; omega)); unfold Taking at rC2; rw [rr2] at rC2; clear hb hw)
                      | (go_at_call 26; (with_reducible refine rC2.out.mono ?_); rintro e vr2 ⟨rfl, hb, hw⟩; have Br2 := Lib.hid hb; clear hb hw))
                    go_ret
                    have hbad : ¬ cc ≤ m := by have := HC.out; have := HS.out; have := M4.out; have := HSX.out; have := HEX.out; have := Rk0.out; have := Rk1.out; have := Rn2.out; omega
                    exact ⟨ret_bool (decide_eq_false hbad).symm, ((G3.out.trans HB.out).trans ((((Only.alloc g wo (.cells #[.string x.id, .bool x.deny, .slice B1 j1 q1, .slice B2 j2 q2, .slice B3 j3 q3] 51)).trans Br0.out).trans Br1.out).trans Br2.out)), fun h => absurd h hbad⟩
                · have rr1 := decide_eq_false hr1
                  have Rn1 := Lib.hid hr1
                  clear hr1
                  go_wp2_with (first
                    | (go_at_call 27; (with_reducible refine rC0.out.mono ?_); rintro e vr0 ⟨rfl, hb, hw⟩; have Br0 := Lib.hid hb; have Lr0 := Lib.hid (hw Rk0.out); have Xr0 := Lib.hid (Xrs.out.keep (hb.heap Xrs.out.lt hne)); have yr02 := Xr0.out.cell 2; have rC1 := Lib.hid (ktarget_any Lr0.out (by have := HS.out; have := M4.out; have := HM.out; omega) HR.out (HT1.out.keep (((Only.alloc g wo (.cells #[.string x.id, .bool x.deny, .slice B1 j1 q1, .slice B2 j2 q2, .slice B3 j3 q3] 51)).trans Br0.out).kept HR.out) (fun _ h _ => h))); unfold Taking at rC1; rw [rr1] at rC1; clear hb hw)
                    | (go_at_call 28; (with_reducible refine rC1.out.mono ?_); rintro e vr1 ⟨rfl, hb, hw⟩; have Br1 := Lib.hid hb; clear hb hw))
                  go_ret
                  have hbad : ¬ cc ≤ m := by have := HC.out; have := HS.out; have := M4.out; have := HSX.out; have := HEX.out; have := Rk0.out; have := Rn1.out; omega
                  exact ⟨ret_bool (decide_eq_false hbad).symm, ((G3.out.trans HB.out).trans (((Only.alloc g wo (.cells #[.string x.id, .bool x.deny, .slice B1 j1 q1, .slice B2 j2 q2, .slice B3 j3 q3] 51)).trans Br0.out).trans Br1.out)), fun h => absurd h hbad⟩
              · rw [decide_eq_false hr0] at rC0
                have Rn0 := Lib.hid hr0
                clear hr0
                go_wp2_with (first
                  | (go_at_call 27; (with_reducible refine rC0.out.mono ?_); rintro e vr0 ⟨rfl, hb, hw⟩; have Br0 := Lib.hid hb; clear hb hw))
                go_ret
                have hbad : ¬ cc ≤ m := by have := HC.out; have := HS.out; have := M4.out; have := HSX.out; have := HEX.out; have := Rn0.out; omega
                exact ⟨ret_bool (decide_eq_false hbad).symm, ((G3.out.trans HB.out).trans ((Only.alloc g wo (.cells #[.string x.id, .bool x.deny, .slice B1 j1 q1, .slice B2 j2 q2, .slice B3 j3 q3] 51)).trans Br0.out)), fun h => absurd h hbad⟩
            · obtain rfl : k = n2 := by omega
              have hs := HS.out
              rw [sumC_all HL2.out] at hs
              have HSR := Lib.hid hs
              clear hs
              have XR := Lib.hid (Xh3.out.keep (HB.out.heap Xh3.out.lt hgn))
              have yr5 := XR.out.cell 5
              have G5 := Lib.hid (G3.out.trans HB.out)
              go_wp2
              go_loopw [99] (fun i wr => ∃ k5 m5 : Nat, k5 ≤ n3 ∧ i = .int .i64 k5 ∧ sumC (polC d) (p.kids.take k5) + m5 = mk ∧ Lf wr g m5 ∧ Only g wo wr) (fun i _ => n3 - (intOf i).toNat)
              case atStart => exact ⟨0, mk, Nat.zero_le _, rfl, by rw [sumC_zero]; omega, HF.out, Only.refl⟩
              case round =>
                obtain ⟨wz, hwz⟩ : ∃ wz, wz = wr := ⟨wr, rfl⟩
                subst hwz
                obtain ⟨k5, m5, hk5, rfl, hs, hlf, hb⟩ := hrel
                have HS5 := Lib.hid hs
                have HB5 := Lib.hid hb
                have HF5 := Lib.hid hlf
                clear hs hb hlf yr5
                by_cases hlt5 : k5 < n3
                · obtain ⟨b5, o5, x, d', B1, j1, q1, B2, j2, q2, B3, j3, q3, B4, j4, q4, rfl, hRb5, hbl5, hx, hd, ⟨xid, xalg⟩, ⟨f0, f1, f2, f3, f4, f5, f6⟩, t1, t2, t3, t4⟩ := (H3.out.keep ((G5.out.trans HB5.out).kept HR.out) (fun _ h _ => h)).at_ hlt5
                  have HX := Lib.hid hx
                  have HSX := Lib.hid (sumC_le (f := polC d) hx)
                  have hka := (Only.alloc g wz (.cells #[.string x.id, .bool x.set, .int .i64 x.alg, .slice B1 j1 q1, .slice B2 j2 q2, .slice B3 j3 q3, .slice B4 j4 q4] 32)).kept HR.out
                  have pC := (ih d' hd) (HF5.out.alloc (.cells #[.string x.id, .bool x.set, .int .i64 x.alg, .slice B1 j1 q1, .slice B2 j2 q2, .slice B3 j3 q3, .slice B4 j4 q4] 32)) (by have := HS5.out; have := HSR.out; have := M4.out; have := HM.out; omega) HR.out xid (t1.keep hka (fun _ h _ => h)) (t2.keep hka (fun _ h _ => h)) (t3.keep hka (fun _ h _ => h)) (t4.keep hka (fun _ h _ => h))
                  unfold Taking at pC
                  rw [← hd] at pC
                  clear hx xid xalg t1 t2 t3 t4 hka
                  by_cases hp : polC d x ≤ m5
                  · rw [decide_eq_true hp] at pC
                    have PC := Lib.hid pC
                    have Pk := Lib.hid hp
                    clear hp pC
                    go_wp2_with (go_at_call 15; refine PC.out.mono ?_; rintro e v7 ⟨rfl, hb, hw⟩; have B7 := Lib.hid hb; have L7 := Lib.hid (hw Pk.out); clear hb hw)
                    go_roundw
                    case rel => exact ⟨k5 + 1, m5 - polC d x, by omega, by go_num, by rw [sumC_take HX.out]; have := HS5.out; have := Pk.out; omega, L7.out, HB5.out.trans ((Only.alloc _ _ _).trans B7.out)⟩
                    case measure => simp [intOf]; omega
                  · rw [decide_eq_false hp] at pC
                    have PC := Lib.hid pC
                    have Pn := Lib.hid hp
                    clear hp pC
                    go_wp2_with (go_at_call 15; refine PC.out.mono ?_; rintro e v7 ⟨rfl, hb, hw⟩; have B7 := Lib.hid hb; clear hb hw)
                    go_ret
                    have hbad : ¬ cc ≤ m := by have := HC.out; have := HSR.out; have := M4.out; have := HS5.out; have := HSX.out; have := Pn.out; omega
                    exact ⟨ret_bool (decide_eq_false hbad).symm, G5.out.trans (HB5.out.trans ((Only.alloc _ _ _).trans B7.out)), fun h => absurd h hbad⟩
                · obtain rfl : k5 = n3 := by omega
                  go_wp2
                  go_ret
                  have hs := HS5.out
                  rw [sumC_all HL3.out] at hs
                  have h1 := HC.out
                  have h2 := HSR.out
                  have h3 := M4.out
                  exact ⟨ret_bool (decide_eq_true (by omega)).symm, G5.out.trans HB5.out, fun _ => by rw [show m - cc = m5 by omega]; exact HF5.out⟩
        · have dd3 := decide_eq_false o3
          have No3 := Lib.hid o3
          clear o3
          go_enter Try.func15, Try.ntmps15
          go_wp2_with (first
            | (go_at_call 26; (with_reducible refine hC0.out.mono ?_); rintro e vh0 ⟨rfl, hb, hw⟩; have Bh0 := Lib.hid hb; have Lh0 := Lib.hid (hw Ok0.out); have Xh0 := Lib.hid (Xhs.out.keep (hb.heap Xhs.out.lt hgn)); have yh00 := Xh0.out.cell 0; have hC1 := Lib.hid (ktext_any p.id Lh0.out (by have := HM.out; omega) HID.out); unfold Taking at hC1; rw [dd1] at hC1; clear hb hw)
            | (go_at_call 27; (with_reducible refine hC1.out.mono ?_); rintro e vh1 ⟨rfl, hb, hw⟩; have Bh1 := Lib.hid hb; have Lh1 := Lib.hid (hw Ok1.out); have Xh1 := Lib.hid (Xh0.out.keep (hb.heap Xh0.out.lt hgn)); have yh13 := Xh1.out.cell 3; have hC2 := Lib.hid (ktarget_any Lh1.out (by have := HM.out; omega) HR.out (H1.out.keep ((((Only.alloc g w (.cells #[.string p.id, .bool p.set, .int .i64 p.alg, .slice A1 n1 k1, .slice A2 n2 k2, .slice A3 n3 k3, .slice A4 n4 k4] 32)).trans Bh0.out).trans Bh1.out).kept HR.out) (fun _ h _ => h))); unfold Taking at hC2; rw [dd2] at hC2; clear hb hw)
            | (go_at_call 28; (with_reducible refine hC2.out.mono ?_); rintro e vh2 ⟨rfl, hb, hw⟩; have Bh2 := Lib.hid hb; have Lh2 := Lib.hid (hw Ok2.out); have Xh2 := Lib.hid (Xh1.out.keep (hb.heap Xh1.out.lt hgn)); have yh26 := Xh2.out.cell 6; have hC3 := Lib.hid (kobls_any Lh2.out (by have := HM.out; omega) HR.out (H4.out.keep (((((Only.alloc g w (.cells #[.string p.id, .bool p.set, .int .i64 p.alg, .slice A1 n1 k1, .slice A2 n2 k2, .slice A3 n3 k3, .slice A4 n4 k4] 32)).trans Bh0.out).trans Bh1.out).trans Bh2.out).kept HR.out) (fun _ h _ => h))); unfold Taking at hC3; rw [dd3] at hC3; clear hb hw)
            | (go_at_call 29; (with_reducible refine hC3.out.mono ?_); rintro e vh3 ⟨rfl, hb, hw⟩; have Bh3 := Lib.hid hb; clear hb hw))
          go_ret
          have hbad : ¬ cc ≤ m := by have := HC.out; have := Ok0.out; have := Ok1.out; have := Ok2.out; have := No3.out; omega
          exact ⟨ret_bool (decide_eq_false hbad).symm, (((((Only.alloc g w (.cells #[.string p.id, .bool p.set, .int .i64 p.alg, .slice A1 n1 k1, .slice A2 n2 k2, .slice A3 n3 k3, .slice A4 n4 k4] 32)).trans Bh0.out).trans Bh1.out).trans Bh2.out).trans Bh3.out), fun h => absurd h hbad⟩
      · have dd2 := decide_eq_false o2
        have No2 := Lib.hid o2
        clear o2
        go_enter Try.func15, Try.ntmps15
        go_wp2_with (first
          | (go_at_call 26; (with_reducible refine hC0.out.mono ?_); rintro e vh0 ⟨rfl, hb, hw⟩; have Bh0 := Lib.hid hb; have Lh0 := Lib.hid (hw Ok0.out); have Xh0 := Lib.hid (Xhs.out.keep (hb.heap Xhs.out.lt hgn)); have yh00 := Xh0.out.cell 0; have hC1 := Lib.hid (ktext_any p.id Lh0.out (by have := HM.out; omega) HID.out); unfold Taking at hC1; rw [dd1] at hC1; clear hb hw)
          | (go_at_call 27; (with_reducible refine hC1.out.mono ?_); rintro e vh1 ⟨rfl, hb, hw⟩; have Bh1 := Lib.hid hb; have Lh1 := Lib.hid (hw Ok1.out); have Xh1 := Lib.hid (Xh0.out.keep (hb.heap Xh0.out.lt hgn)); have yh13 := Xh1.out.cell 3; have hC2 := Lib.hid (ktarget_any Lh1.out (by have := HM.out; omega) HR.out (H1.out.keep ((((Only.alloc g w (.cells #[.string p.id, .bool p.set, .int .i64 p.alg, .slice A1 n1 k1, .slice A2 n2 k2, .slice A3 n3 k3, .slice A4 n4 k4] 32)).trans Bh0.out).trans Bh1.out).kept HR.out) (fun _ h _ => h))); unfold Taking at hC2; rw [dd2] at hC2; clear hb hw)
          | (go_at_call 28; (with_reducible refine hC2.out.mono ?_); rintro e vh2 ⟨rfl, hb, hw⟩; have Bh2 := Lib.hid hb; clear hb hw))
        go_ret
        have hbad : ¬ cc ≤ m := by have := HC.out; have := Ok0.out; have := Ok1.out; have := No2.out; omega
        exact ⟨ret_bool (decide_eq_false hbad).symm, ((((Only.alloc g w (.cells #[.string p.id, .bool p.set, .int .i64 p.alg, .slice A1 n1 k1, .slice A2 n2 k2, .slice A3 n3 k3, .slice A4 n4 k4] 32)).trans Bh0.out).trans Bh1.out).trans Bh2.out), fun h => absurd h hbad⟩
    · have dd1 := decide_eq_false o1
      have No1 := Lib.hid o1
      clear o1
      go_enter Try.func15, Try.ntmps15
      go_wp2_with (first
        | (go_at_call 26; (with_reducible refine hC0.out.mono ?_); rintro e vh0 ⟨rfl, hb, hw⟩; have Bh0 := Lib.hid hb; have Lh0 := Lib.hid (hw Ok0.out); have Xh0 := Lib.hid (Xhs.out.keep (hb.heap Xhs.out.lt hgn)); have yh00 := Xh0.out.cell 0; have hC1 := Lib.hid (ktext_any p.id Lh0.out (by have := HM.out; omega) HID.out); unfold Taking at hC1; rw [dd1] at hC1; clear hb hw)
        | (go_at_call 27; (with_reducible refine hC1.out.mono ?_); rintro e vh1 ⟨rfl, hb, hw⟩; have Bh1 := Lib.hid hb; clear hb hw))
      go_ret
      have hbad : ¬ cc ≤ m := by have := HC.out; have := Ok0.out; have := No1.out; omega
      exact ⟨ret_bool (decide_eq_false hbad).symm, (((Only.alloc g w (.cells #[.string p.id, .bool p.set, .int .i64 p.alg, .slice A1 n1 k1, .slice A2 n2 k2, .slice A3 n3 k3, .slice A4 n4 k4] 32)).trans Bh0.out).trans Bh1.out), fun h => absurd h hbad⟩
  · rw [decide_eq_false o0] at hC0
    have No0 := Lib.hid o0
    clear o0
    go_enter Try.func15, Try.ntmps15
    go_wp2_with (first
      | (go_at_call 26; (with_reducible refine hC0.out.mono ?_); rintro e vh0 ⟨rfl, hb, hw⟩; have Bh0 := Lib.hid hb; clear hb hw))
    go_ret
    have hbad : ¬ cc ≤ m := by have := HC.out; have := No0.out; omega
    exact ⟨ret_bool (decide_eq_false hbad).symm, ((Only.alloc g w (.cells #[.string p.id, .bool p.set, .int .i64 p.alg, .slice A1 n1 k1, .slice A2 n2 k2, .slice A3 n3 k3, .slice A4 n4 k4] 32)).trans Bh0.out), fun h => absurd h hbad⟩
end Go.Proofs.Ytadjfkgnoklmiaa
/- The atoms of a small policy are short. -/
namespace Go.Proofs.Ytadjfkgnoklmiaa
set_option linter.unusedVariables false
open Go.RowKit

theorem textC_short {s : ByteArray} (h : textC s ≤ 3000) : s.size ≤ 1000000 := by unfold textC at h; omega
theorem short_tg {t : Tgt} (h : tgC t ≤ 3000) : ∀ x ∈ tgA t, ShortA x := by
  intro x hx
  obtain ⟨o, ho, hx⟩ := List.mem_flatMap.1 hx
  obtain ⟨a, ha, hx⟩ := List.mem_flatMap.1 hx
  obtain ⟨m, hm, rfl⟩ := List.mem_map.1 hx
  have h1 := sumC_mem (f := anyC) ho
  have h2 := sumC_mem (f := allC) ha
  have h3 := sumC_mem (f := matC) hm
  unfold tgC at h
  rw [show anyC o = 1 + o.length + sumC allC o from rfl] at h1
  rw [show allC a = 1 + a.length + sumC matC a from rfl] at h2
  rw [show matC m = textC m.a.name + textC m.v.s from rfl] at h3
  exact ⟨⟨textC_short (by show textC m.a.name ≤ 3000; omega), textC_short (by show textC m.v.s ≤ 3000; omega)⟩, by show ([] : List Nod).length ≤ 100000; simp, fun y hy => by cases hy⟩
theorem short_rule {r : Rul} (h : ruleC r ≤ 3000) : ∀ x ∈ rulA r, ShortA x := by
  intro x hx
  unfold ruleC at h
  rcases List.mem_append.1 hx with hx | hx
  · exact short_tg (by omega) x hx
  · unfold condA at hx
    split at hx
    · simp at hx
    · simp at hx
      subst hx
      refine ⟨⟨(show (ByteArray.empty).size ≤ 1000000 by decide +kernel), (show (ByteArray.empty).size ≤ 1000000 by decide +kernel)⟩, by show r.cond.length ≤ 100000; omega, fun y hy => ?_⟩
      have h1 := sumC_mem (f := nodC) (show y ∈ r.cond from hy)
      rw [show nodC y = textC y.a.name + textC y.v.s from rfl] at h1
      exact ⟨textC_short (by omega), textC_short (by omega)⟩
theorem short_pol {w : World} {R : Nat → Prop} : ∀ (d : Nat) {vs : List Value} {p : Pol}, PolAt w R d vs p → polC d p ≤ 3000 → ∀ x ∈ polA p, ShortA x
  | 0, _, _, h, _ => h.elim
  | d + 1, vs, p, h, hs => by
    obtain ⟨A1, n1, c1, A2, n2, c2, A3, n3, c3, A4, n4, c4, _, _, _, h1, h2, h3, h4⟩ := h
    rw [polC] at hs
    intro x hx
    rw [polA_eq] at hx
    rcases List.mem_append.1 hx with hx | hx
    · rcases List.mem_append.1 hx with hx | hx
      · exact short_tg (by omega) x hx
      · obtain ⟨r, hr, hx⟩ := List.mem_flatMap.1 hx
        have := sumC_mem (f := ruleC) hr
        exact short_rule (by omega) x hx
    · obtain ⟨k, hk, hx⟩ := List.mem_flatMap.1 hx
      have h5 := sumC_mem (f := polC d) hk
      obtain ⟨j, hj, rfl⟩ := List.getElem_of_mem hk
      obtain ⟨b, o, y, vs, _, _, _, hy, _, _, hp⟩ := Rw.at_ h3 (j := j) (by have := Rw.len h3; omega)
      rw [List.getElem?_eq_getElem hj] at hy
      obtain rfl := Option.some.inj hy
      exact short_pol d hp (by omega) x hx
theorem short_in {w : World} {R : Nat → Prop} {p : Pol} {A1 A2 A3 A4 : Option Addr} {n1 k1 n2 k2 n3 k3 n4 k4 m : Nat} (h : PolIn w R p A1 n1 k1 A2 n2 k2 A3 n3 k3 A4 n4 k4) (h3 : Pls w R m A3 n3 k3 p.kids) (hs : polC (m + 1) p ≤ 3000) : ∀ x ∈ polA p, ShortA x :=
  short_pol (m + 1) (vs := [.string p.id, .bool p.set, .int .i64 p.alg, .slice A1 n1 k1, .slice A2 n2 k2, .slice A3 n3 k3, .slice A4 n4 k4]) ⟨A1, n1, k1, A2, n2, k2, A3, n3, k3, A4, n4, k4, rfl, h.1.1, h.1.2, h.2.1, h.2.2.1, h3, h.2.2.2.2⟩ hs
theorem of_ok {p : Pol} (h : ofE p = 0) : rightE p = 0 ∧ (atomsP p).length ≤ 64 ∧ ofL p = atomsP p := by
  have hl : ofL p = atomsP p := by unfold ofL; rw [if_pos h]
  unfold ofE at h
  by_cases hr : rightE p = 0
  · rw [if_neg (by rw [hr]; simp)] at h
    by_cases hc : 64 < (gathP p).length
    · rw [if_pos hc] at h; cases h
    · exact ⟨hr, by rw [← gath_few (by omega)]; omega, hl⟩
  · rw [if_pos hr] at h; cases h
theorem of_is {p : Pol} (hr : rightE p = 0) (hl : (atomsP p).length ≤ 64) : ofE p = 0 := by
  unfold ofE
  rw [if_neg (by rw [hr]; simp), if_neg]
  rw [atoms_few hl]
  omega
end Go.Proofs.Ytadjfkgnoklmiaa
/- bailiffkeep: a target in new memory. -/
namespace Go.Proofs.Ytadjfkgnoklmiaa
set_option linter.unusedVariables false
open Go.RowKit

set_option maxRecDepth 100000 in
set_option maxHeartbeats 1600000 in
theorem ctarget_any {w : World} {R : Nat → Prop} {n c : Nat} {A : Option Addr} {l : Tgt} (hs : tgC l ≤ 3000) (h : Tg w R A n c l) :
    Calls Try.prog 19 #[.slice A n c] w fun e w' => ∃ A' c', e = .returned (.slice A' n c') ∧ Below w.heap.size w w' ∧ Tg w' (fun b => w.heap.size ≤ b) A' n c' l := by
  have hle := Rw.le h
  have hcap := Rw.cap h
  have HL := Lib.hid (Rw.len h)
  have hbig := Rw.big h
  have hcc : tgC l = 1 + n + sumC anyC l := by unfold tgC; rw [Rw.len h]
  have HC := Lib.hid (show 1 + n + sumC anyC l ≤ 3000 by omega)
  unfold maxLen at hcap
  have H := Lib.hid h
  clear h hs hcc
  go_enter Try.func19, Try.ntmps19
  go_wp2
  go_loopw [3, 11] (fun v i wr => ∃ (k : Nat) (A1 : Option Addr) (c1 : Nat), k ≤ n ∧ i = .int .i64 k ∧ v = .slice A1 k c1 ∧ Below w.heap.size w wr ∧ Gr 1 AnP wr w.heap.size 80 A1 k c1 (l.take k)) (fun v i _ => n - (intOf i).toNat)
  case atStart => exact ⟨0, none, 0, Nat.zero_le _, rfl, rfl, Below.refl _ _, Gr.nil _ _ (Nat.le_refl _)⟩
  case round =>
    obtain ⟨wo, hwo⟩ : ∃ wo, wo = wr := ⟨wr, rfl⟩
    subst hwo
    obtain ⟨k, A1, c1, hk, rfl, rfl, hb, hg⟩ := hrel
    have HB := Lib.hid hb
    have HG := Lib.hid hg
    clear hb hg
    by_cases hlt : k < n
    · obtain ⟨b, o, x, A', n', c', rfl, hRb, hbl, hx, c0, hin⟩ := (H.out.keep (Kept.all HB.out _) (fun _ h _ => h)).at_ hlt
      have HX := Lib.hid hx
      have hle' := Rw.le hin
      have hcap' := Rw.cap hin
      have hbig' := Rw.big hin
      have HL' := Lib.hid (Rw.len hin)
      have HIN := Lib.hid hin
      have hsx := sumC_le (f := anyC) hx
      have hex : anyC x = 1 + n' + sumC allC x := by unfold anyC; rw [Rw.len hin]
      have HEX := Lib.hid (show 1 + n' + sumC allC x ≤ 3000 by have := HC.out; omega)
      clear hx hin hsx hex
      unfold maxLen at hcap'
      go_wp2
      go_loopw [6, 17] (fun v i wq => ∃ (k2 : Nat) (A2 : Option Addr) (c2 : Nat), k2 ≤ n' ∧ i = .int .i64 k2 ∧ v = .slice A2 k2 c2 ∧ Below wo.heap.size wo wq ∧ Gr 1 AlP wq wo.heap.size 81 A2 k2 c2 (x.take k2)) (fun v i _ => n' - (intOf i).toNat)
      case atStart => exact ⟨0, none, 0, Nat.zero_le _, rfl, rfl, Below.refl _ _, Gr.nil _ _ (Nat.le_refl _)⟩
      case round =>
        obtain ⟨wq, hwq⟩ : ∃ wq, wq = wr := ⟨wr, rfl⟩
        subst hwq
        obtain ⟨k2, A2, c2, hk2, rfl, rfl, hb, hg⟩ := hrel
        have HB2 := Lib.hid hb
        have HG2 := Lib.hid hg
        clear hb hg
        by_cases hlt2 : k2 < n'
        · obtain ⟨b2, o2, y, A3, n3, c3, rfl, hRb2, hbl2, hy, d0, hin2⟩ := (HIN.out.keep (Kept.all HB2.out _) (fun _ h _ => h)).at_ hlt2
          have hsy := sumC_le (f := allC) hy
          have hey : allC y = 1 + n3 + sumC matC y := by unfold allC; rw [Rw.len hin2]
          have hle2 := Rw.le hin2
          have hcap2 := Rw.cap hin2
          obtain ⟨A5, c5, w5, r5, b5, o5⟩ := copy_mats hin2 (by have := HEX.out; omega)
          have h5 := Gr.below keeps_alp HG2.out b5
          obtain ⟨A6, c6, w6, r6, g6, b6⟩ := push_all h5 (o5.keep (Kept.refl _ _) (fun b hb _ => HG2.out.apart b hb)) (by have := HEX.out; omega)
          have HY := Lib.hid hy
          have R5 := Lib.hid r5
          have R6 := Lib.hid r6
          have G6 := Lib.hid g6
          have B6 := Lib.hid ((HB2.out.trans (b5.mono HB2.out.size)).trans b6)
          clear hin2 hy hsy hey r5 r6 g6 b6 h5 o5 b5
          go_wp2_with (first
            | (at_builtin; refine wpList_append_run (o := ⟨some 24, _, _, _, _, _⟩) rfl _ _ _ _ rfl rfl rfl R5.out ?_)
            | (at_builtin; refine wpList_append_run (o := ⟨some 26, _, _, _, _, _⟩) rfl _ _ _ _ rfl rfl rfl R6.out ?_))
          go_roundw
          case rel => exact ⟨k2 + 1, A6, c6, by omega, by go_num, rfl, B6.out, by rw [List.take_add_one, HY.out]; exact G6.out⟩
          case measure => simp [intOf]; omega
        · obtain rfl : k2 = n' := by omega
          obtain ⟨A6, c6, w6, r6, g6, b6⟩ := push_any (x := x) (Gr.below keeps_anp HG.out HB2.out) (A1 := A2) (n1 := k2) (c1 := c2) (by
            have hrw := Gr.rw keeps_alp HG2.out hbig'
            rw [List.take_of_length_le (Nat.le_of_eq HL'.out)] at hrw
            exact Als.keep (show Als wq (fun b => wo.heap.size ≤ b) A2 k2 c2 x from hrw) (Kept.refl _ _) (fun b hb _ => HG.out.apart b hb)) (by have := HC.out; omega)
          have R6 := Lib.hid r6
          have G6 := Lib.hid g6
          have B6 := Lib.hid ((HB.out.trans (HB2.out.mono HB.out.size)).trans b6)
          clear r6 g6 b6
          go_wp2_with (at_builtin; refine wpList_append_run (o := ⟨some 31, _, _, _, _, _⟩) rfl _ _ _ _ rfl rfl rfl R6.out ?_)
          go_roundw
          case rel => exact ⟨k + 1, A6, c6, by omega, by go_num, rfl, B6.out, by rw [List.take_add_one, HX.out]; exact G6.out⟩
          case measure => simp [intOf]; omega
    · obtain rfl : k = n := by omega
      go_wp2
      go_ret
      have hrw := Gr.rw keeps_anp HG.out hbig
      rw [List.take_of_length_le (Nat.le_of_eq HL.out)] at hrw
      exact ⟨A1, c1, rfl, HB.out, hrw⟩
end Go.Proofs.Ytadjfkgnoklmiaa
/- bailiffkeep.Small: is a policy one that may be gone through in a while? -/
namespace Go.Proofs.Ytadjfkgnoklmiaa
set_option linter.unusedVariables false
open Go.RowKit

theorem kok_all : ∀ d, KOk d
  | 0 => kpol_step 0 fun d' h => by omega
  | d + 1 => kpol_step (d + 1) fun d' h => by
    obtain rfl : d' = d := by omega
    exact kok_all d'

set_option maxRecDepth 100000 in
theorem small_pol {w : World} {R : Nat → Prop} {d : Nat} {p : Pol} {A1 A2 A3 A4 : Option Addr} {n1 k1 n2 k2 n3 k3 n4 k4 : Nat} (hid : p.id.size ≤ maxLen) (h1 : Tg w R A1 n1 k1 p.tg) (h2 : Rus w R A2 n2 k2 p.rules) (h3 : Pls w R d A3 n3 k3 p.kids) (h4 : Dus w R A4 n4 k4 p.ob) :
    Calls Try.prog 8 #[.agg #[.string p.id, .bool p.set, .int .i64 p.alg, .slice A1 n1 k1, .slice A2 n2 k2, .slice A3 n3 k3, .slice A4 n4 k4]] w
      fun e w' => e = .returned (.bool (decide (polC (d + 1) p ≤ 3000))) ∧ Below w.heap.size w w' := by
  have hb0 : Below w.heap.size w ((w.alloc (.cells #[.string p.id, .bool p.set, .int .i64 p.alg, .slice A1 n1 k1, .slice A2 n2 k2, .slice A3 n3 k3, .slice A4 n4 k4] 32)).alloc (.cells #[.int .i64 3000] 59)) :=
    ((Below.refl _ _).alloc (Nat.le_refl _) _).alloc (by simp) _
  have hl : Lf ((w.alloc (.cells #[.string p.id, .bool p.set, .int .i64 p.alg, .slice A1 n1 k1, .slice A2 n2 k2, .slice A3 n3 k3, .slice A4 n4 k4] 32)).alloc (.cells #[.int .i64 3000] 59)) (w.heap.size + 1) 3000 := by
    have := Ob.made (w.alloc (.cells #[.string p.id, .bool p.set, .int .i64 p.alg, .slice A1 n1 k1, .slice A2 n2 k2, .slice A3 n3 k3, .slice A4 n4 k4] 32)) 59 #[.int .i64 3000]
    rwa [size_al] at this
  have hk := Kept.all hb0 R
  have HC := kok_all d (R := fun b => b < w.heap.size) hl (Nat.le_refl _) (fun b hb => by omega) hid (h1.keep hk (fun b _ hb => hb)) (h2.keep hk (fun b _ hb => hb)) (h3.keep hk (fun b _ hb => hb)) (h4.keep hk (fun b _ hb => hb))
  unfold Taking at HC
  have HCC := Lib.hid HC
  have HB0 := Lib.hid hb0
  clear HC hk hl hb0 h1 h2 h3 h4
  go_enter Try.func8, Try.ntmps8
  go_wp2_with (go_at_call 15; refine HCC.out.mono ?_; rintro e w1 ⟨rfl, hb, hw⟩)
  go_ret
  exact ⟨rfl, HB0.out.trans (hb.below (by simp only [size_al]; omega) (by omega))⟩
theorem small_tg {d : Nat} {p : Pol} (h : polC (d + 1) p ≤ 3000) : tgC p.tg ≤ 3000 := by
  unfold polC at h; omega
end Go.Proofs.Ytadjfkgnoklmiaa
/- bailiffkeep: a policy in new memory. -/
namespace Go.Proofs.Ytadjfkgnoklmiaa
set_option linter.unusedVariables false
open Go.RowKit

theorem dutsC_len {l : List Dut} : l.length ≤ dutsC l := by unfold dutsC; omega
theorem copy_r1 {w w5 : World} {p : Pol} {A1 A2 A3 A4 B1 B4 : Option Addr} {n1 n2 n3 n4 k1 k2 k3 k4 d1 d4 : Nat} (h0 : Below w.heap.size w w5) (ob : Ob w5 w.heap.size 32 #[.string p.id, .bool p.set, .int .i64 p.alg, .slice A1 n1 k1, .slice A2 n2 k2, .slice A3 n3 k3, .slice A4 n4 k4]) (oz : Ob w5 (w.heap.size + 1) 32 #[.string ⟨#[]⟩, .bool false, .int .i64 0, .slice none 0 0, .slice none 0 0, .slice none 0 0, .slice none 0 0])
    (t : Tg w5 (fun b => w.heap.size + 2 ≤ b) B1 n1 d1 p.tg) (u : Dus w5 (fun b => w.heap.size + 2 ≤ b) B4 n4 d4 p.ob) :
    ∃ B1' d1' B4' d4', Ob ((w5.setCell ⟨w.heap.size, 3, none⟩ (.slice B1 n1 d1)).setCell ⟨w.heap.size, 6, none⟩ (.slice B4 n4 d4)) w.heap.size 32 #[.string p.id, .bool p.set, .int .i64 p.alg, .slice B1' n1 d1', .slice A2 n2 k2, .slice A3 n3 k3, .slice B4' n4 d4'] ∧
      Ob ((w5.setCell ⟨w.heap.size, 3, none⟩ (.slice B1 n1 d1)).setCell ⟨w.heap.size, 6, none⟩ (.slice B4 n4 d4)) (w.heap.size + 1) 32 #[.string ⟨#[]⟩, .bool false, .int .i64 0, .slice none 0 0, .slice none 0 0, .slice none 0 0, .slice none 0 0] ∧ Below w.heap.size w ((w5.setCell ⟨w.heap.size, 3, none⟩ (.slice B1 n1 d1)).setCell ⟨w.heap.size, 6, none⟩ (.slice B4 n4 d4)) ∧
      Tg ((w5.setCell ⟨w.heap.size, 3, none⟩ (.slice B1 n1 d1)).setCell ⟨w.heap.size, 6, none⟩ (.slice B4 n4 d4)) (fun b => w.heap.size + 2 ≤ b) B1' n1 d1' p.tg ∧ Dus ((w5.setCell ⟨w.heap.size, 3, none⟩ (.slice B1 n1 d1)).setCell ⟨w.heap.size, 6, none⟩ (.slice B4 n4 d4)) (fun b => w.heap.size + 2 ≤ b) B4' n4 d4' p.ob := by
  have o : Only w.heap.size w5 ((w5.setCell ⟨w.heap.size, 3, none⟩ (.slice B1 n1 d1)).setCell ⟨w.heap.size, 6, none⟩ (.slice B4 n4 d4)) := (Only.refl.setCell (p := ⟨w.heap.size, 3, none⟩) rfl _).setCell (p := ⟨w.heap.size, 6, none⟩) rfl _
  have hk := o.kept (R := fun b => w.heap.size + 2 ≤ b) (fun b hb => by omega)
  refine ⟨B1, d1, B4, d4, ?_, oz.keep (o.heap oz.lt (by omega)), (h0.setCell (p := ⟨w.heap.size, 3, none⟩) (Nat.le_refl _) _).setCell (p := ⟨w.heap.size, 6, none⟩) (Nat.le_refl _) _, t.keep hk (fun _ h _ => h), u.keep hk (fun _ h _ => h)⟩
  have := (ob.put 3 (.slice B1 n1 d1)).put 6 (.slice B4 n4 d4)
  simpa using this

theorem copy_r6 {wr w5 : World} {r : Rul} {A5 A6 A7 B1 B2 B3 : Option Addr} {m1 m2 m3 c5 c6 c7 e1 e2 e3 : Nat} (h0 : Below wr.heap.size wr w5) (ob : Ob w5 wr.heap.size 51 #[.string r.id, .bool r.deny, .slice A5 m1 c5, .slice A6 m2 c6, .slice A7 m3 c7])
    (t : Tg w5 (fun b => wr.heap.size + 1 ≤ b) B1 m1 e1 r.tg) (u : Nds w5 (fun b => wr.heap.size + 1 ≤ b) B2 m2 e2 r.cond) (v : Dus w5 (fun b => wr.heap.size + 1 ≤ b) B3 m3 e3 r.ob) :
    ∃ B1' e1' B2' e2' B3' e3', Ob (((w5.setCell ⟨wr.heap.size, 2, none⟩ (.slice B1 m1 e1)).setCell ⟨wr.heap.size, 3, none⟩ (.slice B2 m2 e2)).setCell ⟨wr.heap.size, 4, none⟩ (.slice B3 m3 e3)) wr.heap.size 51 #[.string r.id, .bool r.deny, .slice B1' m1 e1', .slice B2' m2 e2', .slice B3' m3 e3'] ∧ Below wr.heap.size wr (((w5.setCell ⟨wr.heap.size, 2, none⟩ (.slice B1 m1 e1)).setCell ⟨wr.heap.size, 3, none⟩ (.slice B2 m2 e2)).setCell ⟨wr.heap.size, 4, none⟩ (.slice B3 m3 e3)) ∧
      Tg (((w5.setCell ⟨wr.heap.size, 2, none⟩ (.slice B1 m1 e1)).setCell ⟨wr.heap.size, 3, none⟩ (.slice B2 m2 e2)).setCell ⟨wr.heap.size, 4, none⟩ (.slice B3 m3 e3)) (fun b => wr.heap.size + 1 ≤ b) B1' m1 e1' r.tg ∧ Nds (((w5.setCell ⟨wr.heap.size, 2, none⟩ (.slice B1 m1 e1)).setCell ⟨wr.heap.size, 3, none⟩ (.slice B2 m2 e2)).setCell ⟨wr.heap.size, 4, none⟩ (.slice B3 m3 e3)) (fun b => wr.heap.size + 1 ≤ b) B2' m2 e2' r.cond ∧ Dus (((w5.setCell ⟨wr.heap.size, 2, none⟩ (.slice B1 m1 e1)).setCell ⟨wr.heap.size, 3, none⟩ (.slice B2 m2 e2)).setCell ⟨wr.heap.size, 4, none⟩ (.slice B3 m3 e3)) (fun b => wr.heap.size + 1 ≤ b) B3' m3 e3' r.ob := by
  have o : Only wr.heap.size w5 (((w5.setCell ⟨wr.heap.size, 2, none⟩ (.slice B1 m1 e1)).setCell ⟨wr.heap.size, 3, none⟩ (.slice B2 m2 e2)).setCell ⟨wr.heap.size, 4, none⟩ (.slice B3 m3 e3)) := ((Only.refl.setCell (p := ⟨wr.heap.size, 2, none⟩) rfl _).setCell (p := ⟨wr.heap.size, 3, none⟩) rfl _).setCell (p := ⟨wr.heap.size, 4, none⟩) rfl _
  have hk := o.kept (R := fun b => wr.heap.size + 1 ≤ b) (fun b hb => by omega)
  refine ⟨B1, e1, B2, e2, B3, e3, ?_, ((h0.setCell (p := ⟨wr.heap.size, 2, none⟩) (Nat.le_refl _) _).setCell (p := ⟨wr.heap.size, 3, none⟩) (Nat.le_refl _) _).setCell (p := ⟨wr.heap.size, 4, none⟩) (Nat.le_refl _) _, t.keep hk (fun _ h _ => h), u.keep hk (fun _ h _ => h), v.keep hk (fun _ h _ => h)⟩
  have := ((ob.put 2 (.slice B1 m1 e1)).put 3 (.slice B2 m2 e2)).put 4 (.slice B3 m3 e3)
  simpa using this
theorem sumC_len {α : Type} {f : α → Nat} (hf : ∀ x, 1 ≤ f x) : ∀ l : List α, l.length ≤ sumC f l
  | [] => Nat.zero_le _
  | x :: l => by
    have := sumC_len hf l
    have := hf x
    rw [List.length_cons]
    show _ ≤ f x + sumC f l
    omega
theorem kids_len {w : World} {R : Nat → Prop} {d n c : Nat} {A : Option Addr} {l : List Pol} (h : Pls w R d A n c l) : n ≤ sumC (polC d) l := by
  match d, h with
  | 0, h =>
    rcases Nat.eq_zero_or_pos n with h0 | h0
    · omega
    · obtain ⟨_, _, _, _, _, _, _, _, _, _, hp⟩ := Rw.at_ h h0
      exact hp.elim
  | d + 1, h =>
    rw [← Rw.len h]
    exact sumC_len (fun x => by unfold polC; omega) l
def CopyTo (w w' : World) (d : Nat) (p : Pol) (B1 : Option Addr) (n1 d1 : Nat) (B2 : Option Addr) (n2 d2 : Nat) (B3 : Option Addr) (n3 d3 : Nat) (B4 : Option Addr) (n4 d4 : Nat) : Prop :=
  ∃ s1 s2, w.heap.size ≤ s1 ∧ s1 ≤ s2 ∧ s2 ≤ w'.heap.size ∧ Tg w' (fun b => w.heap.size ≤ b ∧ b < s1) B1 n1 d1 p.tg ∧ Dus w' (fun b => w.heap.size ≤ b ∧ b < s1) B4 n4 d4 p.ob ∧
    Ow 5 (RulAt w' (fun b => Nb s1 (.slice B2 n2 d2) b ∧ b < s2)) w' s1 51 B2 n2 d2 p.rules ∧ (∀ b, (Value.slice B2 n2 d2).ownBlock = some b → b < s2) ∧ Gr 7 (fun w R => PolAt w R d) w' s2 32 B3 n3 d3 p.kids
theorem CopyTo.at_ {w w' : World} {d : Nat} {p : Pol} {B1 B2 B3 B4 : Option Addr} {n1 n2 n3 n4 d1 d2 d3 d4 : Nat} (h : CopyTo w w' d p B1 n1 d1 B2 n2 d2 B3 n3 d3 B4 n4 d4) (hid : p.id.size ≤ maxLen) (ha : InI p.alg) (hn2 : n2 ≤ 3000) (hn3 : n3 ≤ 3000) :
    PolAt w' (fun b => w.heap.size ≤ b) (d + 1) [.string p.id, .bool p.set, .int .i64 p.alg, .slice B1 n1 d1, .slice B2 n2 d2, .slice B3 n3 d3, .slice B4 n4 d4] p := by
  obtain ⟨s1, s2, l1, l2, l3, ht, hd, hr, hl, hk⟩ := h
  refine ⟨B1, n1, d1, B2, n2, d2, B3, n3, d3, B4, n4, d4, rfl, hid, ha, ht.keep (Kept.refl _ _) (fun b hb _ => hb.1), ?_, ?_, hd.keep (Kept.refl _ _) (fun b hb _ => hb.1)⟩
  · have := (hr.mapP (P' := RulAt w' (fun b => s1 ≤ b)) (fun vs x _ h => h.keep (Kept.refl _ _) (fun b hb _ => hb.1.1))).rw (by omega) (R := fun b => s1 ≤ b) (fun _ _ h => h)
    exact Rus.keep this (Kept.refl _ _) (fun b hb _ => Nat.le_trans l1 hb)
  · have := Gr.rw (keeps_pol d) hk (by omega)
    exact Pls.keep this (Kept.refl _ _) (fun b hb _ => Nat.le_trans (Nat.le_trans l1 l2) hb)
def CpOk (d : Nat) : Prop := ∀ {w : World} {R : Nat → Prop} {p : Pol} {A1 A2 A3 A4 : Option Addr} {n1 n2 n3 n4 k1 k2 k3 k4 : Nat}, polC (d + 1) p ≤ 3000 → p.id.size ≤ maxLen → InI p.alg → Tg w R A1 n1 k1 p.tg → Rus w R A2 n2 k2 p.rules → Pls w R d A3 n3 k3 p.kids → Dus w R A4 n4 k4 p.ob →
    Calls Try.prog 10 #[.agg #[.string p.id, .bool p.set, .int .i64 p.alg, .slice A1 n1 k1, .slice A2 n2 k2, .slice A3 n3 k3, .slice A4 n4 k4]] w
      fun e w' => ∃ B1 d1 B2 d2 B3 d3 B4 d4, e = .returned (.agg #[.string p.id, .bool p.set, .int .i64 p.alg, .slice B1 n1 d1, .slice B2 n2 d2, .slice B3 n3 d3, .slice B4 n4 d4]) ∧ Below w.heap.size w w' ∧ CopyTo w w' d p B1 n1 d1 B2 n2 d2 B3 n3 d3 B4 n4 d4
theorem copy_end {w wa wb wr Wf W9 : World} {d : Nat} {p : Pol} {B1 B2 B3 B4 : Option Addr} {n1 n2 n3 n4 d1 d2 d3 d4 : Nat} (ha : Below w.heap.size w wa) (hab : Below wa.heap.size wa wb) (hbr : Below wb.heap.size wb wr) (hlt : w.heap.size + 2 ≤ wa.heap.size)
    (o1 : Only w.heap.size wr W9) (o2 : Only (w.heap.size + 1) W9 Wf) (t : Tg wa (fun b => w.heap.size + 2 ≤ b) B1 n1 d1 p.tg) (u : Dus wa (fun b => w.heap.size + 2 ≤ b) B4 n4 d4 p.ob) (hr : Gr 5 RulAt wb wa.heap.size 51 B2 n2 d2 p.rules) (hk : Gr 7 (fun w R => PolAt w R d) wr wb.heap.size 32 B3 n3 d3 p.kids) :
    Below w.heap.size w Wf ∧ CopyTo w Wf d p B1 n1 d1 B2 n2 d2 B3 n3 d3 B4 n4 d4 := by
  have har : Below wa.heap.size wa wr := hab.trans (hbr.mono hab.size)
  have hs9 := o1.size
  have hsf := o2.size
  have hwr : Below w.heap.size w wr := ha.trans (har.mono ha.size)
  have b9 : Below w.heap.size wr Wf := by
    refine ⟨o2.os.trans o1.os, o2.tape.trans o1.tape, o2.output.trans o1.output, by omega, fun k hk => (o2.heap (k := k) (by have := hwr.size; omega) (by omega)).trans (o1.heap (k := k) (by have := hwr.size; omega) (by omega))⟩
  have kp : ∀ {R : Nat → Prop}, (∀ b, R b → w.heap.size + 2 ≤ b) → Kept R wr Wf := fun {R} h => (o1.kept (fun b hb => by have := h b hb; omega)).trans (o2.kept (fun b hb => by have := h b hb; omega))
  refine ⟨hwr.trans b9, wa.heap.size, wb.heap.size, ha.size, hab.size, by have := hbr.size; omega, ?_, ?_, ?_, fun b e => (hr.1.lt b e).2, ?_⟩
  · exact (t.keep (Kept.all har _) (R' := fun b => w.heap.size + 2 ≤ b ∧ b < wa.heap.size) (fun b hb hlt => ⟨hb, hlt⟩)).keep (kp (fun b hb => hb.1)) (fun b hb _ => ⟨by have := hb.1; omega, hb.2⟩)
  · exact (u.keep (Kept.all har _) (R' := fun b => w.heap.size + 2 ≤ b ∧ b < wa.heap.size) (fun b hb hlt => ⟨hb, hlt⟩)).keep (kp (fun b hb => hb.1)) (fun b hb _ => ⟨by have := hb.1; omega, hb.2⟩)
  · have e1 := (hr.1.mapP (P' := RulAt Wf (fun b => Nb wa.heap.size (.slice B2 n2 d2) b ∧ b < wb.heap.size)) (fun vs x _ h => ((h.keep (Kept.all hbr _) (R' := fun b => Nb wa.heap.size (.slice B2 n2 d2) b ∧ b < wb.heap.size) (fun b hb hlt => ⟨hb, hlt⟩)).keep (kp (fun b hb => Nat.le_trans hlt hb.1.1)) (fun _ h _ => h)))).below hbr
    exact (e1.only o1 (by omega)).only o2 (by omega)
  · exact ((Gr.only (keeps_pol d) hk o1 (by have := hab.size; omega)).only (keeps_pol d) o2 (by have := hab.size; omega))
set_option maxRecDepth 100000 in
set_option maxHeartbeats 3200000 in
theorem copy_step (d : Nat) (IH : ∀ d', d = d' + 1 → CpOk d') : CpOk d := by
  intro w R p A1 A2 A3 A4 n1 n2 n3 n4 k1 k2 k3 k4 hs hid halg h1 h2 h3 h4
  have hst := small_tg hs
  have hn4 : n4 ≤ 3000 := by
    have := Rw.len h4
    have := dutsC_len (l := p.ob)
    unfold polC at hs
    omega
  have T1 := Lib.hid h1
  have T4 := Lib.hid h4
  have CT : Hid (∀ V : World, Below w.heap.size w V → Calls Try.prog 19 #[.slice A1 n1 k1] V fun e w' => ∃ A' c', e = .returned (.slice A' n1 c') ∧ Below V.heap.size V w' ∧ Tg w' (fun b => V.heap.size ≤ b) A' n1 c' p.tg) :=
    fun V hV => ctarget_any hst (h1.keep (Kept.all hV _) (fun _ h _ => h))
  have BW : Below w.heap.size w ((w.alloc (.cells #[.string p.id, .bool p.set, .int .i64 p.alg, .slice A1 n1 k1, .slice A2 n2 k2, .slice A3 n3 k3, .slice A4 n4 k4] 32)).alloc (.cells #[.string ⟨#[]⟩, .bool false, .int .i64 0, .slice none 0 0, .slice none 0 0, .slice none 0 0, .slice none 0 0] 32)) := ((Below.refl _ _).alloc (Nat.le_refl _) _).alloc (by rw [size_al]; omega) _
  have OB : Ob ((w.alloc (.cells #[.string p.id, .bool p.set, .int .i64 p.alg, .slice A1 n1 k1, .slice A2 n2 k2, .slice A3 n3 k3, .slice A4 n4 k4] 32)).alloc (.cells #[.string ⟨#[]⟩, .bool false, .int .i64 0, .slice none 0 0, .slice none 0 0, .slice none 0 0, .slice none 0 0] 32)) w.heap.size 32 #[.string p.id, .bool p.set, .int .i64 p.alg, .slice A1 n1 k1, .slice A2 n2 k2, .slice A3 n3 k3, .slice A4 n4 k4] :=
    (Ob.made w _ _).below (B := w.heap.size + 1) ((Below.refl _ _).alloc (by rw [size_al]; omega) _) (by omega)
  have OZ : Ob ((w.alloc (.cells #[.string p.id, .bool p.set, .int .i64 p.alg, .slice A1 n1 k1, .slice A2 n2 k2, .slice A3 n3 k3, .slice A4 n4 k4] 32)).alloc (.cells #[.string ⟨#[]⟩, .bool false, .int .i64 0, .slice none 0 0, .slice none 0 0, .slice none 0 0, .slice none 0 0] 32)) (w.heap.size + 1) 32 #[.string ⟨#[]⟩, .bool false, .int .i64 0, .slice none 0 0, .slice none 0 0, .slice none 0 0, .slice none 0 0] := by
    have := Ob.made (w.alloc (.cells #[.string p.id, .bool p.set, .int .i64 p.alg, .slice A1 n1 k1, .slice A2 n2 k2, .slice A3 n3 k3, .slice A4 n4 k4] 32)) 32 #[.string ⟨#[]⟩, .bool false, .int .i64 0, .slice none 0 0, .slice none 0 0, .slice none 0 0, .slice none 0 0]
    rwa [size_al] at this
  have SZ : ((w.alloc (.cells #[.string p.id, .bool p.set, .int .i64 p.alg, .slice A1 n1 k1, .slice A2 n2 k2, .slice A3 n3 k3, .slice A4 n4 k4] 32)).alloc (.cells #[.string ⟨#[]⟩, .bool false, .int .i64 0, .slice none 0 0, .slice none 0 0, .slice none 0 0, .slice none 0 0] 32)).heap.size = w.heap.size + 2 := by simp
  clear h1 h4
  go_enter Try.func10, Try.ntmps10
  go_wp2_with fail
  generalize (w.alloc (.cells #[.string p.id, .bool p.set, .int .i64 p.alg, .slice A1 n1 k1, .slice A2 n2 k2, .slice A3 n3 k3, .slice A4 n4 k4] 32)).alloc (.cells #[.string ⟨#[]⟩, .bool false, .int .i64 0, .slice none 0 0, .slice none 0 0, .slice none 0 0, .slice none 0 0] 32) = W0 at *
  have KO : Hid (∀ V : World, Below (w.heap.size + 2) W0 V → Ob V w.heap.size 32 #[.string p.id, .bool p.set, .int .i64 p.alg, .slice A1 n1 k1, .slice A2 n2 k2, .slice A3 n3 k3, .slice A4 n4 k4] ∧ Ob V (w.heap.size + 1) 32 #[.string ⟨#[]⟩, .bool false, .int .i64 0, .slice none 0 0, .slice none 0 0, .slice none 0 0, .slice none 0 0] ∧ Below w.heap.size w V) := fun V hV => ⟨OB.below hV (by omega), OZ.below hV (by omega), BW.trans (hV.mono (by omega))⟩
  have KS : Hid (∀ V : World, Below (w.heap.size + 2) W0 V → V.cell? ⟨w.heap.size, 3, none⟩ = some (.slice A1 n1 k1) ∧ V.cell? ⟨w.heap.size, 6, none⟩ = some (.slice A4 n4 k4)) :=
    fun V hV => ⟨(hV.cell (by show w.heap.size < _; omega)).trans (OB.cell 3), (hV.cell (by show w.heap.size < _; omega)).trans (OB.cell 6)⟩
  have HOB := Lib.hid OB
  have HOZ := Lib.hid OZ
  have HSZ := Lib.hid SZ
  have HBW := Lib.hid BW
  clear OB OZ SZ BW
  go_cut [] from 9 to 17 (fun wx => ∃ B1 d1 B4 d4, Ob wx w.heap.size 32 #[.string p.id, .bool p.set, .int .i64 p.alg, .slice B1 n1 d1, .slice A2 n2 k2, .slice A3 n3 k3, .slice B4 n4 d4] ∧ Ob wx (w.heap.size + 1) 32 #[.string ⟨#[]⟩, .bool false, .int .i64 0, .slice none 0 0, .slice none 0 0, .slice none 0 0, .slice none 0 0] ∧ Below w.heap.size w wx ∧
    Tg wx (fun b => w.heap.size + 2 ≤ b) B1 n1 d1 p.tg ∧ Dus wx (fun b => w.heap.size + 2 ≤ b) B4 n4 d4 p.ob)
  case first =>
    refine wp_region_held_tail (fun w' => Below (w.heap.size + 2) W0 w') 8 (by kernel_rfl) (by kernel_rfl) ?_
    intro G
    change HeadW _ _ _ _ _ _ _ _ _ _ (W0.drewN 1)
    have S0 := Lib.hid (below_drewN (Below.refl (w.heap.size + 2) W0) 1)
    refine HeadW_take (i := 0) (v := ?_) G rfl (by kernel_rfl) (by kernel_rfl) (by kernel_rfl) (fun _ _ _ h => h) (Or.inl ⟨by rfl, ?_⟩) S0.out ?_
    rotate_left
    · intro w hS
      go_simp
      try with_reducible rfl
    refine HeadW_take (i := 1) (v := ?_) G rfl (by kernel_rfl) (by kernel_rfl) (by kernel_rfl) (fun _ _ _ h => h) (Or.inl ⟨by rfl, ?_⟩) S0.out ?_
    rotate_left
    · intro w hS
      have hk := KS.out _ hS
      have hk1 := hk.1
      go_simp
      try with_reducible rfl
    refine HeadW_take (i := 4) (v := ?_) G rfl (by kernel_rfl) (by kernel_rfl) (by kernel_rfl) (fun _ _ _ h => h) (Or.inl ⟨by rfl, ?_⟩) S0.out ?_
    rotate_left
    · intro w hS
      go_simp
      try with_reducible rfl
    refine HeadW_take (i := 5) (v := ?_) G rfl (by kernel_rfl) (by kernel_rfl) (by kernel_rfl) (fun _ _ _ h => h) (Or.inl ⟨by rfl, ?_⟩) S0.out ?_
    rotate_left
    · intro w hS
      have hk := KS.out _ hS
      have hk2 := hk.2
      go_simp
      try with_reducible rfl
    refine HeadW_ready (rs := [2, 3]) (by kernel_rfl) rfl rfl ?_
    refine AllW.cons rfl (fun K hK => ?_) (AllW.cons rfl (fun K hK => ?_) AllW.nil)
    · go_simp
      refine (CT.out _ (HBW.out.trans ((below_drewN (Below.refl W0.heap.size W0) 1).mono (by have := HSZ.out; omega)))).mono ?_
      rintro e w1 ⟨B1, d1, rfl, hb, ht⟩
      have SV := Lib.hid (S0.out.trans (hb.mono (by show _ ≤ W0.heap.size; have := HSZ.out; omega)))
      have LT : w.heap.size + 2 ≤ w1.heap.size := by have := SV.out.size; have := HSZ.out; omega
      refine hK _ _ SV.out ?_
      clear hK K
      refine HeadW_take (i := 7) (v := ?_) G rfl (by kernel_rfl) (by kernel_rfl) (by kernel_rfl) (fun _ _ _ h => h) (Or.inl ⟨by rfl, ?_⟩) SV.out ?_
      rotate_left
      · intro w hS
        go_simp
        try with_reducible rfl
      refine HeadW_ready (rs := [3]) (by kernel_rfl) rfl rfl ?_
      refine AllW.cons rfl (fun K hK => ?_) AllW.nil
      go_simp
      refine hK _ _ (SV.out.alloc (by have := HSZ.out; omega) _) ?_
      clear hK K
      have S2 := Lib.hid (SV.out.alloc LT (.cells #[] 105))
      have T2 := Lib.hid (ht.keep (Kept.all ((Below.refl _ _).alloc (Nat.le_refl _) (.cells #[] 105)) _) (fun _ h _ => h))
      obtain ⟨A5, c5, w5, r5, b5, o5, q5⟩ := copy_duts_at (Ob.made w1 105 #[]) (T4.out.keep (Kept.all (HBW.out.trans (S2.out.mono (by omega))) _) (fun _ h _ => h)) (by omega) (by simp)
      refine HeadW_ready (rs := [6]) (by kernel_rfl) rfl rfl ?_
      refine AllW.cons rfl (fun K hK => ?_) AllW.nil
      refine step_append_run rfl (.tmp 12) (.tmp 14) _ _ rfl (by first | rfl | simp [Act.eval]) (by first | rfl | simp [Act.eval]) r5 ?_
      have S3 := Lib.hid (S2.out.trans (b5.mono LT))
      refine hK _ _ S3.out ?_
      clear hK K
      have T5 : Hid (Tg w5 (fun b => w.heap.size + 2 ≤ b) B1 n1 d1 p.tg) := Lib.hid (ht.keep (Kept.all (((Below.refl w1.heap.size w1).alloc (Nat.le_refl _) (.cells #[] 105)).trans b5) _) (fun b hb _ => by have h : W0.heap.size ≤ b := hb; have := HSZ.out; omega))
      have D5 := Lib.hid (o5.keep (Kept.refl _ _) (R' := fun b => w.heap.size + 2 ≤ b) (fun b hb _ => by have h : b = w1.heap.size ∨ b = (w1.alloc (.cells #[] 105)).heap.size := hb; rw [size_al] at h; have := HSZ.out; show _ ≤ b; omega))
      intro _
      refine ⟨by kernel_rfl, ?_⟩
      simp only [List.drop_succ_cons, List.drop_zero]
      obtain ⟨o5, z5, e5⟩ := KO.out _ S3.out
      have f1 := o5.frozen 3
      have f2 := (o5.put 3 (.slice B1 n1 d1)).frozen 6
      have f3 := o5.cell 3
      have f4 := (o5.put 3 (.slice B1 n1 d1)).cell 6
      have HRel := Lib.hid (copy_r1 e5 o5 z5 T5.out D5.out)
      clear o5 z5 e5
      go_wp2_with fail
      go_meet
      case rel => exact HRel.out
    · go_simp
      have SA := Lib.hid (S0.out.alloc (by show _ ≤ W0.heap.size; have := HSZ.out; omega) (.cells #[] 105))
      refine hK _ _ SA.out ?_
      clear hK K
      refine HeadW_ready (rs := [2]) (by kernel_rfl) rfl rfl ?_
      refine AllW.cons rfl (fun K hK => ?_) AllW.nil
      go_simp
      refine (CT.out _ (HBW.out.trans (SA.out.mono (by omega)))).mono ?_
      rintro e w1 ⟨B1, d1, rfl, hb, ht⟩
      have SV := Lib.hid (SA.out.trans (hb.mono (by rw [size_al]; show _ ≤ W0.heap.size + 1; have := HSZ.out; omega)))
      have LT : W0.heap.size + 1 ≤ w1.heap.size := by have := hb.size; rwa [size_al] at this
      have OE : Ob w1 W0.heap.size 105 #[] := (Ob.made (W0.drewN 1) 105 #[]).below hb (by rw [size_al]; show W0.heap.size < W0.heap.size + 1; omega)
      refine hK _ _ SV.out ?_
      clear hK K
      refine HeadW_take (i := 7) (v := ?_) G rfl (by kernel_rfl) (by kernel_rfl) (by kernel_rfl) (fun _ _ _ h => h) (Or.inl ⟨by rfl, ?_⟩) SV.out ?_
      rotate_left
      · intro w hS
        go_simp
        try with_reducible rfl
      obtain ⟨A5, c5, w5, r5, b5, o5, q5⟩ := copy_duts_at OE (T4.out.keep (Kept.all (HBW.out.trans (SV.out.mono (by omega))) _) (fun _ h _ => h)) (by omega) (by omega)
      refine HeadW_ready (rs := [6]) (by kernel_rfl) rfl rfl ?_
      refine AllW.cons rfl (fun K hK => ?_) AllW.nil
      refine step_append_run rfl (.tmp 12) (.tmp 14) _ _ rfl (by first | rfl | simp [Act.eval]) (by first | rfl | simp [Act.eval]) r5 ?_
      have S3 := Lib.hid (SV.out.trans (b5.mono (by have := HSZ.out; omega)))
      refine hK _ _ S3.out ?_
      clear hK K
      have T5 : Hid (Tg w5 (fun b => w.heap.size + 2 ≤ b) B1 n1 d1 p.tg) := Lib.hid (ht.keep (Kept.below_ q5 (fun b hb => by have h : ((W0.drewN 1).alloc (.cells #[] 105)).heap.size ≤ b := hb; rw [size_al] at h; have h : W0.heap.size + 1 ≤ b := h; show b ≠ W0.heap.size; omega)) (fun b hb _ => by have h : ((W0.drewN 1).alloc (.cells #[] 105)).heap.size ≤ b := hb; rw [size_al] at h; have h : W0.heap.size + 1 ≤ b := h; have := HSZ.out; show _ ≤ b; omega))
      have D5 := Lib.hid (o5.keep (Kept.refl _ _) (R' := fun b => w.heap.size + 2 ≤ b) (fun b hb _ => by have h : b = _ ∨ b = _ := hb; have := HSZ.out; show _ ≤ b; omega))
      intro _
      refine ⟨by kernel_rfl, ?_⟩
      simp only [List.drop_succ_cons, List.drop_zero]
      obtain ⟨o5, z5, e5⟩ := KO.out _ S3.out
      have f1 := o5.frozen 3
      have f2 := (o5.put 3 (.slice B1 n1 d1)).frozen 6
      have f3 := o5.cell 3
      have f4 := (o5.put 3 (.slice B1 n1 d1)).cell 6
      have HRel := Lib.hid (copy_r1 e5 o5 z5 T5.out D5.out)
      clear o5 z5 e5
      go_wp2_with fail
      go_meet
      case rel => exact HRel.out
  case rest =>
    obtain ⟨wa, hwa⟩ : ∃ wa, wa = wc := ⟨wc, rfl⟩
    subst hwa
    obtain ⟨B1p, d1p, B4p, d4p, hob, hoz, hbw, htp, hdp⟩ := hcut
    have OBw := Lib.hid hob
    have OZw := Lib.hid hoz
    have BWw := Lib.hid hbw
    have TPw := Lib.hid htp
    have DPw := Lib.hid hdp
    have cb4 := hob.cell 4
    have hle2 := Rw.le h2
    have hcap2 := Rw.cap h2
    have hbig2 := Rw.big h2
    have HL2 := Lib.hid (Rw.len h2)
    have HC2 : Hid (n2 + sumC ruleC p.rules ≤ 3000) := by
      show n2 + sumC ruleC p.rules ≤ 3000
      have := Rw.len h2
      unfold polC at hs
      omega
    unfold maxLen at hcap2
    have H2 := Lib.hid h2
    clear hob hoz hbw htp hdp h2
    go_wp2
    go_loopw [3, 21] (fun v i wr => ∃ (k : Nat) (A : Option Addr) (c : Nat), k ≤ n2 ∧ i = .int .i64 k ∧ v = .slice A k c ∧ Below wa.heap.size wa wr ∧ Gr 5 RulAt wr wa.heap.size 51 A k c (p.rules.take k)) (fun v i _ => n2 - (intOf i).toNat)
    case atStart => exact ⟨0, none, 0, Nat.zero_le _, rfl, rfl, Below.refl _ _, Gr.nil _ _ (Nat.le_refl _)⟩
    case round =>
      obtain ⟨k, A, c, hk, rfl, rfl, hb, hg⟩ := hrel
      have HB := Lib.hid hb
      have HG := Lib.hid hg
      clear hb hg
      by_cases hlt : k < n2
      · obtain ⟨b, o, r, A5, m1, c5, A6, m2, c6, A7, m3, c7, rfl, hRb, hbl, hr, hrid, ⟨g0, g1, g2, g3, g4⟩, ht, hn, hd⟩ := (H2.out.keep (Kept.all (BWw.out.trans (HB.out.mono BWw.out.size)) _) (fun _ h _ => h)).at_ hlt
        have HX := Lib.hid hr
        have hsr := sumC_le (f := ruleC) hr
        have hcr : tgC r.tg ≤ ruleC r ∧ r.cond.length ≤ ruleC r ∧ dutsC r.ob ≤ ruleC r := by unfold ruleC; omega
        have hls := dutsC_len (l := r.ob)
        have hl6 := Rw.len hn
        have hl7 := Rw.len hd
        have hts : tgC r.tg ≤ 3000 := by have := HC2.out; omega
        have HM2 : Hid (m2 ≤ 1000000) := by show m2 ≤ 1000000; have := HC2.out; omega
        have HM3 : Hid (m3 ≤ 1000000) := by show m3 ≤ 1000000; have := HC2.out; omega
        have CR : Hid (∀ V : World, Below wr.heap.size wr V → Calls Try.prog 19 #[.slice A5 m1 c5] V fun e w' => ∃ A' c', e = .returned (.slice A' m1 c') ∧ Below V.heap.size V w' ∧ Tg w' (fun b => V.heap.size ≤ b) A' m1 c' r.tg) :=
          fun V hV => ctarget_any hts (ht.keep (Kept.all hV _) (fun _ h _ => h))
        have HN := Lib.hid hn
        have HD := Lib.hid hd
        have HID := Lib.hid hrid
        have hbr : Below wr.heap.size wr (wr.alloc (.cells #[.string r.id, .bool r.deny, .slice A5 m1 c5, .slice A6 m2 c6, .slice A7 m3 c7] 51)) := (Below.refl _ _).alloc (Nat.le_refl _) _
        have hor := Ob.made wr 51 #[.string r.id, .bool r.deny, .slice A5 m1 c5, .slice A6 m2 c6, .slice A7 m3 c7]
        have hzr : (wr.alloc (.cells #[.string r.id, .bool r.deny, .slice A5 m1 c5, .slice A6 m2 c6, .slice A7 m3 c7] 51)).heap.size = wr.heap.size + 1 := size_al _ _
        clear hr hsr hcr hls hl6 hl7 ht hn hd hts hrid
        go_wp2_with fail
        generalize wr.alloc (.cells #[.string r.id, .bool r.deny, .slice A5 m1 c5, .slice A6 m2 c6, .slice A7 m3 c7] 51) = W1 at *
        have KRO : Hid (∀ V : World, Below (wr.heap.size + 1) W1 V → Ob V wr.heap.size 51 #[.string r.id, .bool r.deny, .slice A5 m1 c5, .slice A6 m2 c6, .slice A7 m3 c7]) := fun V hV => hor.below hV (by omega)
        have KRS : Hid (∀ V : World, Below (wr.heap.size + 1) W1 V → V.cell? ⟨wr.heap.size, 2, none⟩ = some (.slice A5 m1 c5) ∧ V.cell? ⟨wr.heap.size, 3, none⟩ = some (.slice A6 m2 c6) ∧ V.cell? ⟨wr.heap.size, 4, none⟩ = some (.slice A7 m3 c7)) :=
          fun V hV => ⟨(hor.below hV (by omega)).cell 2, (hor.below hV (by omega)).cell 3, (hor.below hV (by omega)).cell 4⟩
        have HRB := Lib.hid hbr
        have HRZ := Lib.hid hzr
        clear hor hbr hzr g0 g1 g2 g3 g4
        go_cut [] from 25 to 38 (fun wx => ∃ B1 e1 B2 e2 B3 e3, Ob wx wr.heap.size 51 #[.string r.id, .bool r.deny, .slice B1 m1 e1, .slice B2 m2 e2, .slice B3 m3 e3] ∧ Below wr.heap.size wr wx ∧ Tg wx (fun b => wr.heap.size + 1 ≤ b) B1 m1 e1 r.tg ∧ Nds wx (fun b => wr.heap.size + 1 ≤ b) B2 m2 e2 r.cond ∧ Dus wx (fun b => wr.heap.size + 1 ≤ b) B3 m3 e3 r.ob)
        case first =>
          refine wp_region_held_tail (fun w' => Below (wr.heap.size + 1) W1 w') 12 (by kernel_rfl) (by kernel_rfl) ?_
          intro G
          change HeadW _ _ _ _ _ _ _ _ _ _ (W1.drewN 1)
          have S0 := Lib.hid (below_drewN (Below.refl (wr.heap.size + 1) W1) 1)
          have hz0 : (W1.drewN 1).heap.size ≤ W1.heap.size ∧ W1.heap.size ≤ (W1.drewN 1).heap.size := ⟨Nat.le_refl _, Nat.le_refl _⟩
          generalize W1.drewN 1 = v0 at *
          have LBv0 : wr.heap.size + 1 ≤ v0.heap.size := by have := HRZ.out; omega
          refine HeadW_take (i := 0) (v := ?_) G rfl (by kernel_rfl) (by kernel_rfl) (by kernel_rfl) (fun _ _ _ h => h) (Or.inl ⟨by rfl, ?_⟩) S0.out ?_
          rotate_left
          · intro wz hS
            go_simp
            try with_reducible rfl
          refine HeadW_take (i := 1) (v := ?_) G rfl (by kernel_rfl) (by kernel_rfl) (by kernel_rfl) (fun _ _ _ h => h) (Or.inl ⟨by rfl, ?_⟩) S0.out ?_
          rotate_left
          · intro wz hS
            have hk1 := (KRS.out _ hS).1
            go_simp
            try with_reducible rfl
          refine HeadW_take (i := 4) (v := ?_) G rfl (by kernel_rfl) (by kernel_rfl) (by kernel_rfl) (fun _ _ _ h => h) (Or.inl ⟨by rfl, ?_⟩) S0.out ?_
          rotate_left
          · intro wz hS
            go_simp
            try with_reducible rfl
          refine HeadW_take (i := 5) (v := ?_) G rfl (by kernel_rfl) (by kernel_rfl) (by kernel_rfl) (fun _ _ _ h => h) (Or.inl ⟨by rfl, ?_⟩) S0.out ?_
          rotate_left
          · intro wz hS
            have hk1 := (KRS.out _ hS).2.1
            go_simp
            try with_reducible rfl
          refine HeadW_take (i := 8) (v := ?_) G rfl (by kernel_rfl) (by kernel_rfl) (by kernel_rfl) (fun _ _ _ h => h) (Or.inl ⟨by rfl, ?_⟩) S0.out ?_
          rotate_left
          · intro wz hS
            go_simp
            try with_reducible rfl
          refine HeadW_take (i := 9) (v := ?_) G rfl (by kernel_rfl) (by kernel_rfl) (by kernel_rfl) (fun _ _ _ h => h) (Or.inl ⟨by rfl, ?_⟩) S0.out ?_
          rotate_left
          · intro wz hS
            have hk1 := (KRS.out _ hS).2.2
            go_simp
            try with_reducible rfl
          refine HeadW_ready (rs := [2, 3, 7]) (by kernel_rfl) rfl rfl ?_
          refine AllW.cons rfl (fun K hK => ?_) (AllW.cons rfl (fun K hK => ?_) (AllW.cons rfl (fun K hK => ?_) AllW.nil))
          · go_simp
            refine (CR.out _ (HRB.out.trans (S0.out.mono (by omega)))).mono ?_
            rintro e v1 ⟨B1, e1, rfl, hb, ht⟩
            have S1 := Lib.hid (S0.out.trans (hb.mono LBv0))
            have LBv1 : wr.heap.size + 1 ≤ v1.heap.size := Nat.le_trans LBv0 hb.size
            have HSv1 := hb.size
            have T1 : Hid (Tg v1 (fun b => wr.heap.size + 1 ≤ b ∧ b ≠ 0 ∧ b ≠ 0) B1 m1 e1 r.tg) := Lib.hid (ht.keep (Kept.refl _ _) (fun b hb hlt => by have hb : v0.heap.size ≤ b := hb; refine ⟨by omega, ?_, ?_⟩ <;> omega))
            refine hK _ _ S1.out ?_
            clear hK K hb ht
            refine HeadW_take (i := 11) (v := ?_) G rfl (by kernel_rfl) (by kernel_rfl) (by kernel_rfl) (fun _ _ _ h => h) (Or.inl ⟨by rfl, ?_⟩) S1.out ?_
            rotate_left
            · intro wz hS
              go_simp
              try with_reducible rfl
            refine HeadW_ready (rs := [3, 7]) (by kernel_rfl) rfl rfl ?_
            refine AllW.cons rfl (fun K hK => ?_) (AllW.cons rfl (fun K hK => ?_) AllW.nil)
            · go_simp
              have hb : Below v1.heap.size v1 (v1.alloc (.cells #[] 41)) := (Below.refl _ _).alloc (Nat.le_refl _) _
              have S2 := Lib.hid (S1.out.trans (hb.mono LBv1))
              have hz : (v1.alloc (.cells #[] 41)).heap.size ≤ v1.heap.size + 1 ∧ v1.heap.size + 1 ≤ (v1.alloc (.cells #[] 41)).heap.size := by rw [size_al]; omega
              have E1_2 := Lib.hid (Ob.made v1 41 #[])
              have T2 : Hid (Tg (v1.alloc (.cells #[] 41)) (fun b => wr.heap.size + 1 ≤ b ∧ b ≠ v1.heap.size ∧ b ≠ 0) B1 m1 e1 r.tg) := Lib.hid (T1.out.keep (Kept.all hb _) (fun b hb hlt => by obtain ⟨a1, a2, a3⟩ := hb; refine ⟨a1, ?_, ?_⟩ <;> omega))
              refine hK _ _ S2.out ?_
              clear hK K hb
              generalize v1.alloc (.cells #[] 41) = v2 at *
              have LBv2 : wr.heap.size + 1 ≤ v2.heap.size := by omega
              have X1_2 : v1.heap.size < v2.heap.size := by omega
              refine HeadW_ready (rs := [6, 7]) (by kernel_rfl) rfl rfl ?_
              refine AllW.cons rfl (fun K hK => ?_) (AllW.cons rfl (fun K hK => ?_) AllW.nil)
              · obtain ⟨B2, e2, v3, ra, ba, oa, qa⟩ := copy_nods_at E1_2.out (HN.out.keep (Kept.all (HRB.out.trans (S2.out.mono (by omega))) _) (fun _ h _ => h)) HM2.out (by omega)
                refine step_append_run rfl (.tmp 28) (.tmp 30) _ _ rfl (by first | rfl | simp [Act.eval]) (by first | rfl | simp [Act.eval]) ra ?_
                have S3 := Lib.hid (S2.out.trans (ba.mono (by omega)))
                have HSv3 := ba.size
                have LBv3 : wr.heap.size + 1 ≤ v3.heap.size := Nat.le_trans LBv2 ba.size
                have T3 : Hid (Tg v3 (fun b => wr.heap.size + 1 ≤ b ∧ b ≠ v1.heap.size ∧ b ≠ 0) B1 m1 e1 r.tg) := Lib.hid (T2.out.keep (Kept.below_ qa (fun b hb => by obtain ⟨a1, a2, a3⟩ := hb; exact a2)) (fun b hb hlt => by obtain ⟨a1, a2, a3⟩ := hb; refine ⟨a1, ?_, ?_⟩ <;> omega))
                have Tx3 : Hid (Tg v3 (fun b => wr.heap.size + 1 ≤ b ∧ b ≠ 0 ∧ b ≠ 0) B1 m1 e1 r.tg) := Lib.hid (T3.out.keep (Kept.refl _ _) (fun b hb hlt => by obtain ⟨a1, a2, a3⟩ := hb; refine ⟨a1, ?_, ?_⟩ <;> omega))
                have N3 : Hid (Nds v3 (fun b => wr.heap.size + 1 ≤ b ∧ b ≠ 0 ∧ b ≠ 0) B2 m2 e2 r.cond) := Lib.hid (oa.keep (Kept.refl _ _) (fun b hb hlt => by have hb : b = v1.heap.size ∨ b = v2.heap.size := hb; refine ⟨?_, ?_, ?_⟩ <;> omega))
                refine hK _ _ S3.out ?_
                clear hK K ra ba oa qa
                refine HeadW_ready (rs := [7]) (by kernel_rfl) rfl rfl ?_
                refine AllW.cons rfl (fun K hK => ?_) AllW.nil
                go_simp
                have hb : Below v3.heap.size v3 (v3.alloc (.cells #[] 105)) := (Below.refl _ _).alloc (Nat.le_refl _) _
                have S4 := Lib.hid (S3.out.trans (hb.mono LBv3))
                have hz : (v3.alloc (.cells #[] 105)).heap.size ≤ v3.heap.size + 1 ∧ v3.heap.size + 1 ≤ (v3.alloc (.cells #[] 105)).heap.size := by rw [size_al]; omega
                have E2_4 := Lib.hid (Ob.made v3 105 #[])
                have T4 : Hid (Tg (v3.alloc (.cells #[] 105)) (fun b => wr.heap.size + 1 ≤ b ∧ b ≠ 0 ∧ b ≠ v3.heap.size) B1 m1 e1 r.tg) := Lib.hid (Tx3.out.keep (Kept.all hb _) (fun b hb hlt => by obtain ⟨a1, a2, a3⟩ := hb; refine ⟨a1, ?_, ?_⟩ <;> omega))
                have N4 : Hid (Nds (v3.alloc (.cells #[] 105)) (fun b => wr.heap.size + 1 ≤ b ∧ b ≠ 0 ∧ b ≠ v3.heap.size) B2 m2 e2 r.cond) := Lib.hid (N3.out.keep (Kept.all hb _) (fun b hb hlt => by obtain ⟨a1, a2, a3⟩ := hb; refine ⟨a1, ?_, ?_⟩ <;> omega))
                refine hK _ _ S4.out ?_
                clear hK K hb
                generalize v3.alloc (.cells #[] 105) = v4 at *
                have LBv4 : wr.heap.size + 1 ≤ v4.heap.size := by omega
                have X2_4 : v3.heap.size < v4.heap.size := by omega
                refine HeadW_ready (rs := [10]) (by kernel_rfl) rfl rfl ?_
                refine AllW.cons rfl (fun K hK => ?_) AllW.nil
                obtain ⟨B3, e3, v5, ra, ba, oa, qa⟩ := copy_duts_at E2_4.out (HD.out.keep (Kept.all (HRB.out.trans (S4.out.mono (by omega))) _) (fun _ h _ => h)) HM3.out (by omega)
                refine step_append_run rfl (.tmp 32) (.tmp 34) _ _ rfl (by first | rfl | simp [Act.eval]) (by first | rfl | simp [Act.eval]) ra ?_
                have S5 := Lib.hid (S4.out.trans (ba.mono (by omega)))
                have HSv5 := ba.size
                have LBv5 : wr.heap.size + 1 ≤ v5.heap.size := Nat.le_trans LBv4 ba.size
                have T5 : Hid (Tg v5 (fun b => wr.heap.size + 1 ≤ b ∧ b ≠ 0 ∧ b ≠ v3.heap.size) B1 m1 e1 r.tg) := Lib.hid (T4.out.keep (Kept.below_ qa (fun b hb => by obtain ⟨a1, a2, a3⟩ := hb; exact a3)) (fun b hb hlt => by obtain ⟨a1, a2, a3⟩ := hb; refine ⟨a1, ?_, ?_⟩ <;> omega))
                have N5 : Hid (Nds v5 (fun b => wr.heap.size + 1 ≤ b ∧ b ≠ 0 ∧ b ≠ v3.heap.size) B2 m2 e2 r.cond) := Lib.hid (N4.out.keep (Kept.below_ qa (fun b hb => by obtain ⟨a1, a2, a3⟩ := hb; exact a3)) (fun b hb hlt => by obtain ⟨a1, a2, a3⟩ := hb; refine ⟨a1, ?_, ?_⟩ <;> omega))
                have Tx5 : Hid (Tg v5 (fun b => wr.heap.size + 1 ≤ b ∧ b ≠ 0 ∧ b ≠ 0) B1 m1 e1 r.tg) := Lib.hid (T5.out.keep (Kept.refl _ _) (fun b hb hlt => by obtain ⟨a1, a2, a3⟩ := hb; refine ⟨a1, ?_, ?_⟩ <;> omega))
                have Nx5 : Hid (Nds v5 (fun b => wr.heap.size + 1 ≤ b ∧ b ≠ 0 ∧ b ≠ 0) B2 m2 e2 r.cond) := Lib.hid (N5.out.keep (Kept.refl _ _) (fun b hb hlt => by obtain ⟨a1, a2, a3⟩ := hb; refine ⟨a1, ?_, ?_⟩ <;> omega))
                have D5 : Hid (Dus v5 (fun b => wr.heap.size + 1 ≤ b ∧ b ≠ 0 ∧ b ≠ 0) B3 m3 e3 r.ob) := Lib.hid (oa.keep (Kept.refl _ _) (fun b hb hlt => by have hb : b = v3.heap.size ∨ b = v4.heap.size := hb; refine ⟨?_, ?_, ?_⟩ <;> omega))
                refine hK _ _ S5.out ?_
                clear hK K ra ba oa qa
                intro _
                refine ⟨by kernel_rfl, ?_⟩
                simp only [List.drop_succ_cons, List.drop_zero]
                have ob := KRO.out _ S5.out
                have f1 := ob.frozen 2
                have f2 := (ob.put 2 (.slice B1 m1 e1)).frozen 3
                have f3 := ((ob.put 2 (.slice B1 m1 e1)).put 3 (.slice B2 m2 e2)).frozen 4
                have f4 := ob.cell 2
                have f5 := (ob.put 2 (.slice B1 m1 e1)).cell 3
                have f6 := ((ob.put 2 (.slice B1 m1 e1)).put 3 (.slice B2 m2 e2)).cell 4
                have HRel := Lib.hid (copy_r6 (HRB.out.trans (S5.out.mono (by omega))) ob (Tx5.out.keep (Kept.refl _ _) (fun b hb _ => hb.1)) (Nx5.out.keep (Kept.refl _ _) (fun b hb _ => hb.1)) (D5.out.keep (Kept.refl _ _) (fun b hb _ => hb.1)))
                clear ob
                go_wp2_with fail
                go_meet
                case rel => exact HRel.out
              · go_simp
                have hb : Below v2.heap.size v2 (v2.alloc (.cells #[] 105)) := (Below.refl _ _).alloc (Nat.le_refl _) _
                have S6 := Lib.hid (S2.out.trans (hb.mono LBv2))
                have hz : (v2.alloc (.cells #[] 105)).heap.size ≤ v2.heap.size + 1 ∧ v2.heap.size + 1 ≤ (v2.alloc (.cells #[] 105)).heap.size := by rw [size_al]; omega
                have E1_6 := Lib.hid (E1_2.out.below hb E1_2.out.lt)
                have E2_6 := Lib.hid (Ob.made v2 105 #[])
                have T6 : Hid (Tg (v2.alloc (.cells #[] 105)) (fun b => wr.heap.size + 1 ≤ b ∧ b ≠ v1.heap.size ∧ b ≠ v2.heap.size) B1 m1 e1 r.tg) := Lib.hid (T2.out.keep (Kept.all hb _) (fun b hb hlt => by obtain ⟨a1, a2, a3⟩ := hb; refine ⟨a1, ?_, ?_⟩ <;> omega))
                refine hK _ _ S6.out ?_
                clear hK K hb
                generalize v2.alloc (.cells #[] 105) = v6 at *
                have LBv6 : wr.heap.size + 1 ≤ v6.heap.size := by omega
                have X1_6 : v1.heap.size < v6.heap.size := by have := X1_2; omega
                have X2_6 : v2.heap.size < v6.heap.size := by omega
                refine HeadW_ready (rs := [6]) (by kernel_rfl) rfl rfl ?_
                refine AllW.cons rfl (fun K hK => ?_) AllW.nil
                obtain ⟨B2, e2, v7, ra, ba, oa, qa⟩ := copy_nods_at E1_6.out (HN.out.keep (Kept.all (HRB.out.trans (S6.out.mono (by omega))) _) (fun _ h _ => h)) HM2.out (by omega)
                refine step_append_run rfl (.tmp 28) (.tmp 30) _ _ rfl (by first | rfl | simp [Act.eval]) (by first | rfl | simp [Act.eval]) ra ?_
                have S7 := Lib.hid (S6.out.trans (ba.mono (by omega)))
                have HSv7 := ba.size
                have LBv7 : wr.heap.size + 1 ≤ v7.heap.size := Nat.le_trans LBv6 ba.size
                have E2_7 := Lib.hid (E2_6.out.keep (qa.2 _ (by show v2.heap.size ≠ v1.heap.size; omega) E2_6.out.lt))
                have T7 : Hid (Tg v7 (fun b => wr.heap.size + 1 ≤ b ∧ b ≠ v1.heap.size ∧ b ≠ v2.heap.size) B1 m1 e1 r.tg) := Lib.hid (T6.out.keep (Kept.below_ qa (fun b hb => by obtain ⟨a1, a2, a3⟩ := hb; exact a2)) (fun b hb hlt => by obtain ⟨a1, a2, a3⟩ := hb; refine ⟨a1, ?_, ?_⟩ <;> omega))
                have Tx7 : Hid (Tg v7 (fun b => wr.heap.size + 1 ≤ b ∧ b ≠ 0 ∧ b ≠ v2.heap.size) B1 m1 e1 r.tg) := Lib.hid (T7.out.keep (Kept.refl _ _) (fun b hb hlt => by obtain ⟨a1, a2, a3⟩ := hb; refine ⟨a1, ?_, ?_⟩ <;> omega))
                have N7 : Hid (Nds v7 (fun b => wr.heap.size + 1 ≤ b ∧ b ≠ 0 ∧ b ≠ v2.heap.size) B2 m2 e2 r.cond) := Lib.hid (oa.keep (Kept.refl _ _) (fun b hb hlt => by have hb : b = v1.heap.size ∨ b = v6.heap.size := hb; refine ⟨?_, ?_, ?_⟩ <;> omega))
                refine hK _ _ S7.out ?_
                clear hK K ra ba oa qa
                have X2_7 : v2.heap.size < v7.heap.size := by have := X2_6; omega
                refine HeadW_ready (rs := [10]) (by kernel_rfl) rfl rfl ?_
                refine AllW.cons rfl (fun K hK => ?_) AllW.nil
                obtain ⟨B3, e3, v8, ra, ba, oa, qa⟩ := copy_duts_at E2_7.out (HD.out.keep (Kept.all (HRB.out.trans (S7.out.mono (by omega))) _) (fun _ h _ => h)) HM3.out (by omega)
                refine step_append_run rfl (.tmp 32) (.tmp 34) _ _ rfl (by first | rfl | simp [Act.eval]) (by first | rfl | simp [Act.eval]) ra ?_
                have S8 := Lib.hid (S7.out.trans (ba.mono (by omega)))
                have HSv8 := ba.size
                have LBv8 : wr.heap.size + 1 ≤ v8.heap.size := Nat.le_trans LBv7 ba.size
                have T8 : Hid (Tg v8 (fun b => wr.heap.size + 1 ≤ b ∧ b ≠ 0 ∧ b ≠ v2.heap.size) B1 m1 e1 r.tg) := Lib.hid (Tx7.out.keep (Kept.below_ qa (fun b hb => by obtain ⟨a1, a2, a3⟩ := hb; exact a3)) (fun b hb hlt => by obtain ⟨a1, a2, a3⟩ := hb; refine ⟨a1, ?_, ?_⟩ <;> omega))
                have N8 : Hid (Nds v8 (fun b => wr.heap.size + 1 ≤ b ∧ b ≠ 0 ∧ b ≠ v2.heap.size) B2 m2 e2 r.cond) := Lib.hid (N7.out.keep (Kept.below_ qa (fun b hb => by obtain ⟨a1, a2, a3⟩ := hb; exact a3)) (fun b hb hlt => by obtain ⟨a1, a2, a3⟩ := hb; refine ⟨a1, ?_, ?_⟩ <;> omega))
                have Tx8 : Hid (Tg v8 (fun b => wr.heap.size + 1 ≤ b ∧ b ≠ 0 ∧ b ≠ 0) B1 m1 e1 r.tg) := Lib.hid (T8.out.keep (Kept.refl _ _) (fun b hb hlt => by obtain ⟨a1, a2, a3⟩ := hb; refine ⟨a1, ?_, ?_⟩ <;> omega))
                have Nx8 : Hid (Nds v8 (fun b => wr.heap.size + 1 ≤ b ∧ b ≠ 0 ∧ b ≠ 0) B2 m2 e2 r.cond) := Lib.hid (N8.out.keep (Kept.refl _ _) (fun b hb hlt => by obtain ⟨a1, a2, a3⟩ := hb; refine ⟨a1, ?_, ?_⟩ <;> omega))
                have D8 : Hid (Dus v8 (fun b => wr.heap.size + 1 ≤ b ∧ b ≠ 0 ∧ b ≠ 0) B3 m3 e3 r.ob) := Lib.hid (oa.keep (Kept.refl _ _) (fun b hb hlt => by have hb : b = v2.heap.size ∨ b = v7.heap.size := hb; refine ⟨?_, ?_, ?_⟩ <;> omega))
                refine hK _ _ S8.out ?_
                clear hK K ra ba oa qa
                intro _
                refine ⟨by kernel_rfl, ?_⟩
                simp only [List.drop_succ_cons, List.drop_zero]
                have ob := KRO.out _ S8.out
                have f1 := ob.frozen 2
                have f2 := (ob.put 2 (.slice B1 m1 e1)).frozen 3
                have f3 := ((ob.put 2 (.slice B1 m1 e1)).put 3 (.slice B2 m2 e2)).frozen 4
                have f4 := ob.cell 2
                have f5 := (ob.put 2 (.slice B1 m1 e1)).cell 3
                have f6 := ((ob.put 2 (.slice B1 m1 e1)).put 3 (.slice B2 m2 e2)).cell 4
                have HRel := Lib.hid (copy_r6 (HRB.out.trans (S8.out.mono (by omega))) ob (Tx8.out.keep (Kept.refl _ _) (fun b hb _ => hb.1)) (Nx8.out.keep (Kept.refl _ _) (fun b hb _ => hb.1)) (D8.out.keep (Kept.refl _ _) (fun b hb _ => hb.1)))
                clear ob
                go_wp2_with fail
                go_meet
                case rel => exact HRel.out
            · go_simp
              have hb : Below v1.heap.size v1 (v1.alloc (.cells #[] 105)) := (Below.refl _ _).alloc (Nat.le_refl _) _
              have S9 := Lib.hid (S1.out.trans (hb.mono LBv1))
              have hz : (v1.alloc (.cells #[] 105)).heap.size ≤ v1.heap.size + 1 ∧ v1.heap.size + 1 ≤ (v1.alloc (.cells #[] 105)).heap.size := by rw [size_al]; omega
              have E2_9 := Lib.hid (Ob.made v1 105 #[])
              have T9 : Hid (Tg (v1.alloc (.cells #[] 105)) (fun b => wr.heap.size + 1 ≤ b ∧ b ≠ 0 ∧ b ≠ v1.heap.size) B1 m1 e1 r.tg) := Lib.hid (T1.out.keep (Kept.all hb _) (fun b hb hlt => by obtain ⟨a1, a2, a3⟩ := hb; refine ⟨a1, ?_, ?_⟩ <;> omega))
              refine hK _ _ S9.out ?_
              clear hK K hb
              generalize v1.alloc (.cells #[] 105) = v9 at *
              have LBv9 : wr.heap.size + 1 ≤ v9.heap.size := by omega
              have X2_9 : v1.heap.size < v9.heap.size := by omega
              refine HeadW_ready (rs := [3]) (by kernel_rfl) rfl rfl ?_
              refine AllW.cons rfl (fun K hK => ?_) AllW.nil
              go_simp
              have hb : Below v9.heap.size v9 (v9.alloc (.cells #[] 41)) := (Below.refl _ _).alloc (Nat.le_refl _) _
              have S10 := Lib.hid (S9.out.trans (hb.mono LBv9))
              have hz : (v9.alloc (.cells #[] 41)).heap.size ≤ v9.heap.size + 1 ∧ v9.heap.size + 1 ≤ (v9.alloc (.cells #[] 41)).heap.size := by rw [size_al]; omega
              have E2_10 := Lib.hid (E2_9.out.below hb E2_9.out.lt)
              have E1_10 := Lib.hid (Ob.made v9 41 #[])
              have T10 : Hid (Tg (v9.alloc (.cells #[] 41)) (fun b => wr.heap.size + 1 ≤ b ∧ b ≠ v9.heap.size ∧ b ≠ v1.heap.size) B1 m1 e1 r.tg) := Lib.hid (T9.out.keep (Kept.all hb _) (fun b hb hlt => by obtain ⟨a1, a2, a3⟩ := hb; refine ⟨a1, ?_, ?_⟩ <;> omega))
              refine hK _ _ S10.out ?_
              clear hK K hb
              generalize v9.alloc (.cells #[] 41) = v10 at *
              have LBv10 : wr.heap.size + 1 ≤ v10.heap.size := by omega
              have X1_10 : v9.heap.size < v10.heap.size := by omega
              have X2_10 : v1.heap.size < v10.heap.size := by have := X2_9; omega
              refine HeadW_ready (rs := [6]) (by kernel_rfl) rfl rfl ?_
              refine AllW.cons rfl (fun K hK => ?_) AllW.nil
              obtain ⟨B2, e2, v11, ra, ba, oa, qa⟩ := copy_nods_at E1_10.out (HN.out.keep (Kept.all (HRB.out.trans (S10.out.mono (by omega))) _) (fun _ h _ => h)) HM2.out (by omega)
              refine step_append_run rfl (.tmp 28) (.tmp 30) _ _ rfl (by first | rfl | simp [Act.eval]) (by first | rfl | simp [Act.eval]) ra ?_
              have S11 := Lib.hid (S10.out.trans (ba.mono (by omega)))
              have HSv11 := ba.size
              have LBv11 : wr.heap.size + 1 ≤ v11.heap.size := Nat.le_trans LBv10 ba.size
              have E2_11 := Lib.hid (E2_10.out.keep (qa.2 _ (by show v1.heap.size ≠ v9.heap.size; omega) E2_10.out.lt))
              have T11 : Hid (Tg v11 (fun b => wr.heap.size + 1 ≤ b ∧ b ≠ v9.heap.size ∧ b ≠ v1.heap.size) B1 m1 e1 r.tg) := Lib.hid (T10.out.keep (Kept.below_ qa (fun b hb => by obtain ⟨a1, a2, a3⟩ := hb; exact a2)) (fun b hb hlt => by obtain ⟨a1, a2, a3⟩ := hb; refine ⟨a1, ?_, ?_⟩ <;> omega))
              have Tx11 : Hid (Tg v11 (fun b => wr.heap.size + 1 ≤ b ∧ b ≠ 0 ∧ b ≠ v1.heap.size) B1 m1 e1 r.tg) := Lib.hid (T11.out.keep (Kept.refl _ _) (fun b hb hlt => by obtain ⟨a1, a2, a3⟩ := hb; refine ⟨a1, ?_, ?_⟩ <;> omega))
              have N11 : Hid (Nds v11 (fun b => wr.heap.size + 1 ≤ b ∧ b ≠ 0 ∧ b ≠ v1.heap.size) B2 m2 e2 r.cond) := Lib.hid (oa.keep (Kept.refl _ _) (fun b hb hlt => by have hb : b = v9.heap.size ∨ b = v10.heap.size := hb; refine ⟨?_, ?_, ?_⟩ <;> omega))
              refine hK _ _ S11.out ?_
              clear hK K ra ba oa qa
              have X2_11 : v1.heap.size < v11.heap.size := by have := X2_10; omega
              refine HeadW_ready (rs := [10]) (by kernel_rfl) rfl rfl ?_
              refine AllW.cons rfl (fun K hK => ?_) AllW.nil
              obtain ⟨B3, e3, v12, ra, ba, oa, qa⟩ := copy_duts_at E2_11.out (HD.out.keep (Kept.all (HRB.out.trans (S11.out.mono (by omega))) _) (fun _ h _ => h)) HM3.out (by omega)
              refine step_append_run rfl (.tmp 32) (.tmp 34) _ _ rfl (by first | rfl | simp [Act.eval]) (by first | rfl | simp [Act.eval]) ra ?_
              have S12 := Lib.hid (S11.out.trans (ba.mono (by omega)))
              have HSv12 := ba.size
              have LBv12 : wr.heap.size + 1 ≤ v12.heap.size := Nat.le_trans LBv11 ba.size
              have T12 : Hid (Tg v12 (fun b => wr.heap.size + 1 ≤ b ∧ b ≠ 0 ∧ b ≠ v1.heap.size) B1 m1 e1 r.tg) := Lib.hid (Tx11.out.keep (Kept.below_ qa (fun b hb => by obtain ⟨a1, a2, a3⟩ := hb; exact a3)) (fun b hb hlt => by obtain ⟨a1, a2, a3⟩ := hb; refine ⟨a1, ?_, ?_⟩ <;> omega))
              have N12 : Hid (Nds v12 (fun b => wr.heap.size + 1 ≤ b ∧ b ≠ 0 ∧ b ≠ v1.heap.size) B2 m2 e2 r.cond) := Lib.hid (N11.out.keep (Kept.below_ qa (fun b hb => by obtain ⟨a1, a2, a3⟩ := hb; exact a3)) (fun b hb hlt => by obtain ⟨a1, a2, a3⟩ := hb; refine ⟨a1, ?_, ?_⟩ <;> omega))
              have Tx12 : Hid (Tg v12 (fun b => wr.heap.size + 1 ≤ b ∧ b ≠ 0 ∧ b ≠ 0) B1 m1 e1 r.tg) := Lib.hid (T12.out.keep (Kept.refl _ _) (fun b hb hlt => by obtain ⟨a1, a2, a3⟩ := hb; refine ⟨a1, ?_, ?_⟩ <;> omega))
              have Nx12 : Hid (Nds v12 (fun b => wr.heap.size + 1 ≤ b ∧ b ≠ 0 ∧ b ≠ 0) B2 m2 e2 r.cond) := Lib.hid (N12.out.keep (Kept.refl _ _) (fun b hb hlt => by obtain ⟨a1, a2, a3⟩ := hb; refine ⟨a1, ?_, ?_⟩ <;> omega))
              have D12 : Hid (Dus v12 (fun b => wr.heap.size + 1 ≤ b ∧ b ≠ 0 ∧ b ≠ 0) B3 m3 e3 r.ob) := Lib.hid (oa.keep (Kept.refl _ _) (fun b hb hlt => by have hb : b = v1.heap.size ∨ b = v11.heap.size := hb; refine ⟨?_, ?_, ?_⟩ <;> omega))
              refine hK _ _ S12.out ?_
              clear hK K ra ba oa qa
              intro _
              refine ⟨by kernel_rfl, ?_⟩
              simp only [List.drop_succ_cons, List.drop_zero]
              have ob := KRO.out _ S12.out
              have f1 := ob.frozen 2
              have f2 := (ob.put 2 (.slice B1 m1 e1)).frozen 3
              have f3 := ((ob.put 2 (.slice B1 m1 e1)).put 3 (.slice B2 m2 e2)).frozen 4
              have f4 := ob.cell 2
              have f5 := (ob.put 2 (.slice B1 m1 e1)).cell 3
              have f6 := ((ob.put 2 (.slice B1 m1 e1)).put 3 (.slice B2 m2 e2)).cell 4
              have HRel := Lib.hid (copy_r6 (HRB.out.trans (S12.out.mono (by omega))) ob (Tx12.out.keep (Kept.refl _ _) (fun b hb _ => hb.1)) (Nx12.out.keep (Kept.refl _ _) (fun b hb _ => hb.1)) (D12.out.keep (Kept.refl _ _) (fun b hb _ => hb.1)))
              clear ob
              go_wp2_with fail
              go_meet
              case rel => exact HRel.out
          · go_simp
            have hb : Below v0.heap.size v0 (v0.alloc (.cells #[] 41)) := (Below.refl _ _).alloc (Nat.le_refl _) _
            have S13 := Lib.hid (S0.out.trans (hb.mono LBv0))
            have hz : (v0.alloc (.cells #[] 41)).heap.size ≤ v0.heap.size + 1 ∧ v0.heap.size + 1 ≤ (v0.alloc (.cells #[] 41)).heap.size := by rw [size_al]; omega
            have E1_13 := Lib.hid (Ob.made v0 41 #[])
            refine hK _ _ S13.out ?_
            clear hK K hb
            generalize v0.alloc (.cells #[] 41) = v13 at *
            have LBv13 : wr.heap.size + 1 ≤ v13.heap.size := by omega
            have X1_13 : v0.heap.size < v13.heap.size := by omega
            refine HeadW_ready (rs := [2, 7]) (by kernel_rfl) rfl rfl ?_
            refine AllW.cons rfl (fun K hK => ?_) (AllW.cons rfl (fun K hK => ?_) AllW.nil)
            · go_simp
              refine (CR.out _ (HRB.out.trans (S13.out.mono (by omega)))).mono ?_
              rintro e v14 ⟨B1, e1, rfl, hb, ht⟩
              have S14 := Lib.hid (S13.out.trans (hb.mono LBv13))
              have LBv14 : wr.heap.size + 1 ≤ v14.heap.size := Nat.le_trans LBv13 hb.size
              have HSv14 := hb.size
              have E1_14 := Lib.hid (E1_13.out.below hb E1_13.out.lt)
              have X1_14 : v0.heap.size < v14.heap.size := by have := X1_13; omega
              have T14 : Hid (Tg v14 (fun b => wr.heap.size + 1 ≤ b ∧ b ≠ v0.heap.size ∧ b ≠ 0) B1 m1 e1 r.tg) := Lib.hid (ht.keep (Kept.refl _ _) (fun b hb hlt => by have hb : v13.heap.size ≤ b := hb; refine ⟨by omega, ?_, ?_⟩ <;> omega))
              refine hK _ _ S14.out ?_
              clear hK K hb ht
              refine HeadW_take (i := 11) (v := ?_) G rfl (by kernel_rfl) (by kernel_rfl) (by kernel_rfl) (fun _ _ _ h => h) (Or.inl ⟨by rfl, ?_⟩) S14.out ?_
              rotate_left
              · intro wz hS
                go_simp
                try with_reducible rfl
              refine HeadW_ready (rs := [6, 7]) (by kernel_rfl) rfl rfl ?_
              refine AllW.cons rfl (fun K hK => ?_) (AllW.cons rfl (fun K hK => ?_) AllW.nil)
              · obtain ⟨B2, e2, v15, ra, ba, oa, qa⟩ := copy_nods_at E1_14.out (HN.out.keep (Kept.all (HRB.out.trans (S14.out.mono (by omega))) _) (fun _ h _ => h)) HM2.out (by omega)
                refine step_append_run rfl (.tmp 28) (.tmp 30) _ _ rfl (by first | rfl | simp [Act.eval]) (by first | rfl | simp [Act.eval]) ra ?_
                have S15 := Lib.hid (S14.out.trans (ba.mono (by omega)))
                have HSv15 := ba.size
                have LBv15 : wr.heap.size + 1 ≤ v15.heap.size := Nat.le_trans LBv14 ba.size
                have T15 : Hid (Tg v15 (fun b => wr.heap.size + 1 ≤ b ∧ b ≠ v0.heap.size ∧ b ≠ 0) B1 m1 e1 r.tg) := Lib.hid (T14.out.keep (Kept.below_ qa (fun b hb => by obtain ⟨a1, a2, a3⟩ := hb; exact a2)) (fun b hb hlt => by obtain ⟨a1, a2, a3⟩ := hb; refine ⟨a1, ?_, ?_⟩ <;> omega))
                have Tx15 : Hid (Tg v15 (fun b => wr.heap.size + 1 ≤ b ∧ b ≠ 0 ∧ b ≠ 0) B1 m1 e1 r.tg) := Lib.hid (T15.out.keep (Kept.refl _ _) (fun b hb hlt => by obtain ⟨a1, a2, a3⟩ := hb; refine ⟨a1, ?_, ?_⟩ <;> omega))
                have N15 : Hid (Nds v15 (fun b => wr.heap.size + 1 ≤ b ∧ b ≠ 0 ∧ b ≠ 0) B2 m2 e2 r.cond) := Lib.hid (oa.keep (Kept.refl _ _) (fun b hb hlt => by have hb : b = v0.heap.size ∨ b = v14.heap.size := hb; refine ⟨?_, ?_, ?_⟩ <;> omega))
                refine hK _ _ S15.out ?_
                clear hK K ra ba oa qa
                refine HeadW_ready (rs := [7]) (by kernel_rfl) rfl rfl ?_
                refine AllW.cons rfl (fun K hK => ?_) AllW.nil
                go_simp
                have hb : Below v15.heap.size v15 (v15.alloc (.cells #[] 105)) := (Below.refl _ _).alloc (Nat.le_refl _) _
                have S16 := Lib.hid (S15.out.trans (hb.mono LBv15))
                have hz : (v15.alloc (.cells #[] 105)).heap.size ≤ v15.heap.size + 1 ∧ v15.heap.size + 1 ≤ (v15.alloc (.cells #[] 105)).heap.size := by rw [size_al]; omega
                have E2_16 := Lib.hid (Ob.made v15 105 #[])
                have T16 : Hid (Tg (v15.alloc (.cells #[] 105)) (fun b => wr.heap.size + 1 ≤ b ∧ b ≠ 0 ∧ b ≠ v15.heap.size) B1 m1 e1 r.tg) := Lib.hid (Tx15.out.keep (Kept.all hb _) (fun b hb hlt => by obtain ⟨a1, a2, a3⟩ := hb; refine ⟨a1, ?_, ?_⟩ <;> omega))
                have N16 : Hid (Nds (v15.alloc (.cells #[] 105)) (fun b => wr.heap.size + 1 ≤ b ∧ b ≠ 0 ∧ b ≠ v15.heap.size) B2 m2 e2 r.cond) := Lib.hid (N15.out.keep (Kept.all hb _) (fun b hb hlt => by obtain ⟨a1, a2, a3⟩ := hb; refine ⟨a1, ?_, ?_⟩ <;> omega))
                refine hK _ _ S16.out ?_
                clear hK K hb
                generalize v15.alloc (.cells #[] 105) = v16 at *
                have LBv16 : wr.heap.size + 1 ≤ v16.heap.size := by omega
                have X2_16 : v15.heap.size < v16.heap.size := by omega
                refine HeadW_ready (rs := [10]) (by kernel_rfl) rfl rfl ?_
                refine AllW.cons rfl (fun K hK => ?_) AllW.nil
                obtain ⟨B3, e3, v17, ra, ba, oa, qa⟩ := copy_duts_at E2_16.out (HD.out.keep (Kept.all (HRB.out.trans (S16.out.mono (by omega))) _) (fun _ h _ => h)) HM3.out (by omega)
                refine step_append_run rfl (.tmp 32) (.tmp 34) _ _ rfl (by first | rfl | simp [Act.eval]) (by first | rfl | simp [Act.eval]) ra ?_
                have S17 := Lib.hid (S16.out.trans (ba.mono (by omega)))
                have HSv17 := ba.size
                have LBv17 : wr.heap.size + 1 ≤ v17.heap.size := Nat.le_trans LBv16 ba.size
                have T17 : Hid (Tg v17 (fun b => wr.heap.size + 1 ≤ b ∧ b ≠ 0 ∧ b ≠ v15.heap.size) B1 m1 e1 r.tg) := Lib.hid (T16.out.keep (Kept.below_ qa (fun b hb => by obtain ⟨a1, a2, a3⟩ := hb; exact a3)) (fun b hb hlt => by obtain ⟨a1, a2, a3⟩ := hb; refine ⟨a1, ?_, ?_⟩ <;> omega))
                have N17 : Hid (Nds v17 (fun b => wr.heap.size + 1 ≤ b ∧ b ≠ 0 ∧ b ≠ v15.heap.size) B2 m2 e2 r.cond) := Lib.hid (N16.out.keep (Kept.below_ qa (fun b hb => by obtain ⟨a1, a2, a3⟩ := hb; exact a3)) (fun b hb hlt => by obtain ⟨a1, a2, a3⟩ := hb; refine ⟨a1, ?_, ?_⟩ <;> omega))
                have Tx17 : Hid (Tg v17 (fun b => wr.heap.size + 1 ≤ b ∧ b ≠ 0 ∧ b ≠ 0) B1 m1 e1 r.tg) := Lib.hid (T17.out.keep (Kept.refl _ _) (fun b hb hlt => by obtain ⟨a1, a2, a3⟩ := hb; refine ⟨a1, ?_, ?_⟩ <;> omega))
                have Nx17 : Hid (Nds v17 (fun b => wr.heap.size + 1 ≤ b ∧ b ≠ 0 ∧ b ≠ 0) B2 m2 e2 r.cond) := Lib.hid (N17.out.keep (Kept.refl _ _) (fun b hb hlt => by obtain ⟨a1, a2, a3⟩ := hb; refine ⟨a1, ?_, ?_⟩ <;> omega))
                have D17 : Hid (Dus v17 (fun b => wr.heap.size + 1 ≤ b ∧ b ≠ 0 ∧ b ≠ 0) B3 m3 e3 r.ob) := Lib.hid (oa.keep (Kept.refl _ _) (fun b hb hlt => by have hb : b = v15.heap.size ∨ b = v16.heap.size := hb; refine ⟨?_, ?_, ?_⟩ <;> omega))
                refine hK _ _ S17.out ?_
                clear hK K ra ba oa qa
                intro _
                refine ⟨by kernel_rfl, ?_⟩
                simp only [List.drop_succ_cons, List.drop_zero]
                have ob := KRO.out _ S17.out
                have f1 := ob.frozen 2
                have f2 := (ob.put 2 (.slice B1 m1 e1)).frozen 3
                have f3 := ((ob.put 2 (.slice B1 m1 e1)).put 3 (.slice B2 m2 e2)).frozen 4
                have f4 := ob.cell 2
                have f5 := (ob.put 2 (.slice B1 m1 e1)).cell 3
                have f6 := ((ob.put 2 (.slice B1 m1 e1)).put 3 (.slice B2 m2 e2)).cell 4
                have HRel := Lib.hid (copy_r6 (HRB.out.trans (S17.out.mono (by omega))) ob (Tx17.out.keep (Kept.refl _ _) (fun b hb _ => hb.1)) (Nx17.out.keep (Kept.refl _ _) (fun b hb _ => hb.1)) (D17.out.keep (Kept.refl _ _) (fun b hb _ => hb.1)))
                clear ob
                go_wp2_with fail
                go_meet
                case rel => exact HRel.out
              · go_simp
                have hb : Below v14.heap.size v14 (v14.alloc (.cells #[] 105)) := (Below.refl _ _).alloc (Nat.le_refl _) _
                have S18 := Lib.hid (S14.out.trans (hb.mono LBv14))
                have hz : (v14.alloc (.cells #[] 105)).heap.size ≤ v14.heap.size + 1 ∧ v14.heap.size + 1 ≤ (v14.alloc (.cells #[] 105)).heap.size := by rw [size_al]; omega
                have E1_18 := Lib.hid (E1_14.out.below hb E1_14.out.lt)
                have E2_18 := Lib.hid (Ob.made v14 105 #[])
                have T18 : Hid (Tg (v14.alloc (.cells #[] 105)) (fun b => wr.heap.size + 1 ≤ b ∧ b ≠ v0.heap.size ∧ b ≠ v14.heap.size) B1 m1 e1 r.tg) := Lib.hid (T14.out.keep (Kept.all hb _) (fun b hb hlt => by obtain ⟨a1, a2, a3⟩ := hb; refine ⟨a1, ?_, ?_⟩ <;> omega))
                refine hK _ _ S18.out ?_
                clear hK K hb
                generalize v14.alloc (.cells #[] 105) = v18 at *
                have LBv18 : wr.heap.size + 1 ≤ v18.heap.size := by omega
                have X1_18 : v0.heap.size < v18.heap.size := by have := X1_14; omega
                have X2_18 : v14.heap.size < v18.heap.size := by omega
                refine HeadW_ready (rs := [6]) (by kernel_rfl) rfl rfl ?_
                refine AllW.cons rfl (fun K hK => ?_) AllW.nil
                obtain ⟨B2, e2, v19, ra, ba, oa, qa⟩ := copy_nods_at E1_18.out (HN.out.keep (Kept.all (HRB.out.trans (S18.out.mono (by omega))) _) (fun _ h _ => h)) HM2.out (by omega)
                refine step_append_run rfl (.tmp 28) (.tmp 30) _ _ rfl (by first | rfl | simp [Act.eval]) (by first | rfl | simp [Act.eval]) ra ?_
                have S19 := Lib.hid (S18.out.trans (ba.mono (by omega)))
                have HSv19 := ba.size
                have LBv19 : wr.heap.size + 1 ≤ v19.heap.size := Nat.le_trans LBv18 ba.size
                have E2_19 := Lib.hid (E2_18.out.keep (qa.2 _ (by show v14.heap.size ≠ v0.heap.size; omega) E2_18.out.lt))
                have T19 : Hid (Tg v19 (fun b => wr.heap.size + 1 ≤ b ∧ b ≠ v0.heap.size ∧ b ≠ v14.heap.size) B1 m1 e1 r.tg) := Lib.hid (T18.out.keep (Kept.below_ qa (fun b hb => by obtain ⟨a1, a2, a3⟩ := hb; exact a2)) (fun b hb hlt => by obtain ⟨a1, a2, a3⟩ := hb; refine ⟨a1, ?_, ?_⟩ <;> omega))
                have Tx19 : Hid (Tg v19 (fun b => wr.heap.size + 1 ≤ b ∧ b ≠ 0 ∧ b ≠ v14.heap.size) B1 m1 e1 r.tg) := Lib.hid (T19.out.keep (Kept.refl _ _) (fun b hb hlt => by obtain ⟨a1, a2, a3⟩ := hb; refine ⟨a1, ?_, ?_⟩ <;> omega))
                have N19 : Hid (Nds v19 (fun b => wr.heap.size + 1 ≤ b ∧ b ≠ 0 ∧ b ≠ v14.heap.size) B2 m2 e2 r.cond) := Lib.hid (oa.keep (Kept.refl _ _) (fun b hb hlt => by have hb : b = v0.heap.size ∨ b = v18.heap.size := hb; refine ⟨?_, ?_, ?_⟩ <;> omega))
                refine hK _ _ S19.out ?_
                clear hK K ra ba oa qa
                have X2_19 : v14.heap.size < v19.heap.size := by have := X2_18; omega
                refine HeadW_ready (rs := [10]) (by kernel_rfl) rfl rfl ?_
                refine AllW.cons rfl (fun K hK => ?_) AllW.nil
                obtain ⟨B3, e3, v20, ra, ba, oa, qa⟩ := copy_duts_at E2_19.out (HD.out.keep (Kept.all (HRB.out.trans (S19.out.mono (by omega))) _) (fun _ h _ => h)) HM3.out (by omega)
                refine step_append_run rfl (.tmp 32) (.tmp 34) _ _ rfl (by first | rfl | simp [Act.eval]) (by first | rfl | simp [Act.eval]) ra ?_
                have S20 := Lib.hid (S19.out.trans (ba.mono (by omega)))
                have HSv20 := ba.size
                have LBv20 : wr.heap.size + 1 ≤ v20.heap.size := Nat.le_trans LBv19 ba.size
                have T20 : Hid (Tg v20 (fun b => wr.heap.size + 1 ≤ b ∧ b ≠ 0 ∧ b ≠ v14.heap.size) B1 m1 e1 r.tg) := Lib.hid (Tx19.out.keep (Kept.below_ qa (fun b hb => by obtain ⟨a1, a2, a3⟩ := hb; exact a3)) (fun b hb hlt => by obtain ⟨a1, a2, a3⟩ := hb; refine ⟨a1, ?_, ?_⟩ <;> omega))
                have N20 : Hid (Nds v20 (fun b => wr.heap.size + 1 ≤ b ∧ b ≠ 0 ∧ b ≠ v14.heap.size) B2 m2 e2 r.cond) := Lib.hid (N19.out.keep (Kept.below_ qa (fun b hb => by obtain ⟨a1, a2, a3⟩ := hb; exact a3)) (fun b hb hlt => by obtain ⟨a1, a2, a3⟩ := hb; refine ⟨a1, ?_, ?_⟩ <;> omega))
                have Tx20 : Hid (Tg v20 (fun b => wr.heap.size + 1 ≤ b ∧ b ≠ 0 ∧ b ≠ 0) B1 m1 e1 r.tg) := Lib.hid (T20.out.keep (Kept.refl _ _) (fun b hb hlt => by obtain ⟨a1, a2, a3⟩ := hb; refine ⟨a1, ?_, ?_⟩ <;> omega))
                have Nx20 : Hid (Nds v20 (fun b => wr.heap.size + 1 ≤ b ∧ b ≠ 0 ∧ b ≠ 0) B2 m2 e2 r.cond) := Lib.hid (N20.out.keep (Kept.refl _ _) (fun b hb hlt => by obtain ⟨a1, a2, a3⟩ := hb; refine ⟨a1, ?_, ?_⟩ <;> omega))
                have D20 : Hid (Dus v20 (fun b => wr.heap.size + 1 ≤ b ∧ b ≠ 0 ∧ b ≠ 0) B3 m3 e3 r.ob) := Lib.hid (oa.keep (Kept.refl _ _) (fun b hb hlt => by have hb : b = v14.heap.size ∨ b = v19.heap.size := hb; refine ⟨?_, ?_, ?_⟩ <;> omega))
                refine hK _ _ S20.out ?_
                clear hK K ra ba oa qa
                intro _
                refine ⟨by kernel_rfl, ?_⟩
                simp only [List.drop_succ_cons, List.drop_zero]
                have ob := KRO.out _ S20.out
                have f1 := ob.frozen 2
                have f2 := (ob.put 2 (.slice B1 m1 e1)).frozen 3
                have f3 := ((ob.put 2 (.slice B1 m1 e1)).put 3 (.slice B2 m2 e2)).frozen 4
                have f4 := ob.cell 2
                have f5 := (ob.put 2 (.slice B1 m1 e1)).cell 3
                have f6 := ((ob.put 2 (.slice B1 m1 e1)).put 3 (.slice B2 m2 e2)).cell 4
                have HRel := Lib.hid (copy_r6 (HRB.out.trans (S20.out.mono (by omega))) ob (Tx20.out.keep (Kept.refl _ _) (fun b hb _ => hb.1)) (Nx20.out.keep (Kept.refl _ _) (fun b hb _ => hb.1)) (D20.out.keep (Kept.refl _ _) (fun b hb _ => hb.1)))
                clear ob
                go_wp2_with fail
                go_meet
                case rel => exact HRel.out
            · go_simp
              have hb : Below v13.heap.size v13 (v13.alloc (.cells #[] 105)) := (Below.refl _ _).alloc (Nat.le_refl _) _
              have S21 := Lib.hid (S13.out.trans (hb.mono LBv13))
              have hz : (v13.alloc (.cells #[] 105)).heap.size ≤ v13.heap.size + 1 ∧ v13.heap.size + 1 ≤ (v13.alloc (.cells #[] 105)).heap.size := by rw [size_al]; omega
              have E1_21 := Lib.hid (E1_13.out.below hb E1_13.out.lt)
              have E2_21 := Lib.hid (Ob.made v13 105 #[])
              refine hK _ _ S21.out ?_
              clear hK K hb
              generalize v13.alloc (.cells #[] 105) = v21 at *
              have LBv21 : wr.heap.size + 1 ≤ v21.heap.size := by omega
              have X1_21 : v0.heap.size < v21.heap.size := by have := X1_13; omega
              have X2_21 : v13.heap.size < v21.heap.size := by omega
              refine HeadW_ready (rs := [2]) (by kernel_rfl) rfl rfl ?_
              refine AllW.cons rfl (fun K hK => ?_) AllW.nil
              go_simp
              refine (CR.out _ (HRB.out.trans (S21.out.mono (by omega)))).mono ?_
              rintro e v22 ⟨B1, e1, rfl, hb, ht⟩
              have S22 := Lib.hid (S21.out.trans (hb.mono LBv21))
              have LBv22 : wr.heap.size + 1 ≤ v22.heap.size := Nat.le_trans LBv21 hb.size
              have HSv22 := hb.size
              have E1_22 := Lib.hid (E1_21.out.below hb E1_21.out.lt)
              have E2_22 := Lib.hid (E2_21.out.below hb E2_21.out.lt)
              have X1_22 : v0.heap.size < v22.heap.size := by have := X1_21; omega
              have X2_22 : v13.heap.size < v22.heap.size := by have := X2_21; omega
              have T22 : Hid (Tg v22 (fun b => wr.heap.size + 1 ≤ b ∧ b ≠ v0.heap.size ∧ b ≠ v13.heap.size) B1 m1 e1 r.tg) := Lib.hid (ht.keep (Kept.refl _ _) (fun b hb hlt => by have hb : v21.heap.size ≤ b := hb; refine ⟨by omega, ?_, ?_⟩ <;> omega))
              refine hK _ _ S22.out ?_
              clear hK K hb ht
              refine HeadW_take (i := 11) (v := ?_) G rfl (by kernel_rfl) (by kernel_rfl) (by kernel_rfl) (fun _ _ _ h => h) (Or.inl ⟨by rfl, ?_⟩) S22.out ?_
              rotate_left
              · intro wz hS
                go_simp
                try with_reducible rfl
              refine HeadW_ready (rs := [6]) (by kernel_rfl) rfl rfl ?_
              refine AllW.cons rfl (fun K hK => ?_) AllW.nil
              obtain ⟨B2, e2, v23, ra, ba, oa, qa⟩ := copy_nods_at E1_22.out (HN.out.keep (Kept.all (HRB.out.trans (S22.out.mono (by omega))) _) (fun _ h _ => h)) HM2.out (by omega)
              refine step_append_run rfl (.tmp 28) (.tmp 30) _ _ rfl (by first | rfl | simp [Act.eval]) (by first | rfl | simp [Act.eval]) ra ?_
              have S23 := Lib.hid (S22.out.trans (ba.mono (by omega)))
              have HSv23 := ba.size
              have LBv23 : wr.heap.size + 1 ≤ v23.heap.size := Nat.le_trans LBv22 ba.size
              have E2_23 := Lib.hid (E2_22.out.keep (qa.2 _ (by show v13.heap.size ≠ v0.heap.size; omega) E2_22.out.lt))
              have T23 : Hid (Tg v23 (fun b => wr.heap.size + 1 ≤ b ∧ b ≠ v0.heap.size ∧ b ≠ v13.heap.size) B1 m1 e1 r.tg) := Lib.hid (T22.out.keep (Kept.below_ qa (fun b hb => by obtain ⟨a1, a2, a3⟩ := hb; exact a2)) (fun b hb hlt => by obtain ⟨a1, a2, a3⟩ := hb; refine ⟨a1, ?_, ?_⟩ <;> omega))
              have Tx23 : Hid (Tg v23 (fun b => wr.heap.size + 1 ≤ b ∧ b ≠ 0 ∧ b ≠ v13.heap.size) B1 m1 e1 r.tg) := Lib.hid (T23.out.keep (Kept.refl _ _) (fun b hb hlt => by obtain ⟨a1, a2, a3⟩ := hb; refine ⟨a1, ?_, ?_⟩ <;> omega))
              have N23 : Hid (Nds v23 (fun b => wr.heap.size + 1 ≤ b ∧ b ≠ 0 ∧ b ≠ v13.heap.size) B2 m2 e2 r.cond) := Lib.hid (oa.keep (Kept.refl _ _) (fun b hb hlt => by have hb : b = v0.heap.size ∨ b = v22.heap.size := hb; refine ⟨?_, ?_, ?_⟩ <;> omega))
              refine hK _ _ S23.out ?_
              clear hK K ra ba oa qa
              have X2_23 : v13.heap.size < v23.heap.size := by have := X2_22; omega
              refine HeadW_ready (rs := [10]) (by kernel_rfl) rfl rfl ?_
              refine AllW.cons rfl (fun K hK => ?_) AllW.nil
              obtain ⟨B3, e3, v24, ra, ba, oa, qa⟩ := copy_duts_at E2_23.out (HD.out.keep (Kept.all (HRB.out.trans (S23.out.mono (by omega))) _) (fun _ h _ => h)) HM3.out (by omega)
              refine step_append_run rfl (.tmp 32) (.tmp 34) _ _ rfl (by first | rfl | simp [Act.eval]) (by first | rfl | simp [Act.eval]) ra ?_
              have S24 := Lib.hid (S23.out.trans (ba.mono (by omega)))
              have HSv24 := ba.size
              have LBv24 : wr.heap.size + 1 ≤ v24.heap.size := Nat.le_trans LBv23 ba.size
              have T24 : Hid (Tg v24 (fun b => wr.heap.size + 1 ≤ b ∧ b ≠ 0 ∧ b ≠ v13.heap.size) B1 m1 e1 r.tg) := Lib.hid (Tx23.out.keep (Kept.below_ qa (fun b hb => by obtain ⟨a1, a2, a3⟩ := hb; exact a3)) (fun b hb hlt => by obtain ⟨a1, a2, a3⟩ := hb; refine ⟨a1, ?_, ?_⟩ <;> omega))
              have N24 : Hid (Nds v24 (fun b => wr.heap.size + 1 ≤ b ∧ b ≠ 0 ∧ b ≠ v13.heap.size) B2 m2 e2 r.cond) := Lib.hid (N23.out.keep (Kept.below_ qa (fun b hb => by obtain ⟨a1, a2, a3⟩ := hb; exact a3)) (fun b hb hlt => by obtain ⟨a1, a2, a3⟩ := hb; refine ⟨a1, ?_, ?_⟩ <;> omega))
              have Tx24 : Hid (Tg v24 (fun b => wr.heap.size + 1 ≤ b ∧ b ≠ 0 ∧ b ≠ 0) B1 m1 e1 r.tg) := Lib.hid (T24.out.keep (Kept.refl _ _) (fun b hb hlt => by obtain ⟨a1, a2, a3⟩ := hb; refine ⟨a1, ?_, ?_⟩ <;> omega))
              have Nx24 : Hid (Nds v24 (fun b => wr.heap.size + 1 ≤ b ∧ b ≠ 0 ∧ b ≠ 0) B2 m2 e2 r.cond) := Lib.hid (N24.out.keep (Kept.refl _ _) (fun b hb hlt => by obtain ⟨a1, a2, a3⟩ := hb; refine ⟨a1, ?_, ?_⟩ <;> omega))
              have D24 : Hid (Dus v24 (fun b => wr.heap.size + 1 ≤ b ∧ b ≠ 0 ∧ b ≠ 0) B3 m3 e3 r.ob) := Lib.hid (oa.keep (Kept.refl _ _) (fun b hb hlt => by have hb : b = v13.heap.size ∨ b = v23.heap.size := hb; refine ⟨?_, ?_, ?_⟩ <;> omega))
              refine hK _ _ S24.out ?_
              clear hK K ra ba oa qa
              intro _
              refine ⟨by kernel_rfl, ?_⟩
              simp only [List.drop_succ_cons, List.drop_zero]
              have ob := KRO.out _ S24.out
              have f1 := ob.frozen 2
              have f2 := (ob.put 2 (.slice B1 m1 e1)).frozen 3
              have f3 := ((ob.put 2 (.slice B1 m1 e1)).put 3 (.slice B2 m2 e2)).frozen 4
              have f4 := ob.cell 2
              have f5 := (ob.put 2 (.slice B1 m1 e1)).cell 3
              have f6 := ((ob.put 2 (.slice B1 m1 e1)).put 3 (.slice B2 m2 e2)).cell 4
              have HRel := Lib.hid (copy_r6 (HRB.out.trans (S24.out.mono (by omega))) ob (Tx24.out.keep (Kept.refl _ _) (fun b hb _ => hb.1)) (Nx24.out.keep (Kept.refl _ _) (fun b hb _ => hb.1)) (D24.out.keep (Kept.refl _ _) (fun b hb _ => hb.1)))
              clear ob
              go_wp2_with fail
              go_meet
              case rel => exact HRel.out
          · go_simp
            have hb : Below v0.heap.size v0 (v0.alloc (.cells #[] 105)) := (Below.refl _ _).alloc (Nat.le_refl _) _
            have S25 := Lib.hid (S0.out.trans (hb.mono LBv0))
            have hz : (v0.alloc (.cells #[] 105)).heap.size ≤ v0.heap.size + 1 ∧ v0.heap.size + 1 ≤ (v0.alloc (.cells #[] 105)).heap.size := by rw [size_al]; omega
            have E2_25 := Lib.hid (Ob.made v0 105 #[])
            refine hK _ _ S25.out ?_
            clear hK K hb
            generalize v0.alloc (.cells #[] 105) = v25 at *
            have LBv25 : wr.heap.size + 1 ≤ v25.heap.size := by omega
            have X2_25 : v0.heap.size < v25.heap.size := by omega
            refine HeadW_ready (rs := [2, 3]) (by kernel_rfl) rfl rfl ?_
            refine AllW.cons rfl (fun K hK => ?_) (AllW.cons rfl (fun K hK => ?_) AllW.nil)
            · go_simp
              refine (CR.out _ (HRB.out.trans (S25.out.mono (by omega)))).mono ?_
              rintro e v26 ⟨B1, e1, rfl, hb, ht⟩
              have S26 := Lib.hid (S25.out.trans (hb.mono LBv25))
              have LBv26 : wr.heap.size + 1 ≤ v26.heap.size := Nat.le_trans LBv25 hb.size
              have HSv26 := hb.size
              have E2_26 := Lib.hid (E2_25.out.below hb E2_25.out.lt)
              have X2_26 : v0.heap.size < v26.heap.size := by have := X2_25; omega
              have T26 : Hid (Tg v26 (fun b => wr.heap.size + 1 ≤ b ∧ b ≠ 0 ∧ b ≠ v0.heap.size) B1 m1 e1 r.tg) := Lib.hid (ht.keep (Kept.refl _ _) (fun b hb hlt => by have hb : v25.heap.size ≤ b := hb; refine ⟨by omega, ?_, ?_⟩ <;> omega))
              refine hK _ _ S26.out ?_
              clear hK K hb ht
              refine HeadW_take (i := 11) (v := ?_) G rfl (by kernel_rfl) (by kernel_rfl) (by kernel_rfl) (fun _ _ _ h => h) (Or.inl ⟨by rfl, ?_⟩) S26.out ?_
              rotate_left
              · intro wz hS
                go_simp
                try with_reducible rfl
              refine HeadW_ready (rs := [3]) (by kernel_rfl) rfl rfl ?_
              refine AllW.cons rfl (fun K hK => ?_) AllW.nil
              go_simp
              have hb : Below v26.heap.size v26 (v26.alloc (.cells #[] 41)) := (Below.refl _ _).alloc (Nat.le_refl _) _
              have S27 := Lib.hid (S26.out.trans (hb.mono LBv26))
              have hz : (v26.alloc (.cells #[] 41)).heap.size ≤ v26.heap.size + 1 ∧ v26.heap.size + 1 ≤ (v26.alloc (.cells #[] 41)).heap.size := by rw [size_al]; omega
              have E2_27 := Lib.hid (E2_26.out.below hb E2_26.out.lt)
              have E1_27 := Lib.hid (Ob.made v26 41 #[])
              have T27 : Hid (Tg (v26.alloc (.cells #[] 41)) (fun b => wr.heap.size + 1 ≤ b ∧ b ≠ v26.heap.size ∧ b ≠ v0.heap.size) B1 m1 e1 r.tg) := Lib.hid (T26.out.keep (Kept.all hb _) (fun b hb hlt => by obtain ⟨a1, a2, a3⟩ := hb; refine ⟨a1, ?_, ?_⟩ <;> omega))
              refine hK _ _ S27.out ?_
              clear hK K hb
              generalize v26.alloc (.cells #[] 41) = v27 at *
              have LBv27 : wr.heap.size + 1 ≤ v27.heap.size := by omega
              have X1_27 : v26.heap.size < v27.heap.size := by omega
              have X2_27 : v0.heap.size < v27.heap.size := by have := X2_26; omega
              refine HeadW_ready (rs := [6]) (by kernel_rfl) rfl rfl ?_
              refine AllW.cons rfl (fun K hK => ?_) AllW.nil
              obtain ⟨B2, e2, v28, ra, ba, oa, qa⟩ := copy_nods_at E1_27.out (HN.out.keep (Kept.all (HRB.out.trans (S27.out.mono (by omega))) _) (fun _ h _ => h)) HM2.out (by omega)
              refine step_append_run rfl (.tmp 28) (.tmp 30) _ _ rfl (by first | rfl | simp [Act.eval]) (by first | rfl | simp [Act.eval]) ra ?_
              have S28 := Lib.hid (S27.out.trans (ba.mono (by omega)))
              have HSv28 := ba.size
              have LBv28 : wr.heap.size + 1 ≤ v28.heap.size := Nat.le_trans LBv27 ba.size
              have E2_28 := Lib.hid (E2_27.out.keep (qa.2 _ (by show v0.heap.size ≠ v26.heap.size; omega) E2_27.out.lt))
              have T28 : Hid (Tg v28 (fun b => wr.heap.size + 1 ≤ b ∧ b ≠ v26.heap.size ∧ b ≠ v0.heap.size) B1 m1 e1 r.tg) := Lib.hid (T27.out.keep (Kept.below_ qa (fun b hb => by obtain ⟨a1, a2, a3⟩ := hb; exact a2)) (fun b hb hlt => by obtain ⟨a1, a2, a3⟩ := hb; refine ⟨a1, ?_, ?_⟩ <;> omega))
              have Tx28 : Hid (Tg v28 (fun b => wr.heap.size + 1 ≤ b ∧ b ≠ 0 ∧ b ≠ v0.heap.size) B1 m1 e1 r.tg) := Lib.hid (T28.out.keep (Kept.refl _ _) (fun b hb hlt => by obtain ⟨a1, a2, a3⟩ := hb; refine ⟨a1, ?_, ?_⟩ <;> omega))
              have N28 : Hid (Nds v28 (fun b => wr.heap.size + 1 ≤ b ∧ b ≠ 0 ∧ b ≠ v0.heap.size) B2 m2 e2 r.cond) := Lib.hid (oa.keep (Kept.refl _ _) (fun b hb hlt => by have hb : b = v26.heap.size ∨ b = v27.heap.size := hb; refine ⟨?_, ?_, ?_⟩ <;> omega))
              refine hK _ _ S28.out ?_
              clear hK K ra ba oa qa
              have X2_28 : v0.heap.size < v28.heap.size := by have := X2_27; omega
              refine HeadW_ready (rs := [10]) (by kernel_rfl) rfl rfl ?_
              refine AllW.cons rfl (fun K hK => ?_) AllW.nil
              obtain ⟨B3, e3, v29, ra, ba, oa, qa⟩ := copy_duts_at E2_28.out (HD.out.keep (Kept.all (HRB.out.trans (S28.out.mono (by omega))) _) (fun _ h _ => h)) HM3.out (by omega)
              refine step_append_run rfl (.tmp 32) (.tmp 34) _ _ rfl (by first | rfl | simp [Act.eval]) (by first | rfl | simp [Act.eval]) ra ?_
              have S29 := Lib.hid (S28.out.trans (ba.mono (by omega)))
              have HSv29 := ba.size
              have LBv29 : wr.heap.size + 1 ≤ v29.heap.size := Nat.le_trans LBv28 ba.size
              have T29 : Hid (Tg v29 (fun b => wr.heap.size + 1 ≤ b ∧ b ≠ 0 ∧ b ≠ v0.heap.size) B1 m1 e1 r.tg) := Lib.hid (Tx28.out.keep (Kept.below_ qa (fun b hb => by obtain ⟨a1, a2, a3⟩ := hb; exact a3)) (fun b hb hlt => by obtain ⟨a1, a2, a3⟩ := hb; refine ⟨a1, ?_, ?_⟩ <;> omega))
              have N29 : Hid (Nds v29 (fun b => wr.heap.size + 1 ≤ b ∧ b ≠ 0 ∧ b ≠ v0.heap.size) B2 m2 e2 r.cond) := Lib.hid (N28.out.keep (Kept.below_ qa (fun b hb => by obtain ⟨a1, a2, a3⟩ := hb; exact a3)) (fun b hb hlt => by obtain ⟨a1, a2, a3⟩ := hb; refine ⟨a1, ?_, ?_⟩ <;> omega))
              have Tx29 : Hid (Tg v29 (fun b => wr.heap.size + 1 ≤ b ∧ b ≠ 0 ∧ b ≠ 0) B1 m1 e1 r.tg) := Lib.hid (T29.out.keep (Kept.refl _ _) (fun b hb hlt => by obtain ⟨a1, a2, a3⟩ := hb; refine ⟨a1, ?_, ?_⟩ <;> omega))
              have Nx29 : Hid (Nds v29 (fun b => wr.heap.size + 1 ≤ b ∧ b ≠ 0 ∧ b ≠ 0) B2 m2 e2 r.cond) := Lib.hid (N29.out.keep (Kept.refl _ _) (fun b hb hlt => by obtain ⟨a1, a2, a3⟩ := hb; refine ⟨a1, ?_, ?_⟩ <;> omega))
              have D29 : Hid (Dus v29 (fun b => wr.heap.size + 1 ≤ b ∧ b ≠ 0 ∧ b ≠ 0) B3 m3 e3 r.ob) := Lib.hid (oa.keep (Kept.refl _ _) (fun b hb hlt => by have hb : b = v0.heap.size ∨ b = v28.heap.size := hb; refine ⟨?_, ?_, ?_⟩ <;> omega))
              refine hK _ _ S29.out ?_
              clear hK K ra ba oa qa
              intro _
              refine ⟨by kernel_rfl, ?_⟩
              simp only [List.drop_succ_cons, List.drop_zero]
              have ob := KRO.out _ S29.out
              have f1 := ob.frozen 2
              have f2 := (ob.put 2 (.slice B1 m1 e1)).frozen 3
              have f3 := ((ob.put 2 (.slice B1 m1 e1)).put 3 (.slice B2 m2 e2)).frozen 4
              have f4 := ob.cell 2
              have f5 := (ob.put 2 (.slice B1 m1 e1)).cell 3
              have f6 := ((ob.put 2 (.slice B1 m1 e1)).put 3 (.slice B2 m2 e2)).cell 4
              have HRel := Lib.hid (copy_r6 (HRB.out.trans (S29.out.mono (by omega))) ob (Tx29.out.keep (Kept.refl _ _) (fun b hb _ => hb.1)) (Nx29.out.keep (Kept.refl _ _) (fun b hb _ => hb.1)) (D29.out.keep (Kept.refl _ _) (fun b hb _ => hb.1)))
              clear ob
              go_wp2_with fail
              go_meet
              case rel => exact HRel.out
            · go_simp
              have hb : Below v25.heap.size v25 (v25.alloc (.cells #[] 41)) := (Below.refl _ _).alloc (Nat.le_refl _) _
              have S30 := Lib.hid (S25.out.trans (hb.mono LBv25))
              have hz : (v25.alloc (.cells #[] 41)).heap.size ≤ v25.heap.size + 1 ∧ v25.heap.size + 1 ≤ (v25.alloc (.cells #[] 41)).heap.size := by rw [size_al]; omega
              have E2_30 := Lib.hid (E2_25.out.below hb E2_25.out.lt)
              have E1_30 := Lib.hid (Ob.made v25 41 #[])
              refine hK _ _ S30.out ?_
              clear hK K hb
              generalize v25.alloc (.cells #[] 41) = v30 at *
              have LBv30 : wr.heap.size + 1 ≤ v30.heap.size := by omega
              have X1_30 : v25.heap.size < v30.heap.size := by omega
              have X2_30 : v0.heap.size < v30.heap.size := by have := X2_25; omega
              refine HeadW_ready (rs := [2]) (by kernel_rfl) rfl rfl ?_
              refine AllW.cons rfl (fun K hK => ?_) AllW.nil
              go_simp
              refine (CR.out _ (HRB.out.trans (S30.out.mono (by omega)))).mono ?_
              rintro e v31 ⟨B1, e1, rfl, hb, ht⟩
              have S31 := Lib.hid (S30.out.trans (hb.mono LBv30))
              have LBv31 : wr.heap.size + 1 ≤ v31.heap.size := Nat.le_trans LBv30 hb.size
              have HSv31 := hb.size
              have E1_31 := Lib.hid (E1_30.out.below hb E1_30.out.lt)
              have E2_31 := Lib.hid (E2_30.out.below hb E2_30.out.lt)
              have X1_31 : v25.heap.size < v31.heap.size := by have := X1_30; omega
              have X2_31 : v0.heap.size < v31.heap.size := by have := X2_30; omega
              have T31 : Hid (Tg v31 (fun b => wr.heap.size + 1 ≤ b ∧ b ≠ v25.heap.size ∧ b ≠ v0.heap.size) B1 m1 e1 r.tg) := Lib.hid (ht.keep (Kept.refl _ _) (fun b hb hlt => by have hb : v30.heap.size ≤ b := hb; refine ⟨by omega, ?_, ?_⟩ <;> omega))
              refine hK _ _ S31.out ?_
              clear hK K hb ht
              refine HeadW_take (i := 11) (v := ?_) G rfl (by kernel_rfl) (by kernel_rfl) (by kernel_rfl) (fun _ _ _ h => h) (Or.inl ⟨by rfl, ?_⟩) S31.out ?_
              rotate_left
              · intro wz hS
                go_simp
                try with_reducible rfl
              refine HeadW_ready (rs := [6]) (by kernel_rfl) rfl rfl ?_
              refine AllW.cons rfl (fun K hK => ?_) AllW.nil
              obtain ⟨B2, e2, v32, ra, ba, oa, qa⟩ := copy_nods_at E1_31.out (HN.out.keep (Kept.all (HRB.out.trans (S31.out.mono (by omega))) _) (fun _ h _ => h)) HM2.out (by omega)
              refine step_append_run rfl (.tmp 28) (.tmp 30) _ _ rfl (by first | rfl | simp [Act.eval]) (by first | rfl | simp [Act.eval]) ra ?_
              have S32 := Lib.hid (S31.out.trans (ba.mono (by omega)))
              have HSv32 := ba.size
              have LBv32 : wr.heap.size + 1 ≤ v32.heap.size := Nat.le_trans LBv31 ba.size
              have E2_32 := Lib.hid (E2_31.out.keep (qa.2 _ (by show v0.heap.size ≠ v25.heap.size; omega) E2_31.out.lt))
              have T32 : Hid (Tg v32 (fun b => wr.heap.size + 1 ≤ b ∧ b ≠ v25.heap.size ∧ b ≠ v0.heap.size) B1 m1 e1 r.tg) := Lib.hid (T31.out.keep (Kept.below_ qa (fun b hb => by obtain ⟨a1, a2, a3⟩ := hb; exact a2)) (fun b hb hlt => by obtain ⟨a1, a2, a3⟩ := hb; refine ⟨a1, ?_, ?_⟩ <;> omega))
              have Tx32 : Hid (Tg v32 (fun b => wr.heap.size + 1 ≤ b ∧ b ≠ 0 ∧ b ≠ v0.heap.size) B1 m1 e1 r.tg) := Lib.hid (T32.out.keep (Kept.refl _ _) (fun b hb hlt => by obtain ⟨a1, a2, a3⟩ := hb; refine ⟨a1, ?_, ?_⟩ <;> omega))
              have N32 : Hid (Nds v32 (fun b => wr.heap.size + 1 ≤ b ∧ b ≠ 0 ∧ b ≠ v0.heap.size) B2 m2 e2 r.cond) := Lib.hid (oa.keep (Kept.refl _ _) (fun b hb hlt => by have hb : b = v25.heap.size ∨ b = v31.heap.size := hb; refine ⟨?_, ?_, ?_⟩ <;> omega))
              refine hK _ _ S32.out ?_
              clear hK K ra ba oa qa
              have X2_32 : v0.heap.size < v32.heap.size := by have := X2_31; omega
              refine HeadW_ready (rs := [10]) (by kernel_rfl) rfl rfl ?_
              refine AllW.cons rfl (fun K hK => ?_) AllW.nil
              obtain ⟨B3, e3, v33, ra, ba, oa, qa⟩ := copy_duts_at E2_32.out (HD.out.keep (Kept.all (HRB.out.trans (S32.out.mono (by omega))) _) (fun _ h _ => h)) HM3.out (by omega)
              refine step_append_run rfl (.tmp 32) (.tmp 34) _ _ rfl (by first | rfl | simp [Act.eval]) (by first | rfl | simp [Act.eval]) ra ?_
              have S33 := Lib.hid (S32.out.trans (ba.mono (by omega)))
              have HSv33 := ba.size
              have LBv33 : wr.heap.size + 1 ≤ v33.heap.size := Nat.le_trans LBv32 ba.size
              have T33 : Hid (Tg v33 (fun b => wr.heap.size + 1 ≤ b ∧ b ≠ 0 ∧ b ≠ v0.heap.size) B1 m1 e1 r.tg) := Lib.hid (Tx32.out.keep (Kept.below_ qa (fun b hb => by obtain ⟨a1, a2, a3⟩ := hb; exact a3)) (fun b hb hlt => by obtain ⟨a1, a2, a3⟩ := hb; refine ⟨a1, ?_, ?_⟩ <;> omega))
              have N33 : Hid (Nds v33 (fun b => wr.heap.size + 1 ≤ b ∧ b ≠ 0 ∧ b ≠ v0.heap.size) B2 m2 e2 r.cond) := Lib.hid (N32.out.keep (Kept.below_ qa (fun b hb => by obtain ⟨a1, a2, a3⟩ := hb; exact a3)) (fun b hb hlt => by obtain ⟨a1, a2, a3⟩ := hb; refine ⟨a1, ?_, ?_⟩ <;> omega))
              have Tx33 : Hid (Tg v33 (fun b => wr.heap.size + 1 ≤ b ∧ b ≠ 0 ∧ b ≠ 0) B1 m1 e1 r.tg) := Lib.hid (T33.out.keep (Kept.refl _ _) (fun b hb hlt => by obtain ⟨a1, a2, a3⟩ := hb; refine ⟨a1, ?_, ?_⟩ <;> omega))
              have Nx33 : Hid (Nds v33 (fun b => wr.heap.size + 1 ≤ b ∧ b ≠ 0 ∧ b ≠ 0) B2 m2 e2 r.cond) := Lib.hid (N33.out.keep (Kept.refl _ _) (fun b hb hlt => by obtain ⟨a1, a2, a3⟩ := hb; refine ⟨a1, ?_, ?_⟩ <;> omega))
              have D33 : Hid (Dus v33 (fun b => wr.heap.size + 1 ≤ b ∧ b ≠ 0 ∧ b ≠ 0) B3 m3 e3 r.ob) := Lib.hid (oa.keep (Kept.refl _ _) (fun b hb hlt => by have hb : b = v0.heap.size ∨ b = v32.heap.size := hb; refine ⟨?_, ?_, ?_⟩ <;> omega))
              refine hK _ _ S33.out ?_
              clear hK K ra ba oa qa
              intro _
              refine ⟨by kernel_rfl, ?_⟩
              simp only [List.drop_succ_cons, List.drop_zero]
              have ob := KRO.out _ S33.out
              have f1 := ob.frozen 2
              have f2 := (ob.put 2 (.slice B1 m1 e1)).frozen 3
              have f3 := ((ob.put 2 (.slice B1 m1 e1)).put 3 (.slice B2 m2 e2)).frozen 4
              have f4 := ob.cell 2
              have f5 := (ob.put 2 (.slice B1 m1 e1)).cell 3
              have f6 := ((ob.put 2 (.slice B1 m1 e1)).put 3 (.slice B2 m2 e2)).cell 4
              have HRel := Lib.hid (copy_r6 (HRB.out.trans (S33.out.mono (by omega))) ob (Tx33.out.keep (Kept.refl _ _) (fun b hb _ => hb.1)) (Nx33.out.keep (Kept.refl _ _) (fun b hb _ => hb.1)) (D33.out.keep (Kept.refl _ _) (fun b hb _ => hb.1)))
              clear ob
              go_wp2_with fail
              go_meet
              case rel => exact HRel.out

        case rest =>
          obtain ⟨B1, e1, B2, e2, B3, e3, hob, hb2, ht2, hn2, hd2⟩ := hcut
          obtain ⟨A8, c8, w8, r8, g8, b8⟩ := push_rule (HG.out.below keeps_rul hb2) HID.out (ht2.keep (Kept.refl _ _) (fun b hb _ => HG.out.apart b (Nat.le_of_succ_le hb))) (hn2.keep (Kept.refl _ _) (fun b hb _ => HG.out.apart b (Nat.le_of_succ_le hb))) (hd2.keep (Kept.refl _ _) (fun b hb _ => HG.out.apart b (Nat.le_of_succ_le hb))) (by have := HC2.out; omega)
          have q0 := hob.cell 0
          have q1 := hob.cell 1
          have q2 := hob.cell 2
          have q3 := hob.cell 3
          have q4 := hob.cell 4
          have R8 := Lib.hid r8
          have G8 := Lib.hid g8
          have B8 := Lib.hid ((HB.out.trans (hb2.mono HB.out.size)).trans b8)
          clear hob hb2 ht2 hn2 hd2 r8 g8 b8
          go_wp2_with (at_builtin; refine wpList_append_run (o := ⟨some 42, _, _, _, _, _⟩) rfl _ _ _ _ rfl rfl rfl R8.out ?_)
          go_roundw
          case rel => exact ⟨k + 1, A8, c8, by omega, by go_num, rfl, B8.out, by rw [List.take_add_one, HX.out]; exact G8.out⟩
          case measure => simp [intOf]; omega
      · obtain rfl : k = n2 := by omega
        obtain ⟨wb, hwb⟩ : ∃ wb, wb = wr := ⟨wr, rfl⟩
        subst hwb
        have hg2 := HG.out
        rw [List.take_of_length_le (Nat.le_of_eq HL2.out)] at hg2
        have HG2 := Lib.hid hg2
        have OB2 := Lib.hid (OBw.out.below HB.out OBw.out.lt)
        have OZ2 := Lib.hid (OZw.out.below HB.out OZw.out.lt)
        have cb5 := OB2.out.cell 5
        have hle3 := Rw.le h3
        have hcap3 := Rw.cap h3
        have hbig3 := Rw.big h3
        have HL3 := Lib.hid (Rw.len h3)
        have HC3 : Hid (n3 ≤ sumC (polC d) p.kids ∧ sumC (polC d) p.kids ≤ 3000) := ⟨kids_len h3, by unfold polC at hs; omega⟩
        unfold maxLen at hcap3
        have H3 := Lib.hid h3
        have HIH := Lib.hid IH
        clear hg2 HG h3 IH
        go_wp2
        go_loopw [6, 47] (fun v i wr => ∃ (k : Nat) (A : Option Addr) (c : Nat), k ≤ n3 ∧ i = .int .i64 k ∧ v = .slice A k c ∧ Below wb.heap.size wb wr ∧ Gr 7 (fun w R => PolAt w R d) wr wb.heap.size 32 A k c (p.kids.take k)) (fun v i _ => n3 - (intOf i).toNat)
        case atStart => exact ⟨0, none, 0, Nat.zero_le _, rfl, rfl, Below.refl _ _, Gr.nil _ _ (Nat.le_refl _)⟩
        case round =>
          obtain ⟨k3', A9, c9, hk3, rfl, rfl, hb, hg⟩ := hrel
          have HB3 := Lib.hid hb
          have HG3 := Lib.hid hg
          have BWR : Hid (Below w.heap.size w wr) := Lib.hid (BWw.out.trans ((HB.out.trans (hb.mono HB.out.size)).mono BWw.out.size))
          clear hb hg
          by_cases hlt3 : k3' < n3
          · obtain ⟨b, o, q, d', A5, m5, c5, A6, m6, c6, A7, m7, c7, A8, m8, c8, rfl, hRb, hbl, hq, rfl, ⟨hqid, hqalg⟩, ⟨g0, g1, g2, g3, g4, g5, g6⟩, ht, hr, hkd, ho⟩ := (H3.out.keep (Kept.all BWR.out _) (fun _ h _ => h)).at_ hlt3
            have hsq := sumC_le (f := polC (d' + 1)) hq
            have hbk : Below wr.heap.size wr (wr.alloc (.cells #[.string q.id, .bool q.set, .int .i64 q.alg, .slice A5 m5 c5, .slice A6 m6 c6, .slice A7 m7 c7, .slice A8 m8 c8] 32)) := (Below.refl _ _).alloc (Nat.le_refl _) _
            have hpq : polC (d' + 1) q ≤ 3000 := by have := HC3.out; omega
            have hm6 : m6 ≤ 3000 := by have := Rw.len hr; unfold polC at hpq; omega
            have hm7 : m7 ≤ 3000 := by have := kids_len hkd; unfold polC at hpq; omega
            have HCall := Lib.hid (HIH.out d' rfl (w := wr.alloc (.cells #[.string q.id, .bool q.set, .int .i64 q.alg, .slice A5 m5 c5, .slice A6 m6 c6, .slice A7 m7 c7, .slice A8 m8 c8] 32)) hpq hqid hqalg (ht.keep (Kept.all hbk _) (fun _ h _ => h)) (hr.keep (Kept.all hbk _) (fun _ h _ => h)) (hkd.keep (Kept.all hbk _) (fun _ h _ => h)) (ho.keep (Kept.all hbk _) (fun _ h _ => h)))
            have HX3 := Lib.hid hq
            have HQ : Hid (q.id.size ≤ maxLen ∧ InI q.alg ∧ m6 ≤ 3000 ∧ m7 ≤ 3000) := ⟨hqid, hqalg, hm6, hm7⟩
            have HBK := Lib.hid hbk
            have HLT : k3' < 1000000 := by have := HC3.out; omega
            clear hsq hpq hqid ht hr hkd ho hq hbk hm6 hm7
            go_wp2_with (first
              | (go_at_call 10; (with_reducible refine HCall.out.mono ?_); rintro e w7 ⟨B1, e1, B2, e2, B3, e3, B4, e4, rfl, hb, hp⟩; have hb7 := HBK.out.trans (hb.mono HBK.out.size); obtain ⟨Ax, cx, w8, r8, g8, b8⟩ := push_pol (HG3.out.below (keeps_pol _) hb7) (PolAt.keep (Kept.refl _ _) (fun b hb _ => HG3.out.apart b (Nat.le_trans HBK.out.size hb)) (hp.at_ HQ.out.1 HQ.out.2.1 HQ.out.2.2.1 HQ.out.2.2.2)) HLT; have R8 := Lib.hid r8; have G8 := Lib.hid g8; have B8 := Lib.hid ((HB3.out.trans (hb7.mono HB3.out.size)).trans b8); clear hb hp hb7 r8 g8 b8)
              | (at_builtin; refine wpList_append_run (o := ⟨some 55, _, _, _, _, _⟩) rfl _ _ _ _ rfl rfl rfl R8.out ?_))
            go_roundw
            case rel => exact ⟨k3' + 1, Ax, cx, by omega, by go_num, rfl, B8.out, by rw [List.take_add_one, HX3.out]; exact G8.out⟩
            case measure => simp [intOf]; omega
          · obtain rfl : k3' = n3 := by omega
            have OB3 := Lib.hid (OB2.out.below HB3.out OB2.out.lt)
            have OZ3 := Lib.hid (OZ2.out.below HB3.out OZ2.out.lt)
            have x0 := OB3.out.cell 0
            have x1 := OB3.out.cell 1
            have x2 := OB3.out.cell 2
            have x3 := OB3.out.cell 3
            have x4 := OB3.out.cell 4
            have x5 := OB3.out.cell 5
            have x6 := OB3.out.cell 6
            have y4 := OB3.out.frozen 4
            have y5 := (OB3.out.put 4 (.slice A k c)).frozen 5
            have o1 : Only w.heap.size wr ((wr.setCell ⟨w.heap.size, 4, none⟩ (.slice A k c)).setCell ⟨w.heap.size, 5, none⟩ (.slice A9 k3' c9)) := (Only.refl.setCell (p := ⟨w.heap.size, 4, none⟩) rfl _).setCell (p := ⟨w.heap.size, 5, none⟩) rfl _
            have z0 := OZ3.out.keep (o1.heap OZ3.out.lt (by omega))
            have zc0 := z0.cell 0
            have zf0 := z0.frozen 0
            have z1 := z0.put 0 (.string p.id)
            have zc1 := z1.cell 1
            have zf1 := z1.frozen 1
            have z2 := z1.put 1 (.bool p.set)
            have zc2 := z2.cell 2
            have zf2 := z2.frozen 2
            have z3 := z2.put 2 (.int .i64 p.alg)
            have zc3 := z3.cell 3
            have zf3 := z3.frozen 3
            have z4 := z3.put 3 (.slice B1p n1 d1p)
            have zc4 := z4.cell 4
            have zf4 := z4.frozen 4
            have z5 := z4.put 4 (.slice A k c)
            have zc5 := z5.cell 5
            have zf5 := z5.frozen 5
            have z6 := z5.put 5 (.slice A9 k3' c9)
            have zc6 := z6.cell 6
            have zf6 := z6.frozen 6
            have z7 := z6.put 6 (.slice B4p n4 d4p)
            have o2 := ((((((((Only.refl (r := w.heap.size + 1) (w := (wr.setCell ⟨w.heap.size, 4, none⟩ (.slice A k c)).setCell ⟨w.heap.size, 5, none⟩ (.slice A9 k3' c9))).setCell (p := ⟨w.heap.size + 1, 0, none⟩) rfl (.string p.id)).setCell (p := ⟨w.heap.size + 1, 1, none⟩) rfl (.bool p.set)).setCell (p := ⟨w.heap.size + 1, 2, none⟩) rfl (.int .i64 p.alg)).setCell (p := ⟨w.heap.size + 1, 3, none⟩) rfl (.slice B1p n1 d1p)).setCell (p := ⟨w.heap.size + 1, 4, none⟩) rfl (.slice A k c)).setCell (p := ⟨w.heap.size + 1, 5, none⟩) rfl (.slice A9 k3' c9)).setCell (p := ⟨w.heap.size + 1, 6, none⟩) rfl (.slice B4p n4 d4p))
            have HE := Lib.hid (copy_end BWw.out HB.out HB3.out (by have := OZw.out.lt; omega) o1 o2 TPw.out DPw.out HG2.out (by have := HG3.out; rwa [List.take_of_length_le (Nat.le_of_eq HL3.out)] at this))
            have HZ : Hid (Ob (((((((((wr.setCell ⟨w.heap.size, 4, none⟩ (.slice A k c)).setCell ⟨w.heap.size, 5, none⟩ (.slice A9 k3' c9)).setCell ⟨w.heap.size + 1, 0, none⟩ (.string p.id)).setCell ⟨w.heap.size + 1, 1, none⟩ (.bool p.set)).setCell ⟨w.heap.size + 1, 2, none⟩ (.int .i64 p.alg)).setCell ⟨w.heap.size + 1, 3, none⟩ (.slice B1p n1 d1p)).setCell ⟨w.heap.size + 1, 4, none⟩ (.slice A k c)).setCell ⟨w.heap.size + 1, 5, none⟩ (.slice A9 k3' c9)).setCell ⟨w.heap.size + 1, 6, none⟩ (.slice B4p n4 d4p)) (w.heap.size + 1) 32 #[.string p.id, .bool p.set, .int .i64 p.alg, .slice B1p n1 d1p, .slice A k c, .slice A9 k3' c9, .slice B4p n4 d4p]) := by
              show Ob _ _ _ _
              simpa using z7
            clear o1 o2 z0 z1 z2 z3 z4 z5 z6 z7
            go_wp2
            refine bodyPost_ret (pol_ret rfl rfl HZ.out) rfl ?_
            exact ⟨B1p, d1p, A, c, A9, c9, B4p, d4p, rfl, HE.out⟩
theorem cok_all : ∀ d, CpOk d
  | 0 => copy_step 0 fun d' h => by omega
  | d + 1 => copy_step (d + 1) fun d' h => by
    obtain rfl : d' = d := by omega
    exact cok_all d'
end Go.Proofs.Ytadjfkgnoklmiaa
/- A copy of a policy with one more rule. -/
namespace Go.Proofs.Ytadjfkgnoklmiaa
set_option linter.unusedVariables false
open Go.RowKit

def zzR (p : Pol) : Rul := ⟨⟨#[122, 122, 95, 109, 111, 114, 101]⟩, false, p.tg, [], []⟩
def zzP (p : Pol) : Pol := .mk p.id p.set p.alg p.tg (p.rules ++ [zzR p]) p.kids p.ob
theorem zz_sub {p : Pol} {x : Atm} (h : x ∈ rulA (zzR p)) : x ∈ polA p := by
  have h2 : x ∈ tgA p.tg := by
    rcases List.mem_append.1 h with h | h
    · exact h
    · cases h
  rw [polA_eq]
  simp [h2]
theorem zz_atoms {p : Pol} (hk : p.kids = []) : atomsP (zzP p) = atomsP p := atoms_more p (zzR p) hk fun x h => zz_sub h
theorem zz_short {p : Pol} (h : ∀ x ∈ polA p, ShortA x) : ∀ x ∈ polA (zzP p), ShortA x := fun x hx => by
  rw [polA_eq] at hx
  apply h
  rcases List.mem_append.1 hx with hx | hx
  · rcases List.mem_append.1 hx with hx | hx
    · rw [polA_eq]
      have h2 : x ∈ tgA p.tg := hx
      simp [h2]
    · have h2 : x ∈ (p.rules ++ [zzR p]).flatMap rulA := hx
      rw [List.flatMap_append] at h2
      rcases List.mem_append.1 h2 with h2 | h2
      · rw [polA_eq]; simp [h2]
      · simp at h2
        exact zz_sub h2
  · rw [polA_eq]
    have h2 : x ∈ p.kids.flatMap polA := hx
    simp [h2]
theorem zz_ok : (⟨#[122, 122, 95, 109, 111, 114, 101]⟩ : ByteArray).size ≤ maxLen := by decide +kernel
set_option maxRecDepth 100000 in
set_option maxHeartbeats 1600000 in
theorem more_rule {w w' : World} {d : Nat} {p : Pol} {B1 : Option Addr} {n1 d1 : Nat} {B2 : Option Addr} {n2 d2 : Nat} {B3 : Option Addr} {n3 d3 : Nat} {B4 : Option Addr} {n4 d4 : Nat} (h : CopyTo w w' d p B1 n1 d1 B2 n2 d2 B3 n3 d3 B4 n4 d4) (hid : p.id.size ≤ maxLen) (ha : InI p.alg) (hn2 : n2 ≤ 3000) (hn3 : n3 ≤ 3000) (o : Obj) :
    ∃ A5 c5 w5, (Builtin.append_ #[28, 28] 28 #[.slice B2 n2 d2, .slice (some ⟨w'.heap.size + 1, 0, none⟩) 1 1]).run Try.prog ((w'.alloc o).alloc (.cells #[.string ⟨#[122, 122, 95, 109, 111, 114, 101]⟩, .bool false, .slice B1 n1 d1, .slice none 0 0, .slice none 0 0] 51)) = .ok (.slice A5 (n2 + 1) c5) w5 ∧
      PolIn w5 (fun b => b ≠ w'.heap.size) (zzP p) B1 n1 d1 A5 (n2 + 1) c5 B3 n3 d3 B4 n4 d4 ∧ Below w.heap.size w' w5 ∧ w5.heap[w'.heap.size]? = (w'.alloc o).heap[w'.heap.size]? := by
  obtain ⟨s1, s2, l1, l2, l3, ht, hd, hr, hl, hk⟩ := h
  obtain ⟨V, hV⟩ : ∃ V, w'.alloc o = V := ⟨_, rfl⟩
  have b1 : Below w'.heap.size w' V := by rw [← hV]; exact (Below.refl _ _).alloc (Nat.le_refl _) _
  have e1 : V.heap.size = w'.heap.size + 1 := by rw [← hV, size_al]
  rw [hV]
  obtain ⟨X, hX⟩ : ∃ X, V.alloc (.cells #[.string ⟨#[122, 122, 95, 109, 111, 114, 101]⟩, .bool false, .slice B1 n1 d1, .slice none 0 0, .slice none 0 0] 51) = X := ⟨_, rfl⟩
  have b2 : Below V.heap.size V X := by rw [← hX]; exact (Below.refl _ _).alloc (Nat.le_refl _) _
  have e2 : X.heap.size = w'.heap.size + 2 := by rw [← hX, size_al, e1]
  have b12 := below_step b1 b2
  have hown := hr.lt
  have kX : ∀ R : Nat → Prop, Kept R w' X := fun R => Kept.all b12 R
  -- all in blocks below the copy's end, apart from the row of rules
  let R2 : Nat → Prop := fun b => b < w'.heap.size ∧ some b ≠ (Value.slice B2 n2 d2).ownBlock
  have tX : Tg X R2 B1 n1 d1 p.tg := ht.keep (kX _) (fun b hb hlt => ⟨hlt, fun e => by have := (hown b e.symm).1; omega⟩)
  have dX : Dus X R2 B4 n4 d4 p.ob := hd.keep (kX _) (fun b hb hlt => ⟨hlt, fun e => by have := (hown b e.symm).1; omega⟩)
  have kidX : Pls X R2 d B3 n3 d3 p.kids := (Gr.rw (keeps_pol d) hk (by omega)).keep (kX _) (fun b hb hlt => ⟨hlt, fun e => by have := hl b e.symm; omega⟩) (fun vs x hx hp => PolAt.keep (kX _) (fun b hb hlt => ⟨hlt, fun e => by have := hl b e.symm; omega⟩) hp)
  have rX : Ow 5 (RulAt X R2) X s1 51 B2 n2 d2 p.rules := (hr.below b12).mapP (fun vs x hx hp => hp.keep (kX _) (fun b hb hlt => ⟨hlt, hb.1.2⟩))
  have lX : Rw 5 (RulAt X R2) X (fun _ => True) (some ⟨w'.heap.size + 1, 0, none⟩) 1 1 [zzR p] := by
    have := Rw.lit (k := 5) (P := RulAt X R2) (R := fun _ => True) V 51 (fun _ => [.string ⟨#[122, 122, 95, 109, 111, 114, 101]⟩, .bool false, .slice B1 n1 d1, .slice none 0 0, .slice none 0 0]) [zzR p] (n := 1) rfl (by omega) trivial (fun _ _ => rfl) (fun x hx => by
      simp at hx; subst hx
      exact ⟨B1, n1, d1, none, 0, 0, none, 0, 0, rfl, zz_ok, tX, Rw.nil_ _ _ _ _, Rw.nil_ _ _ _ _⟩)
    rw [e1] at this
    rw [show V.alloc (.cells ([zzR p].flatMap fun _ => [.string ⟨#[122, 122, 95, 109, 111, 114, 101]⟩, .bool false, .slice B1 n1 d1, .slice none 0 0, .slice none 0 0]).toArray 51) = X from hX] at this
    exact this
  obtain ⟨i, hi, hz, hs, hb⟩ := info_of ruleinfo
  obtain ⟨A5, c5, w5, r5, o5, b5, g5, q5⟩ := Ow.app (ty := 28) Try.underlying28 hi hz hs hb rfl (by omega) (by omega) rX lX (fun vs x h => RulAt.one _ _ vs x h) (by omega) (by omega)
  have k5 : ∀ {R : Nat → Prop}, (∀ b, R b → some b ≠ (Value.slice B2 n2 d2).ownBlock) → Kept R X w5 := fun hR => ⟨g5.size, fun b hb hlt => g5.block b hlt (hR b hb)⟩
  have hR2 : ∀ b, R2 b → some b ≠ (Value.slice B2 n2 d2).ownBlock := fun b hb => hb.2
  have hg : ∀ b, R2 b → b < X.heap.size → b ≠ w'.heap.size := fun b hb _ e => by have := hb.1; omega
  rw [hX]
  refine ⟨A5, c5, w5, r5, ⟨⟨hid, ha⟩, tX.keep (k5 hR2) hg, ?_, ⟨d, kidX.keep (k5 hR2) hg⟩, dX.keep (k5 hR2) hg⟩, (b12.mono (by omega)).trans (b5.mono l1), ?_⟩
  · have h1 := o5.mapP (P' := RulAt w5 (fun b => b ≠ w'.heap.size)) (fun vs x hx hp => hp.keep (k5 hR2) hg)
    refine h1.rw (by omega) (fun ad e hge => ?_)
    rcases q5 with q | q
    · have h2 : (Value.slice B2 n2 d2).ownBlock = some ad.block := by rw [← q, e]; rfl
      have := hl _ h2
      show ad.block ≠ _
      omega
    · rw [e] at q
      have h2 : some ad.block = some X.heap.size := q
      injection h2 with h2
      show ad.block ≠ _
      omega
  · have hne : some w'.heap.size ≠ (Value.slice B2 n2 d2).ownBlock := fun e => by have := hl _ e.symm; omega
    rw [g5.block _ (by omega) hne]
    exact b2.block _ (by omega)
end Go.Proofs.Ytadjfkgnoklmiaa
/- append of many cells, one each, to a row of the call's own; what it leaves alone. -/
namespace Go.Proofs.Ytadjfkgnoklmiaa
set_option linter.unusedVariables false
open Go.RowKit

theorem Sl.keep1 {w w' : World} {B n c : Nat} {A : Option Addr} {xs : List Value} (h : Sl w B A n c xs) (hk : ∀ ad, A = some ad → w'.heap[ad.block]? = w.heap[ad.block]?) : Sl w' B A n c xs := by
  obtain ⟨h1, h2, h3, h4⟩ := h
  refine ⟨h1, h2, h3, ?_⟩
  rcases h4 with h4 | ⟨b, o, e, hb, hc⟩
  · exact .inl h4
  · have hk' : w'.heap[b]? = w.heap[b]? := hk _ e
    exact .inr ⟨b, o, e, hb, fun j u hu => (World.cell?_of_block (a := ⟨b, o + j, none⟩) hk').trans (hc j u hu)⟩
theorem Sl.grown {w w' : World} {n c : Nat} {A : Option Addr} {xs : List Value} {v : Value} (h : Sl w w.heap.size A n c xs) (g : w.grownBy w' v.ownBlock) (hne : ∀ ad, A = some ad → v.ownBlock ≠ some ad.block) : Sl w' w'.heap.size A n c xs := by
  rcases Nat.eq_zero_or_pos n with h0 | h0
  · subst h0
    exact ⟨h.1, h.2.1, h.2.2.1, .inl rfl⟩
  · refine (h.keep1 fun ad e => g.block ad.block ?_ ?_).more g.size
    · obtain ⟨b, o, u, e', hb, _⟩ := h.at_ h0
      rw [e] at e'
      injection e' with e'
      subst e'
      exact hb
    · exact fun hh => hne ad e hh.symm
end Go.Proofs.Ytadjfkgnoklmiaa
/- Rows of marks of the call's own: append of many. -/
namespace Go.Proofs.Ytadjfkgnoklmiaa
set_option linter.unusedVariables false
open Go.RowKit

end Go.Proofs.Ytadjfkgnoklmiaa
/- Decisions in memory: rows of duties of the call's own, rows of results. -/
namespace Go.Proofs.Ytadjfkgnoklmiaa
set_option linter.unusedVariables false
open Go.RowKit

def OwD (w : World) (base : Nat) (A : Option Addr) (n c : Nat) (l : List Dut) : Prop :=
  w.ownsRow base 105 3 (.slice A n c) n (l.flatMap Dut.cells) ∧ l.length = n ∧ (∀ x ∈ l, x.ok) ∧ base ≤ w.heap.size
section
variable {w w' : World} {base n c : Nat} {A : Option Addr} {l : List Dut}
theorem OwD.nil (w : World) (base : Nat) (hb : base ≤ w.heap.size) : OwD w base none 0 0 [] := ⟨⟨by simp, .inl ⟨rfl, rfl⟩⟩, rfl, by simp, hb⟩
theorem OwD.below (h : OwD w base A n c l) (hb : Below w.heap.size w w') : OwD w' base A n c l :=
  ⟨h.1.kept (row := none) ⟨hb.os, hb.tape, hb.output, hb.size, fun k hk _ => hb.block k hk⟩ (by
    by_cases hv : (Value.slice A n c).ownBlock = none
    · exact .inl hv
    · exact .inr hv), h.2.1, h.2.2.1, Nat.le_trans h.2.2.2 hb.size⟩
theorem OwD.app {m c2 : Nat} {R : Nat → Prop} {A2 : Option Addr} {ys : List Dut} (h : OwD w base A n c l) (hy : Dus w R A2 m c2 ys) (hn : n + m ≤ 1000000) (ty : Nat) :
    ∃ A' c' w', (Builtin.append_ #[30, 30] ty #[.slice A n c, .slice A2 m c2]).run Try.prog w = .ok (.slice A' (n + m) c') w' ∧ OwD w' base A' (n + m) c' (l ++ ys) ∧ Below base w w' := by
  obtain ⟨A', c', w', r, o, b, _, _⟩ := append_duts (ty := ty) h.1 hy hn h.2.2.2
  exact ⟨A', c', w', r, ⟨o, by rw [List.length_append, h.2.1, Rw.len hy], fun x hx => (List.mem_append.1 hx).elim (h.2.2.1 x) (Rw.all hy x), Nat.le_trans h.2.2.2 b.size⟩, b⟩
theorem OwD.push {x : Dut} (h : OwD w base A n c l) (hx : x.ok) (hn : n < 1000000) (ty : Nat) :
    ∃ A' c' w', (Builtin.append_ #[30, 30] ty #[.slice A n c, .slice (some ⟨w.heap.size, 0, none⟩) 1 1]).run Try.prog (w.alloc (.cells #[.int .i64 x.on, .int .i64 x.kind, .string x.arg] 105)) = .ok (.slice A' (n + 1) c') w' ∧ OwD w' base A' (n + 1) c' (l ++ [x]) ∧ Below base w w' := by
  have a1 : Below w.heap.size w (w.alloc (.cells #[.int .i64 x.on, .int .i64 x.kind, .string x.arg] 105)) := (Below.refl _ _).alloc (Nat.le_refl _) _
  have hl := Dus.lit w (R := fun _ => True) [x] (n := 1) rfl (by omega) trivial (fun y hy => by simp at hy; subst hy; exact hx)
  obtain ⟨A', c', w', r, o, b⟩ := (h.below a1).app (show Dus (w.alloc (.cells #[.int .i64 x.on, .int .i64 x.kind, .string x.arg] 105)) (fun _ => True) (some ⟨w.heap.size, 0, none⟩) 1 1 [x] by simpa [Dut.cells] using hl) (by omega) ty
  exact ⟨A', c', w', r, o, (a1.mono h.2.2.2).trans b⟩
end

def ResAt (w : World) (R : Nat → Prop) (vs : List Value) (r : Res) : Prop := ∃ A n c, vs = [mcell r.m, .slice A n c] ∧ Dus w R A n c r.ob
def Rss (w : World) (R : Nat → Prop) := Rw 2 (ResAt w R) w R
section
variable {w w' : World} {R R' : Nat → Prop} {A : Option Addr} {n c : Nat}
theorem ResAt.keep {vs : List Value} {r : Res} (h : ResAt w R vs r) (hk : Kept R w w') (hR : ∀ b, R b → b < w.heap.size → R' b) : ResAt w' R' vs r := by
  obtain ⟨A, n, c, e, h1⟩ := h
  exact ⟨A, n, c, e, h1.keep hk hR⟩
theorem Rss.keep {l : List Res} (h : Rss w R A n c l) (hk : Kept R w w') (hR : ∀ b, R b → b < w.heap.size → R' b) : Rss w' R' A n c l := Rw.keep h hk hR fun _ _ _ h => h.keep hk hR
theorem ResAt.one {w : World} {R : Nat → Prop} (vs : List Value) (r : Res) (h : ResAt w R vs r) : ∀ v ∈ vs, v.oneCell' = true := by
  obtain ⟨A, n, c, rfl, _⟩ := h
  intro v hv
  simp at hv
  rcases hv with rfl | rfl <;> rfl
theorem Rss.at_ {l : List Res} (h : Rss w R A n c l) {j : Nat} (hj : j < n) : ∃ b o r A' n' c', A = some ⟨b, o, none⟩ ∧ R b ∧ b < w.heap.size ∧ l[j]? = some r ∧
    (w.cell? ⟨b, o + j * 2, none⟩ = some (.complex .f64 (fl r.m.1) (fl r.m.2)) ∧ w.cell? ⟨b, o + j * 2 + 1, none⟩ = some (.slice A' n' c')) ∧ Dus w R A' n' c' r.ob := by
  obtain ⟨b, o, g, vs, e, hb, hlt, hm, hl, hv, A', n', c', rfl, hin⟩ := Rw.at_ h hj
  exact ⟨b, o, g, A', n', c', e, hb, hlt, hm, ⟨hv 0 _ rfl, hv 1 _ rfl⟩, hin⟩
end
end Go.Proofs.Ytadjfkgnoklmiaa
/- Package eval: on, Duties. -/
namespace Go.Proofs.Ytadjfkgnoklmiaa
set_option linter.unusedVariables false
open Go.RowKit
attribute [local go_sem] eq0 feq2 eq4 fgt0 gt2 ord_eq ord_gt ord_lt

end Go.Proofs.Ytadjfkgnoklmiaa
/- Lists of values of the call's own: append. -/
namespace Go.Proofs.Ytadjfkgnoklmiaa
set_option linter.unusedVariables false
open Go.RowKit

def cells3 : List Vl → List Value
  | [] => []
  | v :: r => .int .i64 v.k :: .int .i64 v.n :: .string v.s :: cells3 r
theorem cells3_len (l : List Vl) : (cells3 l).length = l.length * 3 := by
  induction l with
  | nil => rfl
  | cons v r ih => simp [cells3, ih]; omega
theorem cells3_at {l : List Vl} {j : Nat} {v : Vl} (h : l[j]? = some v) : (cells3 l)[j * 3]? = some (.int .i64 v.k) ∧ (cells3 l)[j * 3 + 1]? = some (.int .i64 v.n) ∧ (cells3 l)[j * 3 + 2]? = some (.string v.s) := by
  induction l generalizing j with
  | nil => simp at h
  | cons x r ih =>
    cases j with
    | zero => simp at h; subst h; exact ⟨rfl, rfl, rfl⟩
    | succ j =>
      simp at h
      obtain ⟨a, b, c⟩ := ih h
      have e : (j + 1) * 3 = j * 3 + 1 + 1 + 1 := by omega
      rw [e]
      exact ⟨by simpa [cells3] using a, by simpa [cells3] using b, by simpa [cells3] using c⟩
theorem Vs.of_own {w : World} {base n c : Nat} {A : Option Addr} {l : List Vl} (h : w.ownsRow base 37 3 (.slice A n c) n (cells3 l)) (hok : ∀ v ∈ l, v.ok) : Vs w w.heap.size A n c l := by
  have hl : l.length = n := by have := h.1; rw [cells3_len] at this; omega
  rcases h.2 with ⟨hv, hn⟩ | ⟨g, cap, cur, hv, hb, hg, hnc, hcm, hcs, ht⟩
  · injection hv with h1 h2 h3
    subst h1 h2 h3
    exact ⟨hl, Nat.le_refl _, by simp [maxLen], .inl rfl, hok⟩
  · injection hv with h1 h2 h3
    subst h1 h3
    refine ⟨hl, hnc, hcm, .inr ⟨g, 0, rfl, ?_, fun j v hv => ?_⟩, hok⟩
    · rcases Nat.lt_or_ge g w.heap.size with hlt | hge
      · exact hlt
      · rw [Array.getElem?_eq_none hge] at hg; cases hg
    · have add : ∀ j : Nat, (⟨g, 0, none⟩ : Addr).add j = ⟨g, 0 + j, none⟩ := fun j => by by_cases hj : j = 0 <;> simp [Addr.add, hj]
      obtain ⟨a, b, c⟩ := cells3_at hv
      have h1 := h.cells (g := g) rfl (j * 3) _ a
      have h2 := h.cells (g := g) rfl (j * 3 + 1) _ b
      have h3 := h.cells (g := g) rfl (j * 3 + 2) _ c
      rw [add] at h1 h2 h3
      exact ⟨h1, h2, h3⟩

theorem Vs.keep1 {w w' : World} {B n c b o : Nat} {l : List Vl} (h : Vs w B (some ⟨b, o, none⟩) n c l) (hk : w'.heap[b]? = w.heap[b]?) : Vs w' B (some ⟨b, o, none⟩) n c l := by
  obtain ⟨h1, h2, h3, h4, h5⟩ := h
  refine ⟨h1, h2, h3, ?_, h5⟩
  rcases h4 with h4 | ⟨b', o', e, hb, hc⟩
  · exact .inl h4
  · injection e with e
    injection e with e1 e2
    subst e1 e2
    refine .inr ⟨b, o, rfl, hb, fun j v hv => ?_⟩
    obtain ⟨a1, a2, a3⟩ := hc j v hv
    exact ⟨(World.cell?_of_block hk).trans a1, (World.cell?_of_block hk).trans a2, (World.cell?_of_block hk).trans a3⟩

end Go.Proofs.Ytadjfkgnoklmiaa
/- Requests in memory: rows of attributes, each with its bag. -/
namespace Go.Proofs.Ytadjfkgnoklmiaa
set_option linter.unusedVariables false
open Go.RowKit

def Vls (w : World) (R : Nat → Prop) := Rw 3 (fun vs (v : Vl) => vs = v.cells ∧ v.ok) w R
def GivAt (w : World) (R : Nat → Prop) (vs : List Value) (g : Giv) : Prop := ∃ A n c, vs = [.int .i64 g.cat, .string g.name, .slice A n c] ∧ g.ok ∧ Vls w R A n c g.bag
def Gvs (w : World) (R : Nat → Prop) := Rw 3 (GivAt w R) w R
section
variable {w w' : World} {R R' : Nat → Prop} {A : Option Addr} {n c : Nat}
theorem Vls.keep {l : List Vl} (h : Vls w R A n c l) (hk : Kept R w w') (hR : ∀ b, R b → b < w.heap.size → R' b) : Vls w' R' A n c l := Rw.keep h hk hR fun _ _ _ h => h
theorem GivAt.keep {vs : List Value} {g : Giv} (h : GivAt w R vs g) (hk : Kept R w w') (hR : ∀ b, R b → b < w.heap.size → R' b) : GivAt w' R' vs g := by
  obtain ⟨A, n, c, e, h0, h1⟩ := h
  exact ⟨A, n, c, e, h0, h1.keep hk hR⟩
theorem Gvs.keep {l : List Giv} (h : Gvs w R A n c l) (hk : Kept R w w') (hR : ∀ b, R b → b < w.heap.size → R' b) : Gvs w' R' A n c l := Rw.keep h hk hR fun _ _ _ h => h.keep hk hR
theorem GivAt.one {w : World} {R : Nat → Prop} (vs : List Value) (g : Giv) (h : GivAt w R vs g) : ∀ v ∈ vs, v.oneCell' = true := by
  obtain ⟨A, n, c, rfl, _⟩ := h
  intro v hv
  simp at hv
  rcases hv with rfl | rfl | rfl <;> rfl
theorem Vl.one (v : Vl) : ∀ x ∈ v.cells, x.oneCell' = true := by
  intro x hx
  simp [Vl.cells] at hx
  rcases hx with rfl | rfl | rfl <;> rfl
theorem Vls.at_ {l : List Vl} (h : Vls w R A n c l) {j : Nat} (hj : j < n) : ∃ b o v, A = some ⟨b, o, none⟩ ∧ R b ∧ b < w.heap.size ∧ l[j]? = some v ∧ v.ok ∧
    (w.cell? ⟨b, o + j * 3, none⟩ = some (.int .i64 v.k) ∧ w.cell? ⟨b, o + j * 3 + 1, none⟩ = some (.int .i64 v.n) ∧ w.cell? ⟨b, o + j * 3 + 2, none⟩ = some (.string v.s)) := by
  obtain ⟨b, o, m, vs, e, hb, hlt, hm, hl, hv, rfl, hok⟩ := Rw.at_ h hj
  exact ⟨b, o, m, e, hb, hlt, hm, hok, hv 0 _ rfl, hv 1 _ rfl, hv 2 _ rfl⟩
theorem Gvs.at_ {l : List Giv} (h : Gvs w R A n c l) {j : Nat} (hj : j < n) : ∃ b o g A' n' c', A = some ⟨b, o, none⟩ ∧ R b ∧ b < w.heap.size ∧ l[j]? = some g ∧ g.ok ∧
    (w.cell? ⟨b, o + j * 3, none⟩ = some (.int .i64 g.cat) ∧ w.cell? ⟨b, o + j * 3 + 1, none⟩ = some (.string g.name) ∧ w.cell? ⟨b, o + j * 3 + 2, none⟩ = some (.slice A' n' c')) ∧ Vls w R A' n' c' g.bag := by
  obtain ⟨b, o, g, vs, e, hb, hlt, hm, hl, hv, A', n', c', rfl, hok, hin⟩ := Rw.at_ h hj
  exact ⟨b, o, g, A', n', c', e, hb, hlt, hm, hok, ⟨hv 0 _ rfl, hv 1 _ rfl, hv 2 _ rfl⟩, hin⟩
end
end Go.Proofs.Ytadjfkgnoklmiaa
/- A value stored over another one in its block. -/
namespace Go.Proofs.Ytadjfkgnoklmiaa
open Go.RowKit

theorem Bx.put {w : World} {g : Nat} {k n : Int} {s : ByteArray} (h : Bx w g k n s) (k' n' : Int) (s' : ByteArray) : Bx (((w.setCell ⟨g, 0, none⟩ (.int .i64 k')).setCell ⟨g, 1, none⟩ (.int .i64 n')).setCell ⟨g, 2, none⟩ (.string s')) g k' n' s' := by
  unfold Bx
  simpa using ((Ob.put h 0 (.int .i64 k')).put 1 (.int .i64 n')).put 2 (.string s')
end Go.Proofs.Ytadjfkgnoklmiaa
/- copied: a bag in memory of its own, its texts too. -/
namespace Go.Proofs.Ytadjfkgnoklmiaa
set_option linter.unusedVariables false
open Go.RowKit

end Go.Proofs.Ytadjfkgnoklmiaa
/- place: the first of a category and a name (by slices.IndexFunc). -/
namespace Go.Proofs.Ytadjfkgnoklmiaa
set_option linter.unusedVariables false
open Go.RowKit

end Go.Proofs.Ytadjfkgnoklmiaa
/- Get: what is there, in new memory. -/
namespace Go.Proofs.Ytadjfkgnoklmiaa
set_option linter.unusedVariables false
open Go.RowKit

end Go.Proofs.Ytadjfkgnoklmiaa
/- Package target, walked: truth, same, less, held, Match, All, one, Met. -/
namespace Go.Proofs.Ytadjfkgnoklmiaa
set_option linter.unusedVariables false
open Go.RowKit

end Go.Proofs.Ytadjfkgnoklmiaa
/- Package target, walked: Match, All, one, Met. -/
namespace Go.Proofs.Ytadjfkgnoklmiaa
set_option linter.unusedVariables false
open Go.RowKit

end Go.Proofs.Ytadjfkgnoklmiaa
/- What a node made, in memory; the stack, which is the call's own and is cut and grows. -/
namespace Go.Proofs.Ytadjfkgnoklmiaa
set_option linter.unusedVariables false
open Go.RowKit

def PartAt (w : World) (R : Nat → Prop) (vs : List Value) (p : Prt) : Prop := ∃ A n c, vs = [.slice A n c, .int .i64 p.v.k, .int .i64 p.v.n, .string p.v.s, .int .i64 p.e] ∧ (p.v.ok ∧ InI p.e) ∧ Vls w R A n c p.bag
def Prts (w : World) (R : Nat → Prop) := Rw 5 (PartAt w R) w R
section
variable {w w' : World} {R R' : Nat → Prop} {A : Option Addr} {n c : Nat}
theorem PartAt.keep {vs : List Value} {p : Prt} (h : PartAt w R vs p) (hk : Kept R w w') (hR : ∀ b, R b → b < w.heap.size → R' b) : PartAt w' R' vs p := by
  obtain ⟨A, n, c, e, h0, h1⟩ := h
  exact ⟨A, n, c, e, h0, h1.keep hk hR⟩
theorem Prts.keep {l : List Prt} (h : Prts w R A n c l) (hk : Kept R w w') (hR : ∀ b, R b → b < w.heap.size → R' b) : Prts w' R' A n c l := Rw.keep h hk hR fun _ _ _ h => h.keep hk hR
theorem PartAt.one {w : World} {R : Nat → Prop} (vs : List Value) (p : Prt) (h : PartAt w R vs p) : ∀ v ∈ vs, v.oneCell' = true := by
  obtain ⟨A, n, c, rfl, _⟩ := h
  intro v hv
  simp at hv
  rcases hv with rfl | rfl | rfl | rfl | rfl <;> rfl
theorem Prts.at_ {l : List Prt} (h : Prts w R A n c l) {j : Nat} (hj : j < n) : ∃ b o p A' n' c', A = some ⟨b, o, none⟩ ∧ R b ∧ b < w.heap.size ∧ l[j]? = some p ∧ (p.v.ok ∧ InI p.e) ∧
    (w.cell? ⟨b, o + j * 5, none⟩ = some (.slice A' n' c') ∧ w.cell? ⟨b, o + j * 5 + 1, none⟩ = some (.int .i64 p.v.k) ∧ w.cell? ⟨b, o + j * 5 + 2, none⟩ = some (.int .i64 p.v.n) ∧ w.cell? ⟨b, o + j * 5 + 3, none⟩ = some (.string p.v.s) ∧ w.cell? ⟨b, o + j * 5 + 4, none⟩ = some (.int .i64 p.e)) ∧ Vls w R A' n' c' p.bag := by
  obtain ⟨b, o, g, vs, e, hb, hlt, hm, hl, hv, A', n', c', rfl, hok, hin⟩ := Rw.at_ h hj
  exact ⟨b, o, g, A', n', c', e, hb, hlt, hm, hok, ⟨hv 0 _ rfl, hv 1 _ rfl, hv 2 _ rfl, hv 3 _ rfl, hv 4 _ rfl⟩, hin⟩
end
theorem Rw.drop {α : Type} {k : Nat} {P : List Value → α → Prop} {w : World} {R : Nat → Prop} {A : Option Addr} {n c : Nat} {l : List α} (h : Rw k P w R A n c l) {m : Nat} (hm : m ≤ n) : Rw k P w R (if c = m then A else A.map (·.add (m * k))) (n - m) (c - m) (l.drop m) := by
  obtain ⟨h1, h2, h3, h4⟩ := h
  refine ⟨by rw [List.length_drop]; omega, by omega, ⟨by have := h3.1; omega, by have := h3.2; omega⟩, ?_⟩
  rcases h4 with h4 | ⟨b, o, e, hb, hlt, hc⟩
  · left; omega
  · by_cases hn : n = m
    · left; omega
    · right
      subst e
      rw [if_neg (by omega)]
      refine ⟨b, o + m * k, ?_, hb, hlt, fun j x hx => ?_⟩
      · by_cases hk0 : m * k = 0 <;> simp [Addr.add, hk0]
      · rw [List.getElem?_drop] at hx
        obtain ⟨vs, a1, a2, a3⟩ := hc (m + j) x hx
        refine ⟨vs, a1, fun i v hi => ?_, a3⟩
        rw [Nat.add_assoc o, ← Nat.add_mul]
        exact a2 i v hi
theorem flatten_take {k : Nat} : ∀ {raw : List (List Value)} {j : Nat}, (∀ y ∈ raw, y.length = k) → (raw.take j).flatten = raw.flatten.take (j * k)
  | [], j, _ => by simp
  | y :: raw, 0, _ => by simp
  | y :: raw, j + 1, h => by
    have hy := h y (by simp)
    rw [List.take_succ_cons, List.flatten_cons, List.flatten_cons, flatten_take fun z hz => h z (by simp [hz]), show (j + 1) * k = y.length + j * k by rw [hy, Nat.add_mul]; omega, List.take_length_add_append]
theorem own_block (A : Option Addr) (n n' c c' : Nat) : (Value.slice A n c).ownBlock = (Value.slice A n' c').ownBlock := by cases A <;> rfl
theorem Gr.take {α : Type} {k : Nat} {P : World → (Nat → Prop) → List Value → α → Prop} {w : World} {base : Nat} {E : TypeId} {A : Option Addr} {n c : Nat} {l : List α} (hP : Keeps P) (h : Gr k P w base E A n c l) {j : Nat} (hj : j ≤ n) : Gr k P w base E A j c (l.take j) := by
  obtain ⟨⟨raw, ⟨h0, h1⟩, h2, h3, h4, h5⟩, hb⟩ := h
  have hl : ∀ y ∈ raw.take j, y.length = k := fun y hy => h4 y (List.mem_of_mem_take hy)
  have hr : (raw.take j).length = j := by rw [List.length_take]; omega
  refine ⟨⟨raw.take j, ⟨by rw [flatten_len hl, hr], ?_⟩, hr, by rw [List.length_take]; omega, hl, fun i vs x a b => ?_⟩, hb⟩
  · rcases h1 with ⟨hv, hn⟩ | ⟨g, cap, cur, a, b, r1, r2, r3, r4, r5⟩
    · obtain rfl : j = 0 := by omega
      injection hv with e1 e2 e3
      subst e1 e3
      exact .inl ⟨rfl, rfl⟩
    · injection a with e1 e2 e3
      subst e1 e3
      refine .inr ⟨g, c, cur, rfl, b, r1, by omega, r3, r4, ?_⟩
      rw [flatten_take h4, ← r5, List.take_take]
      congr 1
      exact (Nat.min_eq_left (Nat.mul_le_mul_right k hj)).symm
  · have hij : i < j := by have := (List.getElem?_eq_some_iff.1 a).1; omega
    rw [List.getElem?_take, if_pos hij] at a b
    exact hP _ _ _ _ vs x (h5 i vs x a b) (Kept.refl _ _) (fun b hb _ => ⟨hb.1, by rw [own_block A j n c c]; exact hb.2⟩)
end Go.Proofs.Ytadjfkgnoklmiaa
/- Add, Sub, Mul: the project's and the reference's. -/
namespace Go.Proofs.Ytadjfkgnoklmiaa
set_option linter.unusedVariables false
open Go.RowKit

end Go.Proofs.Ytadjfkgnoklmiaa
/- Package fun's and the reference's functions of values. -/
namespace Go.Proofs.Ytadjfkgnoklmiaa
set_option linter.unusedVariables false
open Go.RowKit

end Go.Proofs.Ytadjfkgnoklmiaa
/- Package expr's small functions: takes, truth, single, literal. -/
namespace Go.Proofs.Ytadjfkgnoklmiaa
set_option linter.unusedVariables false
open Go.RowKit

end Go.Proofs.Ytadjfkgnoklmiaa
/- What conditions come to, plainly: expressions behind each other, truths, what isn't asked for. -/
namespace Go.Proofs.Ytadjfkgnoklmiaa
set_option linter.unusedVariables false

end Go.Proofs.Ytadjfkgnoklmiaa
/- decided: does one of both decide? -/
namespace Go.Proofs.Ytadjfkgnoklmiaa
set_option linter.unusedVariables false
open Go.RowKit

end Go.Proofs.Ytadjfkgnoklmiaa
/- Package fun: judge. -/
namespace Go.Proofs.Ytadjfkgnoklmiaa
set_option linter.unusedVariables false
open Go.RowKit

end Go.Proofs.Ytadjfkgnoklmiaa
/- Package fun: number, reckon, Call. -/
namespace Go.Proofs.Ytadjfkgnoklmiaa
set_option linter.unusedVariables false
open Go.RowKit Go.Sort

theorem Vs.new {w : World} {B n c : Nat} {A : Option Addr} {l : List Vl} (h : Vs w B A n c l) (hB : B ≤ w.heap.size) (x : Obj) : Vs (w.alloc x) B A n c l := h.keep fun k hk => Below.heap_alloc w x k (by omega)

end Go.Proofs.Ytadjfkgnoklmiaa
/- Has: the project's and the reference's. -/
namespace Go.Proofs.Ytadjfkgnoklmiaa
set_option linter.unusedVariables false
open Go.RowKit Go.Sort

end Go.Proofs.Ytadjfkgnoklmiaa
/- reckoned: what a function makes of parts none of which is an error. -/
namespace Go.Proofs.Ytadjfkgnoklmiaa
set_option linter.unusedVariables false
open Go.RowKit Go.Sort

end Go.Proofs.Ytadjfkgnoklmiaa
/- made: what a node makes of what stands ahead. -/
namespace Go.Proofs.Ytadjfkgnoklmiaa
set_option linter.unusedVariables false
open Go.RowKit Go.Sort

end Go.Proofs.Ytadjfkgnoklmiaa
/- What a node makes is a value that memory bears; a right expression at each of its nodes. Plain. -/
namespace Go.Proofs.Ytadjfkgnoklmiaa
set_option linter.unusedVariables false
open Go.RowKit

end Go.Proofs.Ytadjfkgnoklmiaa
/- expr.Value. -/
namespace Go.Proofs.Ytadjfkgnoklmiaa
set_option linter.unusedVariables false
open Go.RowKit Go.Sort

end Go.Proofs.Ytadjfkgnoklmiaa
/- expr.Cond. -/
namespace Go.Proofs.Ytadjfkgnoklmiaa
set_option linter.unusedVariables false
open Go.RowKit Go.Sort

end Go.Proofs.Ytadjfkgnoklmiaa
/- Indet: the project's and the reference's. -/
namespace Go.Proofs.Ytadjfkgnoklmiaa
open Go.RowKit
attribute [local go_sem] eq0 feq2 eq4 fgt0 gt2 ord_eq ord_gt ord_lt run_max_fl

end Go.Proofs.Ytadjfkgnoklmiaa
/- Package eval: effect, Rule. -/
namespace Go.Proofs.Ytadjfkgnoklmiaa
set_option linter.unusedVariables false
open Go.RowKit Go.Sort
attribute [local go_sem] eq0 feq2 eq4 fgt0 gt2 ord_eq ord_gt ord_lt

theorem ev_store {P : Program} {w : World} {a : Addr} {m : Mode} (k : FloatKind) (x y : Nat) : (store a (.complex k x y) m).run P w = stored P w a (.complex k x y) m := run_store P w a _ m rfl
attribute [local go_sem] ev_store
end Go.Proofs.Ytadjfkgnoklmiaa
/- All for any algorithm and any marks. -/
namespace Go.Proofs.Ytadjfkgnoklmiaa
set_option linter.unusedVariables false
open Go.RowKit
attribute [local go_sem] eq0 feq2 eq4 fgt0 gt2 ord_eq ord_gt ord_lt run_max_fl

end Go.Proofs.Ytadjfkgnoklmiaa
/- Package eval: joined, along. -/
namespace Go.Proofs.Ytadjfkgnoklmiaa
set_option linter.unusedVariables false
open Go.RowKit
attribute [local go_sem] eq0 feq2 eq4 fgt0 gt2 ord_eq ord_gt ord_lt ev_store

end Go.Proofs.Ytadjfkgnoklmiaa
/- A builtin append whose run is known, as an operation of a region's head. -/
namespace Go.Proofs.Ytadjfkgnoklmiaa
set_option linter.unusedVariables false
open Go.RowKit

end Go.Proofs.Ytadjfkgnoklmiaa
/- Package eval: parts, decided, Policy. -/
namespace Go.Proofs.Ytadjfkgnoklmiaa
set_option linter.unusedVariables false
open Go.RowKit
attribute [local go_sem] eq0 feq2 eq4 fgt0 gt2 ord_eq ord_gt ord_lt ev_store

def RightAt (p : Pol) : Prop := ∃ d s s', d ≤ 4 ∧ polS d p s = (0, s')
theorem RightAt.all {p : Pol} (h : RightAt p) : (∀ k ∈ p.kids, RightAt k) ∧ (obE p.ob = 0 ∧ tgE p.tg = 0) ∧ (∀ r ∈ p.rules, tgE r.tg = 0 ∧ exprE r.cond = 0 ∧ obE r.ob = 0) ∧ szP p ≤ 700000 ∧ p.rules.length ≤ 16 ∧ p.kids.length ≤ 16 := by
  obtain ⟨d, s, s', hd, e⟩ := h
  match d, hd, e with
  | 0, _, e => simp [polS] at e
  | d + 1, hd, e =>
    have hc := sz_cap (d + 1) e
    obtain ⟨_, h2, h3, h4, h5, s1, s2, h6, h7⟩ := polE_parts e
    have hcap : capP (d + 1) ≤ 700000 := by
      rcases (show d = 0 ∨ d = 1 ∨ d = 2 ∨ d = 3 by omega) with rfl | rfl | rfl | rfl <;> decide
    refine ⟨fun k hk => ?_, ⟨h3, h2⟩, fun r hr => ?_, by omega, h4, h5⟩
    · obtain ⟨x, y, e'⟩ := firsts_all h7 k hk
      exact ⟨d, x, y, by omega, e'⟩
    · obtain ⟨x, y, e'⟩ := firsts_all h6 r hr
      exact rule_parts e'

end Go.Proofs.Ytadjfkgnoklmiaa

/- Package eval: Policy, of a right one. -/
namespace Go.Proofs.Ytadjfkgnoklmiaa
set_option linter.unusedVariables false
open Go.RowKit
attribute [local go_sem] eq0 feq2 eq4 fgt0 gt2 ord_eq ord_gt ord_lt ev_store

end Go.Proofs.Ytadjfkgnoklmiaa
/- bailiffkeep.Few: may a request be gone through in a while? -/
namespace Go.Proofs.Ytadjfkgnoklmiaa
set_option linter.unusedVariables false
open Go.RowKit

end Go.Proofs.Ytadjfkgnoklmiaa
/- bailiffkeep.Asks: a request in new memory. -/
namespace Go.Proofs.Ytadjfkgnoklmiaa
set_option linter.unusedVariables false
open Go.RowKit

end Go.Proofs.Ytadjfkgnoklmiaa
/- apart: the same attribute in memory of its own. -/
namespace Go.Proofs.Ytadjfkgnoklmiaa
set_option linter.unusedVariables false
open Go.RowKit Go.Sort

end Go.Proofs.Ytadjfkgnoklmiaa
/- A store of an attribute into a row of the call's own. -/
namespace Go.Proofs.Ytadjfkgnoklmiaa
set_option linter.unusedVariables false
open Go.RowKit

end Go.Proofs.Ytadjfkgnoklmiaa
/- With: a request with one more attribute, or another one in its place. -/
namespace Go.Proofs.Ytadjfkgnoklmiaa
set_option linter.unusedVariables false
open Go.RowKit

end Go.Proofs.Ytadjfkgnoklmiaa
/- Requests that may be gone through in a while: none of their parts is long. -/
namespace Go.Proofs.Ytadjfkgnoklmiaa
set_option linter.unusedVariables false
open Go.RowKit

end Go.Proofs.Ytadjfkgnoklmiaa
/- The helpers of stage 14's statements: read, x; bailiffkeep.Results of two that are the same. -/
namespace Go.Proofs.Ytadjfkgnoklmiaa
set_option linter.unusedVariables false
open Go.RowKit
attribute [local go_sem] eq0 feq2 eq4 fgt0 gt2 ord_eq ord_gt ord_lt ev_store

end Go.Proofs.Ytadjfkgnoklmiaa
/- Chapter 14's runs, plainly: the policy that is read, and what it comes to. -/
namespace Go.Proofs.Ytadjfkgnoklmiaa
set_option linter.unusedVariables false

end Go.Proofs.Ytadjfkgnoklmiaa
/- Chapter 14's runs, walked. -/
namespace Go.Proofs.Ytadjfkgnoklmiaa
set_option linter.unusedVariables false
open Go.RowKit
attribute [local go_sem] eq0 feq2 eq4 fgt0 gt2 ord_eq ord_gt ord_lt ev_store

end Go.Proofs.Ytadjfkgnoklmiaa

/- What decisions by a policy keep (plain): duties are of the decision; targets; sets of one; order. -/
namespace Go.Proofs.Ytadjfkgnoklmiaa
set_option linter.unusedVariables false

def SureM (m : Mk) : Prop := m = (4, 0) ∨ m = (0, 4)
instance (m : Mk) : Decidable (SureM m) := by unfold SureM; infer_instance
end Go.Proofs.Ytadjfkgnoklmiaa
/- What the laws of stage 14 call: Small, Copy, Right, eval.Policy, in any later world. -/
namespace Go.Proofs.Ytadjfkgnoklmiaa
set_option linter.unusedVariables false
open Go.RowKit

section
variable {w : World} {R : Nat → Prop} {p : Pol} {A1 A2 A3 A4 : Option Addr} {n1 k1 n2 k2 n3 k3 n4 k4 : Nat}
theorem evsmall (h : PolIn w R p A1 n1 k1 A2 n2 k2 A3 n3 k3 A4 n4 k4) : ∃ m, Pls w R m A3 n3 k3 p.kids ∧ ∀ V, Below w.heap.size w V →
    Calls Try.prog 8 #[.agg #[.string p.id, .bool p.set, .int .i64 p.alg, .slice A1 n1 k1, .slice A2 n2 k2, .slice A3 n3 k3, .slice A4 n4 k4]] V fun e w' => e = .returned (.bool (decide (polC (m + 1) p ≤ 3000))) ∧ Below V.heap.size V w' := by
  obtain ⟨h0, h1, h2, ⟨m, h3⟩, h4⟩ := h
  refine ⟨m, h3, fun V hV => ?_⟩
  have hk := Kept.all hV R
  exact small_pol h0.1 (h1.keep hk (fun _ h _ => h)) (h2.keep hk (fun _ h _ => h)) (h3.keep hk (fun _ h _ => h)) (h4.keep hk (fun _ h _ => h))
end
end Go.Proofs.Ytadjfkgnoklmiaa
/- Arguments that come in: a slice of bytes as Sl. -/
namespace Go.Proofs.Ytadjfkgnoklmiaa
set_option linter.unusedVariables false
open Go.RowKit Go.ChangeShapes Go.WideShapes

theorem cell_lt {w : World} {p : Addr} {v : Value} (h : w.cell? p = some v) : p.block < w.heap.size := by
  rcases Nat.lt_or_ge p.block w.heap.size with hlt | hge
  · exact hlt
  · simp [World.cell?, Array.getElem?_eq_none hge] at h

end Go.Proofs.Ytadjfkgnoklmiaa
/- Rows of structs that come in: what any of them asks. -/
namespace Go.Proofs.Ytadjfkgnoklmiaa
set_option linter.unusedVariables false
open Go.RowKit Go.ChangeShapes Go.WideShapes

section
variable {H : Type} {enc : TypeId × Value → H} {w : World} {base : Nat} {spare : Nat → Bool} {held : Bool}

def Wt (P : Program) (t : TypeId) (d : DataW H) : Prop := (d.weights P t).all (fun x => decide (x ≤ reachBytes)) = true
theorem wt_all {P : Program} {e : TypeId} : ∀ {l : List (DataW H)}, (DataW.weightsAll P e l).all (fun x => decide (x ≤ reachBytes)) = true → ∀ d ∈ l, Wt P e d
  | [], _, d, hd => by cases hd
  | x :: l, h, d, hd => by
    rw [DataW.weightsAll, List.all_append, Bool.and_eq_true] at h
    rcases List.mem_cons.1 hd with rfl | hd
    · exact h.1
    · exact wt_all h.2 d hd
theorem wt_slice {P : Program} {t e : TypeId} {a b : List (DataW H)} (ht : P.underlying t = some (.slice e)) (h : Wt P t (.slice a b)) : (a.length + b.length) * P.bytesOf e ≤ reachBytes ∧ ∀ d ∈ a, Wt P e d := by
  unfold Wt at h
  rw [DataW.weights] at h
  simp only [ht] at h
  rw [List.all_cons, List.all_append, Bool.and_eq_true, Bool.and_eq_true] at h
  exact ⟨by simpa using h.1, wt_all h.2.1⟩
theorem wt_each {P : Program} : ∀ {ts : List TypeId} {ds : List (DataW H)}, (DataW.weightsEach P ts ds).all (fun x => decide (x ≤ reachBytes)) = true → ∀ (i : Nat) t d, ts[i]? = some t → ds[i]? = some d → Wt P t d
  | [], _, _, _, _, _, ht, _ => by simp at ht
  | _ :: _, [], _, _, _, _, _, hd => by simp at hd
  | t :: ts, d :: ds, h, 0, t', d', ht, hd => by
    rw [DataW.weightsEach, List.all_append, Bool.and_eq_true] at h
    simp at ht hd
    subst ht hd
    exact h.1
  | t :: ts, d :: ds, h, i + 1, t', d', ht, hd => by
    rw [DataW.weightsEach, List.all_append, Bool.and_eq_true] at h
    exact wt_each h.2 i t' d' (by simpa using ht) (by simpa using hd)
theorem wt_struct {P : Program} {t : TypeId} {fs : Array Field} {parts : List (DataW H)} (ht : P.underlying t = some (.struct fs)) (h : Wt P t (.agg parts)) (i : Nat) (f : Field) (d : DataW H) (hf : fs[i]? = some f) (hd : parts[i]? = some d) : Wt P f.type d := by
  unfold Wt at h
  rw [DataW.weights] at h
  simp only [ht] at h
  exact wt_each h i f.type d (by simp [hf]) hd
theorem open_rows {P : Program} {α : Type} [Inhabited α] {e t : TypeId} {k fuel n c : Nat} {A : Option Addr} {x : DataW H × List MemPlace} {Pn : List Value → α → Prop} (ht : P.underlying t = some (.slice e)) (hC : P.cellsOf e = k) (hk : 0 < k)
    (hby : 0 < P.bytesOf e) (hel : ∀ m cs y, m < fuel → cs.length = k → Wt P e y.1 → DataW.trod enc P w base spare held m e cs = some y → ∃ z, Pn cs z) (hwt : Wt P t x.1) (h : DataW.trod enc P w base spare held fuel t [.slice A n c] = some x) : ∃ l, Rw k Pn w (fun _ => True) A n c l := by
  rcases DataW.trod_slice ht h with ⟨hcs, _⟩ | ⟨a, len, cap, elems, rest, m, hfu, hcs, hxe, hb, hl, hm, hlen, hx, _⟩
  · simp at hcs
    obtain ⟨rfl, rfl, rfl⟩ := hcs
    exact ⟨[], Rw.nil_ _ _ _ _⟩
  · simp at hcs
    obtain ⟨rfl, rfl, rfl⟩ := hcs
    subst hxe
    obtain ⟨hw1, hw2⟩ := wt_slice ht hwt
    have hbig : n ≤ 140737488351232 := by
      rw [List.length_map, List.length_map, hlen] at hw1
      have e1 : n * 1 ≤ (n + rest.length) * P.bytesOf e := Nat.mul_le_mul (by omega) hby
      have e2 : reachBytes = 140737488351232 := rfl
      omega
    have hall : ∀ i, i < n → ∃ z : α, ∃ cs : List Value, cs.length = k ∧ (∀ j, j < k → w.cell? ((a.add (i * k)).add j) = cs[j]?) ∧ Pn cs z := fun i hin => by
      have hi := hx i hin
      rw [hC, List.getElem?_eq_getElem (by omega)] at hi
      obtain ⟨cs, hc, hy⟩ := Option.bind_eq_some_iff.1 hi
      obtain ⟨_, hcl, hat⟩ := World.cells?_some hc
      obtain ⟨z, hz⟩ := hel m cs _ (by omega) hcl (hw2 _ (List.mem_map.2 ⟨_, List.getElem_mem (by omega), rfl⟩)) hy
      exact ⟨z, cs, hcl, hat, hz⟩
    obtain ⟨V, hV⟩ := Go.Deep.choose_lt hall
    refine ⟨(List.range n).map V, by simp, hl, ⟨hm, hbig⟩, ?_⟩
    by_cases h0 : n = 0
    · exact .inl h0
    · right
      obtain ⟨b, o, spot⟩ := a
      obtain ⟨cs0, hl0, hat0, _⟩ := hV 0 (by omega)
      have h00 := hat0 0 hk
      rw [List.getElem?_eq_getElem (by omega)] at h00
      have hspot : spot = none := by simpa [Addr.add] using World.cell?_spot h00
      subst hspot
      refine ⟨b, o, rfl, trivial, by have := cell_lt h00; simpa [Addr.add] using this, fun j x hj => ?_⟩
      rw [List.getElem?_map, Option.map_eq_some_iff] at hj
      obtain ⟨i, hi', rfl⟩ := hj
      have hjn : j < n := by have := (List.getElem?_eq_some_iff.1 hi').1; simpa using this
      have hij : i = j := by rw [List.getElem?_range hjn] at hi'; exact (Option.some.inj hi').symm
      subst hij
      obtain ⟨cs, hcl, hat, hz⟩ := hV i hjn
      refine ⟨cs, hcl, fun q v hq => ?_, hz⟩
      have hqk : q < k := by have := (List.getElem?_eq_some_iff.1 hq).1; omega
      have add : ∀ i k : Nat, ((⟨b, o, none⟩ : Addr).add i).add k = ⟨b, o + i + k, none⟩ := by
        intro i k
        by_cases hi0 : i = 0 <;> by_cases hk0 : k = 0 <;> simp [Addr.add, hi0, hk0]
      have := hat q hqk
      rw [add] at this
      rw [this, hq]

theorem len3 {α : Type} {cs : List α} (h : cs.length = 3) : ∃ v0 v1 v2, cs = [v0, v1, v2] := by
  match cs, h with
  | [v0, v1, v2], _ => exact ⟨v0, v1, v2, rfl⟩
theorem len5 {α : Type} {cs : List α} (h : cs.length = 5) : ∃ v0 v1 v2 v3 v4, cs = [v0, v1, v2, v3, v4] := by
  match cs, h with
  | [v0, v1, v2, v3, v4], _ => exact ⟨v0, v1, v2, v3, v4, rfl⟩
theorem len7 {α : Type} {cs : List α} (h : cs.length = 7) : ∃ v0 v1 v2 v3 v4 v5 v6, cs = [v0, v1, v2, v3, v4, v5, v6] := by
  match cs, h with
  | [v0, v1, v2, v3, v4, v5, v6], _ => exact ⟨v0, v1, v2, v3, v4, v5, v6, rfl⟩
theorem fields3 {P : Program} {e : TypeId} {f0 f1 f2 : Field} {fuel : Nat} {cs : List Value} {x : DataW H × List MemPlace} (he : P.underlying e = some (.struct #[f0, f1, f2])) (hwt : Wt P e x.1) (h : DataW.trod enc P w base spare held fuel e cs = some x) :
    ∃ m, fuel = m + 1 ∧ cs.length = P.cellsOf e ∧ ∃ y0 y1 y2, (Wt P f0.type y0.1 ∧ Wt P f1.type y1.1 ∧ Wt P f2.type y2.1) ∧ DataW.trod enc P w base spare held m f0.type ((cs.drop f0.offset).take (P.cellsOf f0.type)) = some y0 ∧ DataW.trod enc P w base spare held m f1.type ((cs.drop f1.offset).take (P.cellsOf f1.type)) = some y1 ∧ DataW.trod enc P w base spare held m f2.type ((cs.drop f2.offset).take (P.cellsOf f2.type)) = some y2 := by
  obtain ⟨ys, n', hn', hy, hlen, hyl, hf⟩ := DataW.trod_struct he h
  subst hy
  have hw := fun i f d => wt_struct he hwt i f d
  have ysn : ys.length = 3 := hyl
  match ys, ysn with
  | [y0, y1, y2], _ => exact ⟨n', hn', hlen, y0, y1, y2, ⟨hw 0 _ _ rfl rfl, hw 1 _ _ rfl rfl, hw 2 _ _ rfl rfl⟩, hf 0 _ rfl, hf 1 _ rfl, hf 2 _ rfl⟩
theorem fields5 {P : Program} {e : TypeId} {f0 f1 f2 f3 f4 : Field} {fuel : Nat} {cs : List Value} {x : DataW H × List MemPlace} (he : P.underlying e = some (.struct #[f0, f1, f2, f3, f4])) (hwt : Wt P e x.1) (h : DataW.trod enc P w base spare held fuel e cs = some x) :
    ∃ m, fuel = m + 1 ∧ cs.length = P.cellsOf e ∧ ∃ y0 y1 y2 y3 y4, (Wt P f0.type y0.1 ∧ Wt P f1.type y1.1 ∧ Wt P f2.type y2.1 ∧ Wt P f3.type y3.1 ∧ Wt P f4.type y4.1) ∧ DataW.trod enc P w base spare held m f0.type ((cs.drop f0.offset).take (P.cellsOf f0.type)) = some y0 ∧ DataW.trod enc P w base spare held m f1.type ((cs.drop f1.offset).take (P.cellsOf f1.type)) = some y1 ∧ DataW.trod enc P w base spare held m f2.type ((cs.drop f2.offset).take (P.cellsOf f2.type)) = some y2 ∧ DataW.trod enc P w base spare held m f3.type ((cs.drop f3.offset).take (P.cellsOf f3.type)) = some y3 ∧ DataW.trod enc P w base spare held m f4.type ((cs.drop f4.offset).take (P.cellsOf f4.type)) = some y4 := by
  obtain ⟨ys, n', hn', hy, hlen, hyl, hf⟩ := DataW.trod_struct he h
  subst hy
  have hw := fun i f d => wt_struct he hwt i f d
  have ysn : ys.length = 5 := hyl
  match ys, ysn with
  | [y0, y1, y2, y3, y4], _ => exact ⟨n', hn', hlen, y0, y1, y2, y3, y4, ⟨hw 0 _ _ rfl rfl, hw 1 _ _ rfl rfl, hw 2 _ _ rfl rfl, hw 3 _ _ rfl rfl, hw 4 _ _ rfl rfl⟩, hf 0 _ rfl, hf 1 _ rfl, hf 2 _ rfl, hf 3 _ rfl, hf 4 _ rfl⟩
theorem fields7 {P : Program} {e : TypeId} {f0 f1 f2 f3 f4 f5 f6 : Field} {fuel : Nat} {cs : List Value} {x : DataW H × List MemPlace} (he : P.underlying e = some (.struct #[f0, f1, f2, f3, f4, f5, f6])) (hwt : Wt P e x.1) (h : DataW.trod enc P w base spare held fuel e cs = some x) :
    ∃ m, fuel = m + 1 ∧ cs.length = P.cellsOf e ∧ ∃ y0 y1 y2 y3 y4 y5 y6, (Wt P f0.type y0.1 ∧ Wt P f1.type y1.1 ∧ Wt P f2.type y2.1 ∧ Wt P f3.type y3.1 ∧ Wt P f4.type y4.1 ∧ Wt P f5.type y5.1 ∧ Wt P f6.type y6.1) ∧ DataW.trod enc P w base spare held m f0.type ((cs.drop f0.offset).take (P.cellsOf f0.type)) = some y0 ∧ DataW.trod enc P w base spare held m f1.type ((cs.drop f1.offset).take (P.cellsOf f1.type)) = some y1 ∧ DataW.trod enc P w base spare held m f2.type ((cs.drop f2.offset).take (P.cellsOf f2.type)) = some y2 ∧ DataW.trod enc P w base spare held m f3.type ((cs.drop f3.offset).take (P.cellsOf f3.type)) = some y3 ∧ DataW.trod enc P w base spare held m f4.type ((cs.drop f4.offset).take (P.cellsOf f4.type)) = some y4 ∧ DataW.trod enc P w base spare held m f5.type ((cs.drop f5.offset).take (P.cellsOf f5.type)) = some y5 ∧ DataW.trod enc P w base spare held m f6.type ((cs.drop f6.offset).take (P.cellsOf f6.type)) = some y6 := by
  obtain ⟨ys, n', hn', hy, hlen, hyl, hf⟩ := DataW.trod_struct he h
  subst hy
  have hw := fun i f d => wt_struct he hwt i f d
  have ysn : ys.length = 7 := hyl
  match ys, ysn with
  | [y0, y1, y2, y3, y4, y5, y6], _ => exact ⟨n', hn', hlen, y0, y1, y2, y3, y4, y5, y6, ⟨hw 0 _ _ rfl rfl, hw 1 _ _ rfl rfl, hw 2 _ _ rfl rfl, hw 3 _ _ rfl rfl, hw 4 _ _ rfl rfl, hw 5 _ _ rfl rfl, hw 6 _ _ rfl rfl⟩, hf 0 _ rfl, hf 1 _ rfl, hf 2 _ rfl, hf 3 _ rfl, hf 4 _ rfl, hf 5 _ rfl, hf 6 _ rfl⟩
theorem slice_cells {P : Program} {t e : TypeId} {m : Nat} {v : Value} {y : DataW H × List MemPlace} (ht : P.underlying t = some (.slice e)) (h : DataW.trod enc P w base spare held m t [v] = some y) : ∃ A n c, v = .slice A n c := by
  rcases DataW.trod_slice ht h with ⟨hcs, _⟩ | ⟨a, len, cap, elems, rest, m, hfu, hcs, _⟩
  · exact ⟨none, 0, 0, by simpa using hcs⟩
  · exact ⟨some a, len, cap, by simpa using hcs⟩
theorem open_struct {P : Program} {t : TypeId} {fs : Array Field} {r : Reach} {b0 : Nat} {v : Value} {d : DataW H} {p : List MemPlace} (hs : P.underlying t = some (.struct fs)) (hv : Value.okWide P w r b0 t v) (h : DataW.Trod enc P w base spare held t v d p) :
    ∃ (cs : List Value) (m : Nat), v = .agg cs.toArray ∧ DataW.trod enc P w base spare held m t cs = some (d, p) := by
  obtain ⟨cs, rfl, hsz⟩ := WideShapes.okWide_struct hs hv
  obtain ⟨m, hm⟩ := h
  exact ⟨cs.toList, m, by simp, hm⟩
end
end Go.Proofs.Ytadjfkgnoklmiaa
/- Values and attributes that come in. -/
namespace Go.Proofs.Ytadjfkgnoklmiaa
set_option linter.unusedVariables false
open Go.RowKit Go.ChangeShapes Go.WideShapes

instance : Inhabited Atr := ⟨zeroA⟩
section
variable {H : Type} {enc : TypeId × Value → H} {w : World} {base : Nat} {spare : Nat → Bool} {held : Bool}

theorem open_atr_cells {m : Nat} {cs : List Value} {y : DataW H × List MemPlace} (hwt : Wt Try.prog 35 y.1) (h : DataW.trod enc Try.prog w base spare held m 35 cs = some y) : ∃ a : Atr, cs = a.cells ∧ a.ok := by
  obtain ⟨m', _, hlen, y0, y1, y2, ⟨q0, q1, q2⟩, g0, g1, g2⟩ := fields3 Try.underlying35 hwt h
  obtain ⟨v0, v1, v2, rfl⟩ := len3 (hlen.trans (show Try.prog.cellsOf 35 = 3 by kernel_rfl))
  have g0 : DataW.trod enc Try.prog w base spare held m' 3 (([v0, v1, v2] : List Value).drop 0 |>.take (Try.prog.cellsOf 3)) = some y0 := g0
  rw [show Try.prog.cellsOf 3 = 1 by kernel_rfl] at g0
  have g1 : DataW.trod enc Try.prog w base spare held m' 9 (([v0, v1, v2] : List Value).drop 1 |>.take (Try.prog.cellsOf 9)) = some y1 := g1
  rw [show Try.prog.cellsOf 9 = 1 by kernel_rfl] at g1
  have g2 : DataW.trod enc Try.prog w base spare held m' 4 (([v0, v1, v2] : List Value).drop 2 |>.take (Try.prog.cellsOf 4)) = some y2 := g2
  rw [show Try.prog.cellsOf 4 = 1 by kernel_rfl] at g2
  obtain ⟨x0, e0, _, w0⟩ := DataW.trod_int Try.underlying3 (show DataW.trod enc Try.prog w base spare held m' 3 [v0] = some y0 from g0)
  obtain ⟨x1, e1, _, w1⟩ := DataW.trod_string Try.underlying9 (show DataW.trod enc Try.prog w base spare held m' 9 [v1] = some y1 from g1)
  obtain ⟨x2, e2, _⟩ := DataW.trod_bool Try.underlying4 (show DataW.trod enc Try.prog w base spare held m' 4 [v2] = some y2 from g2)
  injection e0 with e0
  injection e1 with e1
  injection e2 with e2
  subst e0 e1 e2
  exact ⟨⟨x0, x1, x2⟩, rfl, wf_bounds w0, w1⟩
theorem open_vl_cells {m : Nat} {cs : List Value} {y : DataW H × List MemPlace} (hwt : Wt Try.prog 37 y.1) (h : DataW.trod enc Try.prog w base spare held m 37 cs = some y) : ∃ a : Vl, cs = a.cells ∧ a.ok := by
  obtain ⟨m', _, hlen, y0, y1, y2, ⟨q0, q1, q2⟩, g0, g1, g2⟩ := fields3 Try.underlying37 hwt h
  obtain ⟨v0, v1, v2, rfl⟩ := len3 (hlen.trans (show Try.prog.cellsOf 37 = 3 by kernel_rfl))
  have g0 : DataW.trod enc Try.prog w base spare held m' 3 (([v0, v1, v2] : List Value).drop 0 |>.take (Try.prog.cellsOf 3)) = some y0 := g0
  rw [show Try.prog.cellsOf 3 = 1 by kernel_rfl] at g0
  have g1 : DataW.trod enc Try.prog w base spare held m' 3 (([v0, v1, v2] : List Value).drop 1 |>.take (Try.prog.cellsOf 3)) = some y1 := g1
  rw [show Try.prog.cellsOf 3 = 1 by kernel_rfl] at g1
  have g2 : DataW.trod enc Try.prog w base spare held m' 9 (([v0, v1, v2] : List Value).drop 2 |>.take (Try.prog.cellsOf 9)) = some y2 := g2
  rw [show Try.prog.cellsOf 9 = 1 by kernel_rfl] at g2
  obtain ⟨x0, e0, _, w0⟩ := DataW.trod_int Try.underlying3 (show DataW.trod enc Try.prog w base spare held m' 3 [v0] = some y0 from g0)
  obtain ⟨x1, e1, _, w1⟩ := DataW.trod_int Try.underlying3 (show DataW.trod enc Try.prog w base spare held m' 3 [v1] = some y1 from g1)
  obtain ⟨x2, e2, _, w2⟩ := DataW.trod_string Try.underlying9 (show DataW.trod enc Try.prog w base spare held m' 9 [v2] = some y2 from g2)
  injection e0 with e0
  injection e1 with e1
  injection e2 with e2
  subst e0 e1 e2
  exact ⟨⟨x0, x1, x2⟩, rfl, wf_bounds w0, wf_bounds w1, w2⟩
end
end Go.Proofs.Ytadjfkgnoklmiaa
