/- Several texts in one: KeepTgt, KeepPol, KeepIs, TgtHelp, TgtApp, AskRight, Open, OpenRows, OpenAtr, OpenPol, OpenAsk, OpenMat, Nums, OpenNums, OpenRng. -/
import Derived.Test.YtjpkemamfccfdaaTgtB
import Derived.Test.YtjpkemamfccfdaaTgtA
import Derived.OpenShut
import Derived.ChangeSlices
import Derived.Deep.Slices
import Derived.Deep.Fields
import Derived.Lib.SmallJoins
import Derived.ProofKit
import Derived.SizedLaws
import Derived.ChangeOld
/- bailiffkeep: how much of a target may be gone through. -/
namespace Go.Proofs.Ytjpkemamfccfdaa
set_option linter.unusedVariables false
open Go.RowKit

theorem takes1_any {w : World} {g m n : Nat} (hl : Lf w g m) (hm : m ≤ 3000) (hn : n < maxLen) :
    Calls Try.prog 37 #[.pointer (some ⟨g, 0, none⟩), .int .i64 (1 + (n : Int))] w fun e w' => e = .returned (.bool (decide (1 + n ≤ m))) ∧ Only g w w' ∧ (1 + n ≤ m → Lf w' g (m - (1 + n))) := by
  have := takes_any (n := 1 + n) hl hm (by omega)
  unfold Taking at this
  rwa [show ((1 + n : Nat) : Int) = 1 + (n : Int) by omega] at this

set_option maxRecDepth 100000 in
set_option maxHeartbeats 1600000 in
theorem ktarget_any {w : World} {R : Nat → Prop} {g m n c : Nat} {A : Option Addr} {l : Tgt} (hl : Lf w g m) (hm : m ≤ 3000) (hR : ∀ b, R b → b ≠ g) (h : Tg w R A n c l) :
    Taking 71 #[.pointer (some ⟨g, 0, none⟩), .slice A n c] w g m (tgC l) := by
  have hle := Rw.le h
  have hcap := Rw.cap h
  have HL := Lib.hid (Rw.len h)
  have hbig := Rw.big h
  have HT := Lib.hid (takes1_any (n := n) hl hm (by unfold maxLen; omega))
  have H := Lib.hid h
  have HR := Lib.hid hR
  have HM := Lib.hid hm
  unfold maxLen at hcap
  unfold Taking
  have HC : Hid (tgC l = 1 + n + sumC anyC l) := by show tgC l = _; unfold tgC; rw [HL.out]
  generalize hcc : tgC l = cc at *
  clear hcc h hl hR hm
  by_cases h1 : 1 + n ≤ m
  · rw [decide_eq_true h1] at HT
    have H1 := Lib.hid h1
    clear h1
    go_enter Try.func71, Try.ntmps71
    go_wp2_with (go_at_call 37; refine HT.out.mono ?_; rintro e w1 ⟨rfl, hb, hw⟩; have B1 := Lib.hid hb; have W1 := Lib.hid (hw H1.out); clear hb hw)
    go_loopw [19] (fun i wr => ∃ k mk : Nat, k ≤ n ∧ i = .int .i64 k ∧ sumC anyC (l.take k) + mk = m - (1 + n) ∧ Lf wr g mk ∧ Only g w wr) (fun i _ => n - (intOf i).toNat)
    case atStart => exact ⟨0, m - (1 + n), Nat.zero_le _, rfl, by rw [sumC_zero]; omega, W1.out, B1.out⟩
    case round =>
      obtain ⟨wo, hwo⟩ : ∃ wo, wo = wr := ⟨wr, rfl⟩
      subst hwo
      obtain ⟨k, mk, hk, rfl, hs, hlf, hb⟩ := hrel
      have HS := Lib.hid hs
      have HB := Lib.hid hb
      have HF := Lib.hid hlf
      clear hs hb hlf
      by_cases hlt : k < n
      · obtain ⟨b, o, x, A', n', c', rfl, hRb, hbl, hx, c0, hin⟩ := (H.out.keep (HB.out.kept HR.out) (fun _ h _ => h)).at_ hlt
        have HX := Lib.hid hx
        have hle' := Rw.le hin
        have hcap' := Rw.cap hin
        have hbig' := Rw.big hin
        have HL' := Lib.hid (Rw.len hin)
        have HIN := Lib.hid hin
        have hsx := sumC_le (f := anyC) hx
        have hex : anyC x = 1 + n' + sumC allC x := by unfold anyC; rw [Rw.len hin]
        have HSX := Lib.hid hsx
        have HEX := Lib.hid hex
        clear hx hin hsx hex
        by_cases h2 : 1 + n' ≤ mk
        · have HT2 := Lib.hid (takes1_any (n := n') HF.out (by have := HS.out; have := HM.out; omega) (by unfold maxLen; omega))
          rw [decide_eq_true h2] at HT2
          unfold maxLen at hcap'
          have H2 := Lib.hid h2
          clear h2
          go_wp2_with (go_at_call 37; refine HT2.out.mono ?_; rintro e w2 ⟨rfl, hb, hw⟩; have B2 := Lib.hid hb; have W2 := Lib.hid (hw H2.out); clear hb hw)
          go_loopw [31] (fun i wq => ∃ k2 m2 : Nat, k2 ≤ n' ∧ i = .int .i64 k2 ∧ sumC allC (x.take k2) + m2 = mk - (1 + n') ∧ Lf wq g m2 ∧ Only g wo wq) (fun i _ => n' - (intOf i).toNat)
          case atStart => exact ⟨0, mk - (1 + n'), Nat.zero_le _, rfl, by rw [sumC_zero]; omega, W2.out, B2.out⟩
          case round =>
            obtain ⟨wq, hwq⟩ : ∃ wq, wq = wr := ⟨wr, rfl⟩
            subst hwq
            obtain ⟨k2, m2, hk2, rfl, hs, hlf, hb⟩ := hrel
            have HS2 := Lib.hid hs
            have HB2 := Lib.hid hb
            have HF2 := Lib.hid hlf
            clear hs hb hlf
            by_cases hlt2 : k2 < n'
            · obtain ⟨b2, o2, y, A2, n2, c2, rfl, hRb2, hbl2, hy, d0, hin2⟩ := (HIN.out.keep (HB2.out.kept HR.out) (fun _ h _ => h)).at_ hlt2
              have HY := Lib.hid hy
              have hle2 := Rw.le hin2
              have hcap2 := Rw.cap hin2
              have hbig2 := Rw.big hin2
              have HL2 := Lib.hid (Rw.len hin2)
              have HIN2 := Lib.hid hin2
              have hsy := sumC_le (f := allC) hy
              have hey : allC y = 1 + n2 + sumC matC y := by unfold allC; rw [Rw.len hin2]
              have HSY := Lib.hid hsy
              have HEY := Lib.hid hey
              clear hy hin2 hsy hey
              by_cases h3 : 1 + n2 ≤ m2
              · have HT3 := Lib.hid (takes1_any (n := n2) HF2.out (by have := HS2.out; have := HS.out; have := HM.out; omega) (by unfold maxLen; omega))
                rw [decide_eq_true h3] at HT3
                unfold maxLen at hcap2
                have H3 := Lib.hid h3
                clear h3
                go_wp2_with (go_at_call 37; refine HT3.out.mono ?_; rintro e w3 ⟨rfl, hb, hw⟩; have B3 := Lib.hid hb; have W3 := Lib.hid (hw H3.out); clear hb hw)
                go_loopw [43] (fun i wz => ∃ k3 m3 : Nat, k3 ≤ n2 ∧ i = .int .i64 k3 ∧ sumC matC (y.take k3) + m3 = m2 - (1 + n2) ∧ Lf wz g m3 ∧ Only g wq wz) (fun i _ => n2 - (intOf i).toNat)
                case atStart => exact ⟨0, m2 - (1 + n2), Nat.zero_le _, rfl, by rw [sumC_zero]; omega, W3.out, B3.out⟩
                case round =>
                  obtain ⟨wz, hwz⟩ : ∃ wz, wz = wr := ⟨wr, rfl⟩
                  subst hwz
                  obtain ⟨k3, m3, hk3, rfl, hs, hlf, hb⟩ := hrel
                  have HS3 := Lib.hid hs
                  have HB3 := Lib.hid hb
                  have HF3 := Lib.hid hlf
                  clear hs hb hlf
                  by_cases hlt3 : k3 < n2
                  · obtain ⟨b3, o3, z, rfl, hRb3, hbl3, hz, hok, f0, f1, f2, f3, f4, f5, f6⟩ := (HIN2.out.keep (HB3.out.kept HR.out) (fun _ h _ => h)).at_ hlt3
                    have HZ := Lib.hid hz
                    have HSZ := Lib.hid (sumC_le (f := matC) hz)
                    have HEZ : Hid (matC z = textC z.a.name + textC z.v.s) := rfl
                    have HXT := Lib.hid (ktext_any z.a.name (HF3.out.alloc (.cells #[.int .i64 z.a.cat, .string z.a.name, .bool z.a.must, .int .i64 z.op, .int .i64 z.v.k, .int .i64 z.v.n, .string z.v.s] 28)) (by have := HS3.out; have := HS2.out; have := HS.out; have := HM.out; omega) hok.1.2)
                    unfold Taking at HXT
                    have HOK := Lib.hid hok
                    have HLT : Hid (g < wz.heap.size) := HF3.out.lt
                    clear hz hok
                    by_cases h4 : textC z.a.name ≤ m3
                    · rw [decide_eq_true h4] at HXT
                      have H4 := Lib.hid h4
                      have hne : wz.heap.size ≠ g := by have := HLT.out; omega
                      clear h4
                      by_cases h5 : textC z.v.s ≤ m3 - textC z.a.name
                      · have H5 := Lib.hid h5
                        have d5 := decide_eq_true h5
                        clear h5
                        go_wp2_with (first
                          | (go_at_call 38; (with_reducible refine HXT.out.mono ?_); rintro e w4 ⟨rfl, hb, hw⟩; have B4 := Lib.hid hb; have W4 := Lib.hid (hw H4.out); have BX := Lib.hid ((Ob.made wz 28 #[.int .i64 z.a.cat, .string z.a.name, .bool z.a.must, .int .i64 z.op, .int .i64 z.v.k, .int .i64 z.v.n, .string z.v.s]).keep (hb.heap (by simp) hne)); have g6 := BX.out.cell 6; have HXT2 := Lib.hid (ktext_any z.v.s W4.out (by have := HS3.out; have := HS2.out; have := HS.out; have := HM.out; omega) HOK.out.2.2.2.2); unfold Taking at HXT2; rw [d5] at HXT2; clear hb hw)
                          | (go_at_call 38; (with_reducible refine HXT2.out.mono ?_); rintro e w5 ⟨rfl, hb, hw⟩; have B5 := Lib.hid hb; have W5 := Lib.hid (hw H5.out); clear hb hw))
                        go_roundw
                        case rel => exact ⟨k3 + 1, m3 - textC z.a.name - textC z.v.s, by omega, by go_num, by rw [sumC_take HZ.out, HEZ.out]; have := HS3.out; have := H4.out; have := H5.out; omega, W5.out, HB3.out.trans ((Only.alloc _ _ _).trans (B4.out.trans B5.out))⟩
                        case measure => simp [intOf]; omega
                      · have H5 := Lib.hid h5
                        have d5 := decide_eq_false h5
                        clear h5
                        go_wp2_with (first
                          | (go_at_call 38; (with_reducible refine HXT.out.mono ?_); rintro e w4 ⟨rfl, hb, hw⟩; have B4 := Lib.hid hb; have W4 := Lib.hid (hw H4.out); have BX := Lib.hid ((Ob.made wz 28 #[.int .i64 z.a.cat, .string z.a.name, .bool z.a.must, .int .i64 z.op, .int .i64 z.v.k, .int .i64 z.v.n, .string z.v.s]).keep (hb.heap (by simp) hne)); have g6 := BX.out.cell 6; have HXT2 := Lib.hid (ktext_any z.v.s W4.out (by have := HS3.out; have := HS2.out; have := HS.out; have := HM.out; omega) HOK.out.2.2.2.2); unfold Taking at HXT2; rw [d5] at HXT2; clear hb hw)
                          | (go_at_call 38; (with_reducible refine HXT2.out.mono ?_); rintro e w5 ⟨rfl, hb, hw⟩; have B5 := Lib.hid hb; clear hb hw))
                        go_ret
                        have hbad : ¬ cc ≤ m := by
                          have := HC.out; have := HS.out; have := H1.out; have := HSX.out; have := HEX.out; have := HS2.out; have := H2.out; have := HSY.out; have := HEY.out; have := HS3.out; have := H3.out; have := HSZ.out; have := HEZ.out; have := H4.out; have := H5.out
                          omega
                        exact ⟨ret_bool (decide_eq_false hbad).symm, HB.out.trans (HB2.out.trans (HB3.out.trans ((Only.alloc _ _ _).trans (B4.out.trans B5.out)))), fun h => absurd h hbad⟩
                    · rw [decide_eq_false h4] at HXT
                      have H4 := Lib.hid h4
                      clear h4
                      go_wp2_with (go_at_call 38; refine HXT.out.mono ?_; rintro e w4 ⟨rfl, hb, hw⟩; have B4 := Lib.hid hb; clear hb hw)
                      go_ret
                      have hbad : ¬ cc ≤ m := by
                        have := HC.out; have := HS.out; have := H1.out; have := HSX.out; have := HEX.out; have := HS2.out; have := H2.out; have := HSY.out; have := HEY.out; have := HS3.out; have := H3.out; have := HSZ.out; have := HEZ.out; have := H4.out
                        omega
                      exact ⟨ret_bool (decide_eq_false hbad).symm, HB.out.trans (HB2.out.trans (HB3.out.trans ((Only.alloc _ _ _).trans B4.out))), fun h => absurd h hbad⟩
                  · obtain rfl : k3 = n2 := by omega
                    go_wp2
                    go_roundw
                    case rel =>
                      have hs := HS3.out
                      rw [sumC_all HL2.out] at hs
                      exact ⟨k2 + 1, m3, by omega, by go_num, by rw [sumC_take HY.out, HEY.out]; have := HS2.out; have := H3.out; omega, HF3.out, HB2.out.trans HB3.out⟩
                    case measure => simp [intOf]; omega
              · have HT3 := Lib.hid (takes1_any (n := n2) HF2.out (by have := HS2.out; have := HS.out; have := HM.out; omega) (by unfold maxLen; omega))
                rw [decide_eq_false h3] at HT3
                unfold maxLen at hcap2
                have H3 := Lib.hid h3
                clear h3
                go_wp2_with (go_at_call 37; refine HT3.out.mono ?_; rintro e w3 ⟨rfl, hb, hw⟩; have B3 := Lib.hid hb; clear hb hw)
                go_ret
                have hbad : ¬ cc ≤ m := by
                  have := HC.out; have := HS.out; have := H1.out; have := HSX.out; have := HEX.out; have := HS2.out; have := H2.out; have := HSY.out; have := HEY.out; have := H3.out
                  omega
                exact ⟨ret_bool (decide_eq_false hbad).symm, HB.out.trans (HB2.out.trans B3.out), fun h => absurd h hbad⟩
            · obtain rfl : k2 = n' := by omega
              go_wp2
              go_roundw
              case rel =>
                have hs := HS2.out
                rw [sumC_all HL'.out] at hs
                exact ⟨k + 1, m2, by omega, by go_num, by rw [sumC_take HX.out, HEX.out]; have := HS.out; have := H2.out; omega, HF2.out, HB.out.trans HB2.out⟩
              case measure => simp [intOf]; omega
        · have HT2 := Lib.hid (takes1_any (n := n') HF.out (by have := HS.out; have := HM.out; omega) (by unfold maxLen; omega))
          rw [decide_eq_false h2] at HT2
          unfold maxLen at hcap'
          have H2 := Lib.hid h2
          clear h2
          go_wp2_with (go_at_call 37; refine HT2.out.mono ?_; rintro e w2 ⟨rfl, hb, hw⟩; have B2 := Lib.hid hb; clear hb hw)
          go_ret
          have hbad : ¬ cc ≤ m := by
            have := HC.out; have := HS.out; have := H1.out; have := HSX.out; have := HEX.out; have := H2.out
            omega
          exact ⟨ret_bool (decide_eq_false hbad).symm, HB.out.trans B2.out, fun h => absurd h hbad⟩
      · obtain rfl : k = n := by omega
        go_wp2
        go_ret
        have hs := HS.out
        rw [sumC_all HL.out] at hs
        have := HC.out
        have := H1.out
        exact ⟨ret_bool (decide_eq_true (by omega)).symm, HB.out, fun _ => by rw [show m - cc = mk by omega]; exact HF.out⟩
  · rw [decide_eq_false h1] at HT
    have H1 := Lib.hid h1
    clear h1
    go_enter Try.func71, Try.ntmps71
    go_wp2_with (go_at_call 37; refine HT.out.mono ?_; rintro e w1 ⟨rfl, hb, hw⟩; have B1 := Lib.hid hb; clear hb hw)
    go_ret
    have hbad : ¬ cc ≤ m := by have := HC.out; have := H1.out; omega
    exact ⟨ret_bool (decide_eq_false hbad).symm, B1.out, fun h => absurd h hbad⟩
end Go.Proofs.Ytjpkemamfccfdaa
/- bailiffkeep: how much of a policy may be gone through. -/
namespace Go.Proofs.Ytjpkemamfccfdaa
set_option linter.unusedVariables false
open Go.RowKit

def nodC (n : Nod) : Nat := textC n.a.name + textC n.v.s
def ruleC (r : Rul) : Nat := textC r.id + tgC r.tg + r.cond.length + dutsC r.ob + sumC nodC r.cond
def polC : Nat → Pol → Nat
  | 0, _ => 0
  | d + 1, p => 1 + p.rules.length + textC p.id + tgC p.tg + dutsC p.ob + sumC ruleC p.rules + sumC (polC d) p.kids
/-- A policy whose kids are of no more than so many depths. -/
def KOk (d : Nat) : Prop :=
  ∀ {w : World} {R : Nat → Prop} {g m : Nat} {p : Pol} {A1 A2 A3 A4 : Option Addr} {n1 k1 n2 k2 n3 k3 n4 k4 : Nat}, Lf w g m → m ≤ 3000 → (∀ b, R b → b ≠ g) → p.id.size ≤ maxLen →
    Tg w R A1 n1 k1 p.tg → Rus w R A2 n2 k2 p.rules → Pls w R d A3 n3 k3 p.kids → Dus w R A4 n4 k4 p.ob →
    Taking 56 #[.pointer (some ⟨g, 0, none⟩), .agg #[.string p.id, .bool p.set, .int .i64 p.alg, .slice A1 n1 k1, .slice A2 n2 k2, .slice A3 n3 k3, .slice A4 n4 k4]] w g m (polC (d + 1) p)
theorem Lf.only {w w' : World} {g m : Nat} (h : Lf w g m) (r : Nat) (ho : Only r w w') (hr : g ≠ r) : Lf w' g m := Ob.keep h (ho.heap (Ob.lt h) hr)


set_option maxRecDepth 100000 in
set_option maxHeartbeats 6400000 in
theorem kpol_step (d : Nat) (ih : ∀ d', d = d' + 1 → KOk d') : KOk d := by
  intro w R g m p A1 A2 A3 A4 n1 k1 n2 k2 n3 k3 n4 k4 hl hm hR hid h1 h2 h3 h4
  have big2 := Rw.big h2
  have big3 := Rw.big h3
  have cap2 := Rw.cap h2
  have cap3 := Rw.cap h3
  have le2 := Rw.le h2
  have le3 := Rw.le h3
  unfold maxLen at cap2 cap3
  have HL2 := Lib.hid (Rw.len h2)
  have HL3 := Lib.hid (Rw.len h3)
  have H1 := Lib.hid h1
  have H2 := Lib.hid h2
  have H3 := Lib.hid h3
  have H4 := Lib.hid h4
  have HR := Lib.hid hR
  have HM := Lib.hid hm
  have HID := Lib.hid hid
  have hgn : w.heap.size ≠ g := by have := hl.lt; omega
  have Xhs : Hid (Ob (w.alloc (.cells #[.string p.id, .bool p.set, .int .i64 p.alg, .slice A1 n1 k1, .slice A2 n2 k2, .slice A3 n3 k3, .slice A4 n4 k4] 74)) w.heap.size 74 #[.string p.id, .bool p.set, .int .i64 p.alg, .slice A1 n1 k1, .slice A2 n2 k2, .slice A3 n3 k3, .slice A4 n4 k4]) := Ob.made _ _ _
  have hC0 := Lib.hid (takes1_any (n := n2) (hl.alloc (.cells #[.string p.id, .bool p.set, .int .i64 p.alg, .slice A1 n1 k1, .slice A2 n2 k2, .slice A3 n3 k3, .slice A4 n4 k4] 74)) hm (by unfold maxLen; omega))
  unfold Taking
  have HC : Hid (polC (d + 1) p = 1 + n2 + textC p.id + tgC p.tg + dutsC p.ob + sumC ruleC p.rules + sumC (polC d) p.kids) := by show polC (d + 1) p = _; unfold polC; rw [HL2.out]
  generalize polC (d + 1) p = cc at *
  clear hl hm hR hid h1 h2 h3 h4
  by_cases o0 : 1 + n2 ≤ m
  · rw [decide_eq_true o0] at hC0
    have Ok0 := Lib.hid o0
    clear o0
    by_cases o1 : textC p.id ≤ m - (1 + n2)
    · have dd1 := decide_eq_true o1
      have Ok1 := Lib.hid o1
      clear o1
      by_cases o2 : tgC p.tg ≤ m - (1 + n2) - textC p.id
      · have dd2 := decide_eq_true o2
        have Ok2 := Lib.hid o2
        clear o2
        by_cases o3 : dutsC p.ob ≤ m - (1 + n2) - textC p.id - tgC p.tg
        · have dd3 := decide_eq_true o3
          have Ok3 := Lib.hid o3
          clear o3
          go_enter Try.func56, Try.ntmps56
          go_wp2_with (first
            | (go_at_call 37; (with_reducible refine hC0.out.mono ?_); rintro e vh0 ⟨rfl, hb, hw⟩; have Bh0 := Lib.hid hb; have Lh0 := Lib.hid (hw Ok0.out); have Xh0 := Lib.hid (Xhs.out.keep (hb.heap Xhs.out.lt hgn)); have yh00 := Xh0.out.cell 0; have hC1 := Lib.hid (ktext_any p.id Lh0.out (by have := HM.out; omega) HID.out); unfold Taking at hC1; rw [dd1] at hC1; clear hb hw)
            | (go_at_call 38; (with_reducible refine hC1.out.mono ?_); rintro e vh1 ⟨rfl, hb, hw⟩; have Bh1 := Lib.hid hb; have Lh1 := Lib.hid (hw Ok1.out); have Xh1 := Lib.hid (Xh0.out.keep (hb.heap Xh0.out.lt hgn)); have yh13 := Xh1.out.cell 3; have hC2 := Lib.hid (ktarget_any Lh1.out (by have := HM.out; omega) HR.out (H1.out.keep ((((Only.alloc g w (.cells #[.string p.id, .bool p.set, .int .i64 p.alg, .slice A1 n1 k1, .slice A2 n2 k2, .slice A3 n3 k3, .slice A4 n4 k4] 74)).trans Bh0.out).trans Bh1.out).kept HR.out) (fun _ h _ => h))); unfold Taking at hC2; rw [dd2] at hC2; clear hb hw)
            | (go_at_call 71; (with_reducible refine hC2.out.mono ?_); rintro e vh2 ⟨rfl, hb, hw⟩; have Bh2 := Lib.hid hb; have Lh2 := Lib.hid (hw Ok2.out); have Xh2 := Lib.hid (Xh1.out.keep (hb.heap Xh1.out.lt hgn)); have yh26 := Xh2.out.cell 6; have hC3 := Lib.hid (kobls_any Lh2.out (by have := HM.out; omega) HR.out (H4.out.keep (((((Only.alloc g w (.cells #[.string p.id, .bool p.set, .int .i64 p.alg, .slice A1 n1 k1, .slice A2 n2 k2, .slice A3 n3 k3, .slice A4 n4 k4] 74)).trans Bh0.out).trans Bh1.out).trans Bh2.out).kept HR.out) (fun _ h _ => h))); unfold Taking at hC3; rw [dd3] at hC3; clear hb hw)
            | (go_at_call 72; (with_reducible refine hC3.out.mono ?_); rintro e vh3 ⟨rfl, hb, hw⟩; have Bh3 := Lib.hid hb; have Lh3 := Lib.hid (hw Ok3.out); have Xh3 := Lib.hid (Xh2.out.keep (hb.heap Xh2.out.lt hgn)); have yh34 := Xh3.out.cell 4; have yh35 := Xh3.out.cell 5; clear hb hw))
          have G3 := Lib.hid (((((Only.alloc g w (.cells #[.string p.id, .bool p.set, .int .i64 p.alg, .slice A1 n1 k1, .slice A2 n2 k2, .slice A3 n3 k3, .slice A4 n4 k4] 74)).trans Bh0.out).trans Bh1.out).trans Bh2.out).trans Bh3.out)
          obtain ⟨m4, hm4⟩ : ∃ m4, m4 = m - (1 + n2) - textC p.id - tgC p.tg - dutsC p.ob := ⟨_, rfl⟩
          rw [← hm4] at Lh3
          have M4 : Hid (m4 + (1 + n2 + textC p.id + tgC p.tg + dutsC p.ob) = m) := by have := Ok0.out; have := Ok1.out; have := Ok2.out; have := Ok3.out; show m4 + _ = m; omega
          clear hm4 Bh0 Bh1 Bh2 Bh3 Lh0 Lh1 Lh2 Xh0 Xh1 Xh2 hC0 hC1 hC2 hC3 Ok0 Ok1 Ok2 Ok3 yh00 yh13 yh26
          go_loopw [42] (fun i wr => ∃ k mk : Nat, k ≤ n2 ∧ i = .int .i64 k ∧ sumC ruleC (p.rules.take k) + mk = m4 ∧ Lf wr g mk ∧ Only g vh3 wr) (fun i _ => n2 - (intOf i).toNat)
          case atStart => exact ⟨0, m4, Nat.zero_le _, rfl, by rw [sumC_zero]; omega, Lh3.out, Only.refl⟩
          case round =>
            obtain ⟨wo, hwo⟩ : ∃ wo, wo = wr := ⟨wr, rfl⟩
            subst hwo
            obtain ⟨k, mk, hk, rfl, hs, hlf, hb⟩ := hrel
            have HS := Lib.hid hs
            have HB := Lib.hid hb
            have HF := Lib.hid hlf
            clear hs hb hlf yh34 yh35
            by_cases hlt : k < n2
            · obtain ⟨b, o, x, B1, j1, q1, B2, j2, q2, B3, j3, q3, rfl, hRb, hbl, hx, xid, ⟨c0, c1, c2, c3, c4⟩, t1, t2, t3⟩ := (H2.out.keep ((G3.out.trans HB.out).kept HR.out) (fun _ h _ => h)).at_ hlt
              have HX := Lib.hid hx
              have HSX := Lib.hid (sumC_le (f := ruleC) hx)
              have HT1 := Lib.hid t1
              have HT2 := Lib.hid t2
              have HT3 := Lib.hid t3
              have HXID := Lib.hid xid
              have big2' := Rw.big t2
              have le2' := Rw.le t2
              have cap2' := Rw.cap t2
              have HLC := Lib.hid (Rw.len t2)
              have HEX : Hid (ruleC x = textC x.id + tgC x.tg + j2 + dutsC x.ob + sumC nodC x.cond) := by show ruleC x = _; unfold ruleC; rw [HLC.out]
              have hne : wo.heap.size ≠ g := by have := HF.out.lt; omega
              have Xrs : Hid (Ob (wo.alloc (.cells #[.string x.id, .bool x.deny, .slice B1 j1 q1, .slice B2 j2 q2, .slice B3 j3 q3] 111)) wo.heap.size 111 #[.string x.id, .bool x.deny, .slice B1 j1 q1, .slice B2 j2 q2, .slice B3 j3 q3]) := Ob.made _ _ _
              have rC0 := Lib.hid (ktext_any x.id (HF.out.alloc (.cells #[.string x.id, .bool x.deny, .slice B1 j1 q1, .slice B2 j2 q2, .slice B3 j3 q3] 111)) (by have := HS.out; have := M4.out; have := HM.out; omega) HXID.out)
              unfold Taking at rC0
              unfold maxLen at cap2'
              clear hx t1 t2 t3 xid
              by_cases hr0 : textC x.id ≤ mk
              · rw [decide_eq_true hr0] at rC0
                have Rk0 := Lib.hid hr0
                clear hr0
                by_cases hr1 : tgC x.tg ≤ mk - textC x.id
                · have rr1 := decide_eq_true hr1
                  have Rk1 := Lib.hid hr1
                  clear hr1
                  by_cases hr2 : j2 ≤ mk - textC x.id - tgC x.tg
                  · have rr2 := decide_eq_true hr2
                    have Rk2 := Lib.hid hr2
                    clear hr2
                    by_cases hr3 : dutsC x.ob ≤ mk - textC x.id - tgC x.tg - j2
                    · have rr3 := decide_eq_true hr3
                      have Rk3 := Lib.hid hr3
                      clear hr3
                      go_wp2_with (first
                        | (go_at_call 38; (with_reducible refine rC0.out.mono ?_); rintro e vr0 ⟨rfl, hb, hw⟩; have Br0 := Lib.hid hb; have Lr0 := Lib.hid (hw Rk0.out); have Xr0 := Lib.hid (Xrs.out.keep (hb.heap Xrs.out.lt hne)); have yr02 := Xr0.out.cell 2; have rC1 := Lib.hid (ktarget_any Lr0.out (by have := HS.out; have := M4.out; have := HM.out; omega) HR.out (HT1.out.keep (((Only.alloc g wo (.cells #[.string x.id, .bool x.deny, .slice B1 j1 q1, .slice B2 j2 q2, .slice B3 j3 q3] 111)).trans Br0.out).kept HR.out) (fun _ h _ => h))); unfold Taking at rC1; rw [rr1] at rC1; clear hb hw)
                        | (go_at_call 71; (with_reducible refine rC1.out.mono ?_); rintro e vr1 ⟨rfl, hb, hw⟩; have Br1 := Lib.hid hb; have Lr1 := Lib.hid (hw Rk1.out); have Xr1 := Lib.hid (Xr0.out.keep (hb.heap Xr0.out.lt hne)); have yr13 := Xr1.out.cell 3; have rC2 := Lib.hid (takes_any (n := j2) Lr1.out (by have := HS.out; have := M4.out; have := HM.out; omega) (by unfold maxLen; omega)); unfold Taking at rC2; rw [rr2] at rC2; clear hb hw)
                        | (go_at_call 37; (with_reducible refine rC2.out.mono ?_); rintro e vr2 ⟨rfl, hb, hw⟩; have Br2 := Lib.hid hb; have Lr2 := Lib.hid (hw Rk2.out); have Xr2 := Lib.hid (Xr1.out.keep (hb.heap Xr1.out.lt hne)); have yr24 := Xr2.out.cell 4; have rC3 := Lib.hid (kobls_any Lr2.out (by have := HS.out; have := M4.out; have := HM.out; omega) HR.out (HT3.out.keep (((((Only.alloc g wo (.cells #[.string x.id, .bool x.deny, .slice B1 j1 q1, .slice B2 j2 q2, .slice B3 j3 q3] 111)).trans Br0.out).trans Br1.out).trans Br2.out).kept HR.out) (fun _ h _ => h))); unfold Taking at rC3; rw [rr3] at rC3; clear hb hw)
                        | (go_at_call 72; (with_reducible refine rC3.out.mono ?_); rintro e vr3 ⟨rfl, hb, hw⟩; have Br3 := Lib.hid hb; have Lr3 := Lib.hid (hw Rk3.out); have Xr3 := Lib.hid (Xr2.out.keep (hb.heap Xr2.out.lt hne)); have yr33 := Xr3.out.cell 3; clear hb hw))
                      have GR := Lib.hid (((((Only.alloc g wo (.cells #[.string x.id, .bool x.deny, .slice B1 j1 q1, .slice B2 j2 q2, .slice B3 j3 q3] 111)).trans Br0.out).trans Br1.out).trans Br2.out).trans Br3.out)
                      obtain ⟨m5, hm5⟩ : ∃ m5, m5 = mk - textC x.id - tgC x.tg - j2 - dutsC x.ob := ⟨_, rfl⟩
                      rw [← hm5] at Lr3
                      have M5 : Hid (m5 + (textC x.id + tgC x.tg + j2 + dutsC x.ob) = mk) := by have := Rk0.out; have := Rk1.out; have := Rk2.out; have := Rk3.out; show m5 + _ = mk; omega
                      clear hm5 Br0 Br1 Br2 Br3 Lr0 Lr1 Lr2 Xr0 Xr1 Xr2 rC0 rC1 rC2 rC3 Rk0 Rk1 Rk2 Rk3 yr02 yr13 yr24
                      go_loopw [76] (fun i wr => ∃ k3 m3 : Nat, k3 ≤ j2 ∧ i = .int .i64 k3 ∧ sumC nodC (x.cond.take k3) + m3 = m5 ∧ Lf wr g m3 ∧ Only g vr3 wr) (fun i _ => j2 - (intOf i).toNat)
                      case atStart => exact ⟨0, m5, Nat.zero_le _, rfl, by rw [sumC_zero]; omega, Lr3.out, Only.refl⟩
                      case round =>
                        obtain ⟨wz, hwz⟩ : ∃ wz, wz = wr := ⟨wr, rfl⟩
                        subst hwz
                        obtain ⟨k3, m3, hk3, rfl, hs, hlf, hb⟩ := hrel
                        have HS3 := Lib.hid hs
                        have HB3 := Lib.hid hb
                        have HF3 := Lib.hid hlf
                        clear hs hb hlf yr33
                        by_cases hlt3 : k3 < j2
                        · obtain ⟨b3, o3, z, rfl, hRb3, hbl3, hz, hok, f0, f1, f2, f3, f4, f5, f6⟩ := (HT2.out.keep ((GR.out.trans HB3.out).kept HR.out) (fun _ h _ => h)).at_ hlt3
                          have HZ := Lib.hid hz
                          have HSZ := Lib.hid (sumC_le (f := nodC) hz)
                          have HEZ : Hid (nodC z = textC z.a.name + textC z.v.s) := rfl
                          have zC0 := Lib.hid (ktext_any z.a.name (HF3.out.alloc (.cells #[.int .i64 z.op, .int .i64 z.v.k, .int .i64 z.v.n, .string z.v.s, .int .i64 z.a.cat, .string z.a.name, .bool z.a.must] 113)) (by have := HS3.out; have := M5.out; have := HS.out; have := M4.out; have := HM.out; omega) hok.2.2.2)
                          unfold Taking at zC0
                          have HOK := Lib.hid hok
                          have hnz : wz.heap.size ≠ g := by have := HF3.out.lt; omega
                          have Xzs : Hid (Ob (wz.alloc (.cells #[.int .i64 z.op, .int .i64 z.v.k, .int .i64 z.v.n, .string z.v.s, .int .i64 z.a.cat, .string z.a.name, .bool z.a.must] 113)) wz.heap.size 113 #[.int .i64 z.op, .int .i64 z.v.k, .int .i64 z.v.n, .string z.v.s, .int .i64 z.a.cat, .string z.a.name, .bool z.a.must]) := Ob.made _ _ _
                          clear hz hok
                          by_cases hz0 : textC z.a.name ≤ m3
                          · rw [decide_eq_true hz0] at zC0
                            have Zk0 := Lib.hid hz0
                            clear hz0
                            by_cases hz1 : textC z.v.s ≤ m3 - textC z.a.name
                            · have zz1 := decide_eq_true hz1
                              have Zk1 := Lib.hid hz1
                              clear hz1
                              go_wp2_with (first
                                | (go_at_call 38; (with_reducible refine zC0.out.mono ?_); rintro e vz0 ⟨rfl, hb, hw⟩; have Bz0 := Lib.hid hb; have Lz0 := Lib.hid (hw Zk0.out); have Xz0 := Lib.hid (Xzs.out.keep (hb.heap Xzs.out.lt hnz)); have yz03 := Xz0.out.cell 3; have zC1 := Lib.hid (ktext_any z.v.s Lz0.out (by have := HS3.out; have := M5.out; have := HS.out; have := M4.out; have := HM.out; omega) HOK.out.2.1.2.2); unfold Taking at zC1; rw [zz1] at zC1; clear hb hw)
                                | (go_at_call 38; (with_reducible refine zC1.out.mono ?_); rintro e vz1 ⟨rfl, hb, hw⟩; have Bz1 := Lib.hid hb; have Lz1 := Lib.hid (hw Zk1.out); have Xz1 := Lib.hid (Xz0.out.keep (hb.heap Xz0.out.lt hnz)); clear hb hw))
                              go_roundw
                              case rel => exact ⟨k3 + 1, m3 - textC z.a.name - textC z.v.s, by omega, by go_num, by rw [sumC_take HZ.out, HEZ.out]; have := HS3.out; have := Zk0.out; have := Zk1.out; omega, Lz1.out, (HB3.out.trans (((Only.alloc g wz (.cells #[.int .i64 z.op, .int .i64 z.v.k, .int .i64 z.v.n, .string z.v.s, .int .i64 z.a.cat, .string z.a.name, .bool z.a.must] 113)).trans Bz0.out).trans Bz1.out))⟩
                              case measure => simp [intOf]; omega
                            · have zz1 := decide_eq_false hz1
                              have Zn1 := Lib.hid hz1
                              clear hz1
                              go_wp2_with (first
                                | (go_at_call 38; (with_reducible refine zC0.out.mono ?_); rintro e vz0 ⟨rfl, hb, hw⟩; have Bz0 := Lib.hid hb; have Lz0 := Lib.hid (hw Zk0.out); have Xz0 := Lib.hid (Xzs.out.keep (hb.heap Xzs.out.lt hnz)); have yz03 := Xz0.out.cell 3; have zC1 := Lib.hid (ktext_any z.v.s Lz0.out (by have := HS3.out; have := M5.out; have := HS.out; have := M4.out; have := HM.out; omega) HOK.out.2.1.2.2); unfold Taking at zC1; rw [zz1] at zC1; clear hb hw)
                                | (go_at_call 38; (with_reducible refine zC1.out.mono ?_); rintro e vz1 ⟨rfl, hb, hw⟩; have Bz1 := Lib.hid hb; clear hb hw))
                              go_ret
                              have hbad : ¬ cc ≤ m := by have := HC.out; have := HS.out; have := M4.out; have := HSX.out; have := HEX.out; have := M5.out; have := HS3.out; have := HSZ.out; have := HEZ.out; have := Zk0.out; have := Zn1.out; omega
                              exact ⟨ret_bool (decide_eq_false hbad).symm, ((((G3.out.trans HB.out).trans GR.out).trans HB3.out).trans (((Only.alloc g wz (.cells #[.int .i64 z.op, .int .i64 z.v.k, .int .i64 z.v.n, .string z.v.s, .int .i64 z.a.cat, .string z.a.name, .bool z.a.must] 113)).trans Bz0.out).trans Bz1.out)), fun h => absurd h hbad⟩
                          · rw [decide_eq_false hz0] at zC0
                            have Zn0 := Lib.hid hz0
                            clear hz0
                            go_wp2_with (first
                              | (go_at_call 38; (with_reducible refine zC0.out.mono ?_); rintro e vz0 ⟨rfl, hb, hw⟩; have Bz0 := Lib.hid hb; clear hb hw))
                            go_ret
                            have hbad : ¬ cc ≤ m := by have := HC.out; have := HS.out; have := M4.out; have := HSX.out; have := HEX.out; have := M5.out; have := HS3.out; have := HSZ.out; have := HEZ.out; have := Zn0.out; omega
                            exact ⟨ret_bool (decide_eq_false hbad).symm, ((((G3.out.trans HB.out).trans GR.out).trans HB3.out).trans ((Only.alloc g wz (.cells #[.int .i64 z.op, .int .i64 z.v.k, .int .i64 z.v.n, .string z.v.s, .int .i64 z.a.cat, .string z.a.name, .bool z.a.must] 113)).trans Bz0.out)), fun h => absurd h hbad⟩
                        · obtain rfl : k3 = j2 := by omega
                          go_wp2
                          go_roundw
                          case rel =>
                            have hs := HS3.out
                            rw [sumC_all HLC.out] at hs
                            exact ⟨k + 1, m3, by omega, by go_num, by rw [sumC_take HX.out, HEX.out]; have := HS.out; have := M5.out; omega, HF3.out, ((HB.out.trans GR.out).trans HB3.out)⟩
                          case measure => simp [intOf]; omega
                    · have rr3 := decide_eq_false hr3
                      have Rn3 := Lib.hid hr3
                      clear hr3
                      go_wp2_with (first
                        | (go_at_call 38; (with_reducible refine rC0.out.mono ?_); rintro e vr0 ⟨rfl, hb, hw⟩; have Br0 := Lib.hid hb; have Lr0 := Lib.hid (hw Rk0.out); have Xr0 := Lib.hid (Xrs.out.keep (hb.heap Xrs.out.lt hne)); have yr02 := Xr0.out.cell 2; have rC1 := Lib.hid (ktarget_any Lr0.out (by have := HS.out; have := M4.out; have := HM.out; omega) HR.out (HT1.out.keep (((Only.alloc g wo (.cells #[.string x.id, .bool x.deny, .slice B1 j1 q1, .slice B2 j2 q2, .slice B3 j3 q3] 111)).trans Br0.out).kept HR.out) (fun _ h _ => h))); unfold Taking at rC1; rw [rr1] at rC1; clear hb hw)
                        | (go_at_call 71; (with_reducible refine rC1.out.mono ?_); rintro e vr1 ⟨rfl, hb, hw⟩; have Br1 := Lib.hid hb; have Lr1 := Lib.hid (hw Rk1.out); have Xr1 := Lib.hid (Xr0.out.keep (hb.heap Xr0.out.lt hne)); have yr13 := Xr1.out.cell 3; have rC2 := Lib.hid (takes_any (n := j2) Lr1.out (by have := HS.out; have := M4.out; have := HM.out; omega) (by unfold maxLen; omega)); unfold Taking at rC2; rw [rr2] at rC2; clear hb hw)
                        | (go_at_call 37; (with_reducible refine rC2.out.mono ?_); rintro e vr2 ⟨rfl, hb, hw⟩; have Br2 := Lib.hid hb; have Lr2 := Lib.hid (hw Rk2.out); have Xr2 := Lib.hid (Xr1.out.keep (hb.heap Xr1.out.lt hne)); have yr24 := Xr2.out.cell 4; have rC3 := Lib.hid (kobls_any Lr2.out (by have := HS.out; have := M4.out; have := HM.out; omega) HR.out (HT3.out.keep (((((Only.alloc g wo (.cells #[.string x.id, .bool x.deny, .slice B1 j1 q1, .slice B2 j2 q2, .slice B3 j3 q3] 111)).trans Br0.out).trans Br1.out).trans Br2.out).kept HR.out) (fun _ h _ => h))); unfold Taking at rC3; rw [rr3] at rC3; clear hb hw)
                        | (go_at_call 72; (with_reducible refine rC3.out.mono ?_); rintro e vr3 ⟨rfl, hb, hw⟩; have Br3 := Lib.hid hb; clear hb hw))
                      go_ret
                      have hbad : ¬ cc ≤ m := by have := HC.out; have := HS.out; have := M4.out; have := HSX.out; have := HEX.out; have := Rk0.out; have := Rk1.out; have := Rk2.out; have := Rn3.out; omega
                      exact ⟨ret_bool (decide_eq_false hbad).symm, ((G3.out.trans HB.out).trans (((((Only.alloc g wo (.cells #[.string x.id, .bool x.deny, .slice B1 j1 q1, .slice B2 j2 q2, .slice B3 j3 q3] 111)).trans Br0.out).trans Br1.out).trans Br2.out).trans Br3.out)), fun h => absurd h hbad⟩
                  · have rr2 := decide_eq_false hr2
                    have Rn2 := Lib.hid hr2
                    clear hr2
                    go_wp2_with (first
                      | (go_at_call 38; (with_reducible refine rC0.out.mono ?_); rintro e vr0 ⟨rfl, hb, hw⟩; have Br0 := Lib.hid hb; have Lr0 := Lib.hid (hw Rk0.out); have Xr0 := Lib.hid (Xrs.out.keep (hb.heap Xrs.out.lt hne)); have yr02 := Xr0.out.cell 2; have rC1 := Lib.hid (ktarget_any Lr0.out (by have := HS.out; have := M4.out; have := HM.out; omega) HR.out (HT1.out.keep (((Only.alloc g wo (.cells #[.string x.id, .bool x.deny, .slice B1 j1 q1, .slice B2 j2 q2, .slice B3 j3 q3] 111)).trans Br0.out).kept HR.out) (fun _ h _ => h))); unfold Taking at rC1; rw [rr1] at rC1; clear hb hw)
                      | (go_at_call 71; (with_reducible refine rC1.out.mono ?_); rintro e vr1 ⟨rfl, hb, hw⟩; have Br1 := Lib.hid hb; have Lr1 := Lib.hid (hw Rk1.out); have Xr1 := Lib.hid (Xr0.out.keep (hb.heap Xr0.out.lt hne)); have yr13 := Xr1.out.cell 3; have rC2 := Lib.hid (takes_any (n := j2) Lr1.out (by have := HS.out; have := M4.out; have := HM.out; omega) (by unfold maxLen; omega)); unfold Taking at rC2; rw [rr2] at rC2; clear hb hw)
                      | (go_at_call 37; (with_reducible refine rC2.out.mono ?_); rintro e vr2 ⟨rfl, hb, hw⟩; have Br2 := Lib.hid hb; clear hb hw))
                    go_ret
                    have hbad : ¬ cc ≤ m := by have := HC.out; have := HS.out; have := M4.out; have := HSX.out; have := HEX.out; have := Rk0.out; have := Rk1.out; have := Rn2.out; omega
                    exact ⟨ret_bool (decide_eq_false hbad).symm, ((G3.out.trans HB.out).trans ((((Only.alloc g wo (.cells #[.string x.id, .bool x.deny, .slice B1 j1 q1, .slice B2 j2 q2, .slice B3 j3 q3] 111)).trans Br0.out).trans Br1.out).trans Br2.out)), fun h => absurd h hbad⟩
                · have rr1 := decide_eq_false hr1
                  have Rn1 := Lib.hid hr1
                  clear hr1
                  go_wp2_with (first
                    | (go_at_call 38; (with_reducible refine rC0.out.mono ?_); rintro e vr0 ⟨rfl, hb, hw⟩; have Br0 := Lib.hid hb; have Lr0 := Lib.hid (hw Rk0.out); have Xr0 := Lib.hid (Xrs.out.keep (hb.heap Xrs.out.lt hne)); have yr02 := Xr0.out.cell 2; have rC1 := Lib.hid (ktarget_any Lr0.out (by have := HS.out; have := M4.out; have := HM.out; omega) HR.out (HT1.out.keep (((Only.alloc g wo (.cells #[.string x.id, .bool x.deny, .slice B1 j1 q1, .slice B2 j2 q2, .slice B3 j3 q3] 111)).trans Br0.out).kept HR.out) (fun _ h _ => h))); unfold Taking at rC1; rw [rr1] at rC1; clear hb hw)
                    | (go_at_call 71; (with_reducible refine rC1.out.mono ?_); rintro e vr1 ⟨rfl, hb, hw⟩; have Br1 := Lib.hid hb; clear hb hw))
                  go_ret
                  have hbad : ¬ cc ≤ m := by have := HC.out; have := HS.out; have := M4.out; have := HSX.out; have := HEX.out; have := Rk0.out; have := Rn1.out; omega
                  exact ⟨ret_bool (decide_eq_false hbad).symm, ((G3.out.trans HB.out).trans (((Only.alloc g wo (.cells #[.string x.id, .bool x.deny, .slice B1 j1 q1, .slice B2 j2 q2, .slice B3 j3 q3] 111)).trans Br0.out).trans Br1.out)), fun h => absurd h hbad⟩
              · rw [decide_eq_false hr0] at rC0
                have Rn0 := Lib.hid hr0
                clear hr0
                go_wp2_with (first
                  | (go_at_call 38; (with_reducible refine rC0.out.mono ?_); rintro e vr0 ⟨rfl, hb, hw⟩; have Br0 := Lib.hid hb; clear hb hw))
                go_ret
                have hbad : ¬ cc ≤ m := by have := HC.out; have := HS.out; have := M4.out; have := HSX.out; have := HEX.out; have := Rn0.out; omega
                exact ⟨ret_bool (decide_eq_false hbad).symm, ((G3.out.trans HB.out).trans ((Only.alloc g wo (.cells #[.string x.id, .bool x.deny, .slice B1 j1 q1, .slice B2 j2 q2, .slice B3 j3 q3] 111)).trans Br0.out)), fun h => absurd h hbad⟩
            · obtain rfl : k = n2 := by omega
              have hs := HS.out
              rw [sumC_all HL2.out] at hs
              have HSR := Lib.hid hs
              clear hs
              have XR := Lib.hid (Xh3.out.keep (HB.out.heap Xh3.out.lt hgn))
              have yr5 := XR.out.cell 5
              have G5 := Lib.hid (G3.out.trans HB.out)
              go_wp2
              go_loopw [99] (fun i wr => ∃ k5 m5 : Nat, k5 ≤ n3 ∧ i = .int .i64 k5 ∧ sumC (polC d) (p.kids.take k5) + m5 = mk ∧ Lf wr g m5 ∧ Only g wo wr) (fun i _ => n3 - (intOf i).toNat)
              case atStart => exact ⟨0, mk, Nat.zero_le _, rfl, by rw [sumC_zero]; omega, HF.out, Only.refl⟩
              case round =>
                obtain ⟨wz, hwz⟩ : ∃ wz, wz = wr := ⟨wr, rfl⟩
                subst hwz
                obtain ⟨k5, m5, hk5, rfl, hs, hlf, hb⟩ := hrel
                have HS5 := Lib.hid hs
                have HB5 := Lib.hid hb
                have HF5 := Lib.hid hlf
                clear hs hb hlf yr5
                by_cases hlt5 : k5 < n3
                · obtain ⟨b5, o5, x, d', B1, j1, q1, B2, j2, q2, B3, j3, q3, B4, j4, q4, rfl, hRb5, hbl5, hx, hd, ⟨xid, xalg⟩, ⟨f0, f1, f2, f3, f4, f5, f6⟩, t1, t2, t3, t4⟩ := (H3.out.keep ((G5.out.trans HB5.out).kept HR.out) (fun _ h _ => h)).at_ hlt5
                  have HX := Lib.hid hx
                  have HSX := Lib.hid (sumC_le (f := polC d) hx)
                  have hka := (Only.alloc g wz (.cells #[.string x.id, .bool x.set, .int .i64 x.alg, .slice B1 j1 q1, .slice B2 j2 q2, .slice B3 j3 q3, .slice B4 j4 q4] 74)).kept HR.out
                  have pC := (ih d' hd) (HF5.out.alloc (.cells #[.string x.id, .bool x.set, .int .i64 x.alg, .slice B1 j1 q1, .slice B2 j2 q2, .slice B3 j3 q3, .slice B4 j4 q4] 74)) (by have := HS5.out; have := HSR.out; have := M4.out; have := HM.out; omega) HR.out xid (t1.keep hka (fun _ h _ => h)) (t2.keep hka (fun _ h _ => h)) (t3.keep hka (fun _ h _ => h)) (t4.keep hka (fun _ h _ => h))
                  unfold Taking at pC
                  rw [← hd] at pC
                  clear hx xid xalg t1 t2 t3 t4 hka
                  by_cases hp : polC d x ≤ m5
                  · rw [decide_eq_true hp] at pC
                    have PC := Lib.hid pC
                    have Pk := Lib.hid hp
                    clear hp pC
                    go_wp2_with (go_at_call 56; refine PC.out.mono ?_; rintro e v7 ⟨rfl, hb, hw⟩; have B7 := Lib.hid hb; have L7 := Lib.hid (hw Pk.out); clear hb hw)
                    go_roundw
                    case rel => exact ⟨k5 + 1, m5 - polC d x, by omega, by go_num, by rw [sumC_take HX.out]; have := HS5.out; have := Pk.out; omega, L7.out, HB5.out.trans ((Only.alloc _ _ _).trans B7.out)⟩
                    case measure => simp [intOf]; omega
                  · rw [decide_eq_false hp] at pC
                    have PC := Lib.hid pC
                    have Pn := Lib.hid hp
                    clear hp pC
                    go_wp2_with (go_at_call 56; refine PC.out.mono ?_; rintro e v7 ⟨rfl, hb, hw⟩; have B7 := Lib.hid hb; clear hb hw)
                    go_ret
                    have hbad : ¬ cc ≤ m := by have := HC.out; have := HSR.out; have := M4.out; have := HS5.out; have := HSX.out; have := Pn.out; omega
                    exact ⟨ret_bool (decide_eq_false hbad).symm, G5.out.trans (HB5.out.trans ((Only.alloc _ _ _).trans B7.out)), fun h => absurd h hbad⟩
                · obtain rfl : k5 = n3 := by omega
                  go_wp2
                  go_ret
                  have hs := HS5.out
                  rw [sumC_all HL3.out] at hs
                  have h1 := HC.out
                  have h2 := HSR.out
                  have h3 := M4.out
                  exact ⟨ret_bool (decide_eq_true (by omega)).symm, G5.out.trans HB5.out, fun _ => by rw [show m - cc = m5 by omega]; exact HF5.out⟩
        · have dd3 := decide_eq_false o3
          have No3 := Lib.hid o3
          clear o3
          go_enter Try.func56, Try.ntmps56
          go_wp2_with (first
            | (go_at_call 37; (with_reducible refine hC0.out.mono ?_); rintro e vh0 ⟨rfl, hb, hw⟩; have Bh0 := Lib.hid hb; have Lh0 := Lib.hid (hw Ok0.out); have Xh0 := Lib.hid (Xhs.out.keep (hb.heap Xhs.out.lt hgn)); have yh00 := Xh0.out.cell 0; have hC1 := Lib.hid (ktext_any p.id Lh0.out (by have := HM.out; omega) HID.out); unfold Taking at hC1; rw [dd1] at hC1; clear hb hw)
            | (go_at_call 38; (with_reducible refine hC1.out.mono ?_); rintro e vh1 ⟨rfl, hb, hw⟩; have Bh1 := Lib.hid hb; have Lh1 := Lib.hid (hw Ok1.out); have Xh1 := Lib.hid (Xh0.out.keep (hb.heap Xh0.out.lt hgn)); have yh13 := Xh1.out.cell 3; have hC2 := Lib.hid (ktarget_any Lh1.out (by have := HM.out; omega) HR.out (H1.out.keep ((((Only.alloc g w (.cells #[.string p.id, .bool p.set, .int .i64 p.alg, .slice A1 n1 k1, .slice A2 n2 k2, .slice A3 n3 k3, .slice A4 n4 k4] 74)).trans Bh0.out).trans Bh1.out).kept HR.out) (fun _ h _ => h))); unfold Taking at hC2; rw [dd2] at hC2; clear hb hw)
            | (go_at_call 71; (with_reducible refine hC2.out.mono ?_); rintro e vh2 ⟨rfl, hb, hw⟩; have Bh2 := Lib.hid hb; have Lh2 := Lib.hid (hw Ok2.out); have Xh2 := Lib.hid (Xh1.out.keep (hb.heap Xh1.out.lt hgn)); have yh26 := Xh2.out.cell 6; have hC3 := Lib.hid (kobls_any Lh2.out (by have := HM.out; omega) HR.out (H4.out.keep (((((Only.alloc g w (.cells #[.string p.id, .bool p.set, .int .i64 p.alg, .slice A1 n1 k1, .slice A2 n2 k2, .slice A3 n3 k3, .slice A4 n4 k4] 74)).trans Bh0.out).trans Bh1.out).trans Bh2.out).kept HR.out) (fun _ h _ => h))); unfold Taking at hC3; rw [dd3] at hC3; clear hb hw)
            | (go_at_call 72; (with_reducible refine hC3.out.mono ?_); rintro e vh3 ⟨rfl, hb, hw⟩; have Bh3 := Lib.hid hb; clear hb hw))
          go_ret
          have hbad : ¬ cc ≤ m := by have := HC.out; have := Ok0.out; have := Ok1.out; have := Ok2.out; have := No3.out; omega
          exact ⟨ret_bool (decide_eq_false hbad).symm, (((((Only.alloc g w (.cells #[.string p.id, .bool p.set, .int .i64 p.alg, .slice A1 n1 k1, .slice A2 n2 k2, .slice A3 n3 k3, .slice A4 n4 k4] 74)).trans Bh0.out).trans Bh1.out).trans Bh2.out).trans Bh3.out), fun h => absurd h hbad⟩
      · have dd2 := decide_eq_false o2
        have No2 := Lib.hid o2
        clear o2
        go_enter Try.func56, Try.ntmps56
        go_wp2_with (first
          | (go_at_call 37; (with_reducible refine hC0.out.mono ?_); rintro e vh0 ⟨rfl, hb, hw⟩; have Bh0 := Lib.hid hb; have Lh0 := Lib.hid (hw Ok0.out); have Xh0 := Lib.hid (Xhs.out.keep (hb.heap Xhs.out.lt hgn)); have yh00 := Xh0.out.cell 0; have hC1 := Lib.hid (ktext_any p.id Lh0.out (by have := HM.out; omega) HID.out); unfold Taking at hC1; rw [dd1] at hC1; clear hb hw)
          | (go_at_call 38; (with_reducible refine hC1.out.mono ?_); rintro e vh1 ⟨rfl, hb, hw⟩; have Bh1 := Lib.hid hb; have Lh1 := Lib.hid (hw Ok1.out); have Xh1 := Lib.hid (Xh0.out.keep (hb.heap Xh0.out.lt hgn)); have yh13 := Xh1.out.cell 3; have hC2 := Lib.hid (ktarget_any Lh1.out (by have := HM.out; omega) HR.out (H1.out.keep ((((Only.alloc g w (.cells #[.string p.id, .bool p.set, .int .i64 p.alg, .slice A1 n1 k1, .slice A2 n2 k2, .slice A3 n3 k3, .slice A4 n4 k4] 74)).trans Bh0.out).trans Bh1.out).kept HR.out) (fun _ h _ => h))); unfold Taking at hC2; rw [dd2] at hC2; clear hb hw)
          | (go_at_call 71; (with_reducible refine hC2.out.mono ?_); rintro e vh2 ⟨rfl, hb, hw⟩; have Bh2 := Lib.hid hb; clear hb hw))
        go_ret
        have hbad : ¬ cc ≤ m := by have := HC.out; have := Ok0.out; have := Ok1.out; have := No2.out; omega
        exact ⟨ret_bool (decide_eq_false hbad).symm, ((((Only.alloc g w (.cells #[.string p.id, .bool p.set, .int .i64 p.alg, .slice A1 n1 k1, .slice A2 n2 k2, .slice A3 n3 k3, .slice A4 n4 k4] 74)).trans Bh0.out).trans Bh1.out).trans Bh2.out), fun h => absurd h hbad⟩
    · have dd1 := decide_eq_false o1
      have No1 := Lib.hid o1
      clear o1
      go_enter Try.func56, Try.ntmps56
      go_wp2_with (first
        | (go_at_call 37; (with_reducible refine hC0.out.mono ?_); rintro e vh0 ⟨rfl, hb, hw⟩; have Bh0 := Lib.hid hb; have Lh0 := Lib.hid (hw Ok0.out); have Xh0 := Lib.hid (Xhs.out.keep (hb.heap Xhs.out.lt hgn)); have yh00 := Xh0.out.cell 0; have hC1 := Lib.hid (ktext_any p.id Lh0.out (by have := HM.out; omega) HID.out); unfold Taking at hC1; rw [dd1] at hC1; clear hb hw)
        | (go_at_call 38; (with_reducible refine hC1.out.mono ?_); rintro e vh1 ⟨rfl, hb, hw⟩; have Bh1 := Lib.hid hb; clear hb hw))
      go_ret
      have hbad : ¬ cc ≤ m := by have := HC.out; have := Ok0.out; have := No1.out; omega
      exact ⟨ret_bool (decide_eq_false hbad).symm, (((Only.alloc g w (.cells #[.string p.id, .bool p.set, .int .i64 p.alg, .slice A1 n1 k1, .slice A2 n2 k2, .slice A3 n3 k3, .slice A4 n4 k4] 74)).trans Bh0.out).trans Bh1.out), fun h => absurd h hbad⟩
  · rw [decide_eq_false o0] at hC0
    have No0 := Lib.hid o0
    clear o0
    go_enter Try.func56, Try.ntmps56
    go_wp2_with (first
      | (go_at_call 37; (with_reducible refine hC0.out.mono ?_); rintro e vh0 ⟨rfl, hb, hw⟩; have Bh0 := Lib.hid hb; clear hb hw))
    go_ret
    have hbad : ¬ cc ≤ m := by have := HC.out; have := No0.out; omega
    exact ⟨ret_bool (decide_eq_false hbad).symm, ((Only.alloc g w (.cells #[.string p.id, .bool p.set, .int .i64 p.alg, .slice A1 n1 k1, .slice A2 n2 k2, .slice A3 n3 k3, .slice A4 n4 k4] 74)).trans Bh0.out), fun h => absurd h hbad⟩
end Go.Proofs.Ytjpkemamfccfdaa
/- bailiffkeep.Small: is a policy one that may be gone through in a while? -/
namespace Go.Proofs.Ytjpkemamfccfdaa
set_option linter.unusedVariables false
open Go.RowKit

theorem kok_all : ∀ d, KOk d
  | 0 => kpol_step 0 fun d' h => by omega
  | d + 1 => kpol_step (d + 1) fun d' h => by
    obtain rfl : d' = d := by omega
    exact kok_all d'

set_option maxRecDepth 100000 in
theorem small_pol {w : World} {R : Nat → Prop} {d : Nat} {p : Pol} {A1 A2 A3 A4 : Option Addr} {n1 k1 n2 k2 n3 k3 n4 k4 : Nat} (hid : p.id.size ≤ maxLen) (h1 : Tg w R A1 n1 k1 p.tg) (h2 : Rus w R A2 n2 k2 p.rules) (h3 : Pls w R d A3 n3 k3 p.kids) (h4 : Dus w R A4 n4 k4 p.ob) :
    Calls Try.prog 36 #[.agg #[.string p.id, .bool p.set, .int .i64 p.alg, .slice A1 n1 k1, .slice A2 n2 k2, .slice A3 n3 k3, .slice A4 n4 k4]] w
      fun e w' => e = .returned (.bool (decide (polC (d + 1) p ≤ 3000))) ∧ Below w.heap.size w w' := by
  have hb0 : Below w.heap.size w ((w.alloc (.cells #[.string p.id, .bool p.set, .int .i64 p.alg, .slice A1 n1 k1, .slice A2 n2 k2, .slice A3 n3 k3, .slice A4 n4 k4] 74)).alloc (.cells #[.int .i64 3000] 77)) :=
    ((Below.refl _ _).alloc (Nat.le_refl _) _).alloc (by simp) _
  have hl : Lf ((w.alloc (.cells #[.string p.id, .bool p.set, .int .i64 p.alg, .slice A1 n1 k1, .slice A2 n2 k2, .slice A3 n3 k3, .slice A4 n4 k4] 74)).alloc (.cells #[.int .i64 3000] 77)) (w.heap.size + 1) 3000 := by
    have := Ob.made (w.alloc (.cells #[.string p.id, .bool p.set, .int .i64 p.alg, .slice A1 n1 k1, .slice A2 n2 k2, .slice A3 n3 k3, .slice A4 n4 k4] 74)) 77 #[.int .i64 3000]
    rwa [size_al] at this
  have hk := Kept.all hb0 R
  have HC := kok_all d (R := fun b => b < w.heap.size) hl (Nat.le_refl _) (fun b hb => by omega) hid (h1.keep hk (fun b _ hb => hb)) (h2.keep hk (fun b _ hb => hb)) (h3.keep hk (fun b _ hb => hb)) (h4.keep hk (fun b _ hb => hb))
  unfold Taking at HC
  have HCC := Lib.hid HC
  have HB0 := Lib.hid hb0
  clear HC hk hl hb0 h1 h2 h3 h4
  go_enter Try.func36, Try.ntmps36
  go_wp2_with (go_at_call 56; refine HCC.out.mono ?_; rintro e w1 ⟨rfl, hb, hw⟩)
  go_ret
  exact ⟨rfl, HB0.out.trans (hb.below (by simp only [size_al]; omega) (by omega))⟩
theorem small_tg {d : Nat} {p : Pol} (h : polC (d + 1) p ≤ 3000) : tgC p.tg ≤ 3000 := by
  unfold polC at h; omega
theorem tgC_len (t : Tgt) : t.length ≤ tgC t := by unfold tgC; omega
end Go.Proofs.Ytjpkemamfccfdaa
/- Helpers of stage 13's statements: small, Few, Met, All at given answers. -/
namespace Go.Proofs.Ytjpkemamfccfdaa
set_option linter.unusedVariables false
open Go.RowKit

def tPol (t : Tgt) : Pol := .mk ⟨#[]⟩ false 0 t [] [] []
/-- How much a target is. -/
def tgS (t : Tgt) : Nat := polC 1 (tPol t)
theorem tgsmall_any {w : World} {R : Nat → Prop} {A : Option Addr} {n c : Nat} {l : Tgt} (h : Tg w R A n c l) :
    Calls Try.prog 14 #[.slice A n c] w fun e w' => e = .returned (.bool (decide (tgS l ≤ 3000))) ∧ Below w.heap.size w w' := by
  have HC := Lib.hid (small_pol (w := w) (R := R) (d := 0) (p := tPol l) (A1 := A) (n1 := n) (k1 := c) (A2 := none) (n2 := 0) (k2 := 0) (A3 := none) (n3 := 0) (k3 := 0) (A4 := none) (n4 := 0) (k4 := 0) (by show (⟨#[]⟩ : ByteArray).size ≤ maxLen; decide +kernel) h (Rw.nil_ _ _ _ _) (Rw.nil_ _ _ _ _) (Rw.nil_ _ _ _ _))
  have HC2 : Hid (Calls Try.prog 36 #[.agg #[.string ⟨#[]⟩, .bool false, .int .i64 0, .slice A n c, .slice none 0 0, .slice none 0 0, .slice none 0 0]] w fun e w' => e = .returned (.bool (decide (tgS l ≤ 3000))) ∧ Below w.heap.size w w') := HC.out
  clear HC h
  go_enter Try.func14, Try.ntmps14
  go_wp2_with (go_at_call 36; refine HC2.out.mono ?_; rintro e w1 ⟨rfl, hb1⟩)
  go_ret
  exact ⟨rfl, hb1⟩
theorem tgsmall_is {w : World} {R : Nat → Prop} {A : Option Addr} {n c : Nat} {l : Tgt} {b : Bool} (hb : decide (tgS l ≤ 3000) = b) (h : Tg w R A n c l) :
    Calls Try.prog 14 #[.slice A n c] w fun e w' => e = .returned (.bool b) ∧ Below w.heap.size w w' := by
  have := tgsmall_any h
  rwa [hb] at this
theorem tgfew_is {w : World} {R : Nat → Prop} {A : Option Addr} {n c : Nat} {l : List Giv} {b : Bool} (hb : decide (fewC l ≤ 1200) = b) (h : Gvs w R A n c l) :
    Calls Try.prog 15 #[.slice A n c] w fun e w' => e = .returned (.bool b) ∧ Below w.heap.size w w' := by
  have := few_any h
  rwa [hb] at this
theorem tgmet_is {w : World} {R R1 : Nat → Prop} {A A1 : Option Addr} {n c n1 c1 : Nat} {l : List Giv} {ms : Tgt} {r : Int} (hr : metI l ms = r) (h1 : Tg w R1 A1 n1 c1 ms) (h : Gvs w R A n c l) (hs : ShortG l) :
    Calls Try.prog 17 #[.slice A1 n1 c1, .slice A n c] w fun e w' => e = .returned (.int .i64 r) ∧ Below w.heap.size w w' := by
  have := tgmet_any h1 h hs
  rwa [hr] at this
theorem tgall_is {w : World} {R R1 : Nat → Prop} {A A1 : Option Addr} {n c n1 c1 : Nat} {l : List Giv} {ms : List Mat} {r : Int} (hr : allI l ms = r) (h1 : Ms w R1 A1 n1 c1 ms) (h : Gvs w R A n c l) (hs : ShortG l) :
    Calls Try.prog 19 #[.slice A1 n1 c1, .slice A n c] w fun e w' => e = .returned (.int .i64 r) ∧ Below w.heap.size w w' := by
  have := tgall_any h1 h hs
  rwa [hr] at this
theorem tgS_len {l : Tgt} (h : tgS l ≤ 3000) : l.length ≤ 3000 := by
  have h1 := small_tg (d := 0) h
  have h2 := tgC_len l
  have e : (tPol l).tg = l := rfl
  rw [e] at h1
  omega
theorem tgS_tg {l : Tgt} (h : tgS l ≤ 3000) : tgC l ≤ 3000 := small_tg (d := 0) h
theorem Gvs.up' {w w' : World} {R : Nat → Prop} {A : Option Addr} {n c : Nat} {l : List Giv} (h : Gvs w R A n c l) (hb : Below w.heap.size w w') : Gvs w' (fun _ => True) A n c l := h.keep (Kept.all hb R) (fun _ _ _ => trivial)
theorem Tg.up' {w w' : World} {R : Nat → Prop} {A : Option Addr} {n c : Nat} {l : Tgt} (h : Tg w R A n c l) (hb : Below w.heap.size w w') : Tg w' (fun _ => True) A n c l := h.keep (Kept.all hb R) (fun _ _ _ => trivial)
theorem Als.up' {w w' : World} {R : Nat → Prop} {A : Option Addr} {n c : Nat} {l : List (List Mat)} (h : Als w R A n c l) (hb : Below w.heap.size w w') : Als w' (fun _ => True) A n c l := h.keep (Kept.all hb R) (fun _ _ _ => trivial)
theorem Ms.up' {w w' : World} {R : Nat → Prop} {A : Option Addr} {n c : Nat} {l : List Mat} (h : Ms w R A n c l) (hb : Below w.heap.size w w') : Ms w' (fun _ => True) A n c l := h.keep (Kept.all hb R) (fun _ _ _ => trivial)
theorem Vls.up' {w w' : World} {R : Nat → Prop} {A : Option Addr} {n c : Nat} {l : List Vl} (h : Vls w R A n c l) (hb : Below w.heap.size w w') : Vls w' (fun _ => True) A n c l := h.keep (Kept.all hb R) (fun _ _ _ => trivial)
/-- One match, as a target of its own. -/
theorem tg_lit (w : World) (m : Mat) (hm : m.ok) : Tg (((w.alloc (.cells m.cells.toArray 28)).alloc (.cells #[.slice (some ⟨w.heap.size, 0, none⟩) 1 1] 36)).alloc (.cells #[.slice (some ⟨w.heap.size + 1, 0, none⟩) 1 1] 37)) (fun _ => True) (some ⟨w.heap.size + 2, 0, none⟩) 1 1 [[[m]]] := by
  have h1 : Ms (w.alloc (.cells m.cells.toArray 28)) (fun _ => True) (some ⟨w.heap.size, 0, none⟩) 1 1 [m] := by
    have := Rw.lit (k := 7) (P := fun vs (m : Mat) => vs = m.cells ∧ m.ok) (R := fun _ => True) w 28 Mat.cells [m] (n := 1) rfl (by omega) trivial (fun _ _ => rfl) (fun x hx => by simp at hx; subst hx; exact ⟨rfl, hm⟩)
    rw [show [m].flatMap Mat.cells = m.cells by simp] at this
    exact this
  generalize hw1 : w.alloc (.cells m.cells.toArray 28) = w1 at *
  have hs1 : w1.heap.size = w.heap.size + 1 := by rw [← hw1, size_al]
  have h2 : Als (w1.alloc (.cells #[.slice (some ⟨w.heap.size, 0, none⟩) 1 1] 36)) (fun _ => True) (some ⟨w1.heap.size, 0, none⟩) 1 1 [[m]] := by
    have := Rw.lit (k := 1) (P := fun vs (l : List Mat) => ∃ A n c, vs = [.slice A n c] ∧ Ms (w1.alloc (.cells #[.slice (some ⟨w.heap.size, 0, none⟩) 1 1] 36)) (fun _ => True) A n c l) (R := fun _ => True) w1 36 (fun _ => [.slice (some ⟨w.heap.size, 0, none⟩) 1 1]) [[m]] (n := 1) rfl (by omega) trivial (fun _ _ => rfl) (fun x hx => by
      simp at hx; subst hx; exact ⟨_, _, _, rfl, h1.up' ((Below.refl _ _).alloc (Nat.le_refl _) _)⟩)
    exact this
  rw [← hs1]
  generalize hw2 : w1.alloc (.cells #[.slice (some ⟨w.heap.size, 0, none⟩) 1 1] 36) = w2 at *
  have hs2 : w2.heap.size = w1.heap.size + 1 := by rw [← hw2, size_al]
  have := Rw.lit (k := 1) (P := fun vs (l : List (List Mat)) => ∃ A n c, vs = [.slice A n c] ∧ Als (w2.alloc (.cells #[.slice (some ⟨w1.heap.size, 0, none⟩) 1 1] 37)) (fun _ => True) A n c l) (R := fun _ => True) w2 37 (fun _ => [.slice (some ⟨w1.heap.size, 0, none⟩) 1 1]) [[[m]]] (n := 1) rfl (by omega) trivial (fun _ _ => rfl) (fun x hx => by
    simp at hx; subst hx; exact ⟨_, _, _, rfl, h2.up' ((Below.refl _ _).alloc (Nat.le_refl _) _)⟩)
  rw [hs2, hs1] at this
  rw [hs1]
  exact this
end Go.Proofs.Ytjpkemamfccfdaa
/- append([][]Match{}, a..., b...). -/
namespace Go.Proofs.Ytjpkemamfccfdaa
set_option linter.unusedVariables false
open Go.RowKit

/-- append to an AnyOf. -/
theorem append_alls {w : World} {base n c m c2 ty : Nat} {R R2 : Nat → Prop} {A A2 : Option Addr} {xs ys : (List (List Mat))} (h : Ow 1 (AlP w R2) w base 36 A n c xs) (hy : Rw 1 (AlP w R2) w R A2 m c2 ys) (hn : n + m ≤ 1000000) (hbase : base ≤ w.heap.size) :
    ∃ A' c' w', (Builtin.append_ #[37, 37] ty #[.slice A n c, .slice A2 m c2]).run Try.prog w = .ok (.slice A' (n + m) c') w' ∧ Ow 1 (AlP w R2) w' base 36 A' (n + m) c' (xs ++ ys) ∧ Below base w w' ∧ w.grownBy w' (Value.slice A n c).ownBlock ∧
      ((Value.slice A' (n + m) c').ownBlock = (Value.slice A n c).ownBlock ∨ (Value.slice A' (n + m) c').ownBlock = some w.heap.size) := by
  obtain ⟨i, hi, hz, hs, hb⟩ := info_of s0info
  exact Ow.app Try.underlying37 hi hz hs hb rfl (by omega) (by omega) h hy AlP.one hn hbase
theorem all_mono {w : World} {R : Nat → Prop} {A : Option Addr} {n c : Nat} {l : (List (List Mat))} (h : Als w R A n c l) : Als w (fun b => b < w.heap.size) A n c l := h.keep (Kept.refl _ _) fun _ _ h => h

/-- append(append([][]Match{}, a...), b...). -/
theorem both_als {w : World} {R : Nat → Prop} {A0 A1 : Option Addr} {p0 c0 p1 c1 q : Nat} {L0 L1 : (List (List Mat))} (h0 : Als w R A0 p0 c0 L0) (h1 : Als w R A1 p1 c1 L1) (h : p0 + p1 ≤ 1000000) (hq : q = p0 + p1) :
    ∃ A5 c5 w5 A6 c6 w6, (Builtin.append_ #[37, 37] 37 #[.slice (some ⟨w.heap.size, 0, none⟩) 0 0, .slice A0 p0 c0]).run Try.prog (w.alloc (.cells #[] 36)) = .ok (.slice A5 p0 c5) w5 ∧
      (Builtin.append_ #[37, 37] 37 #[.slice A5 p0 c5, .slice A1 p1 c1]).run Try.prog w5 = .ok (.slice A6 q c6) w6 ∧ Below w.heap.size w w5 ∧ Below w.heap.size w w6 ∧ Als w6 (fun _ => True) A6 q c6 (L0 ++ L1) := by
  subst hq
  have e1 : Below w.heap.size w (w.alloc (.cells #[] 36)) := (Below.refl _ _).alloc (Nat.le_refl _) _
  have hlow0 := h0.keep (Kept.all e1 R) (fun b _ hb => hb) (R' := fun b => b < w.heap.size)
  obtain ⟨A5, c5, w5, r5, o5, b5, _, _⟩ := append_alls (ty := 37) (xs := []) (Ow.made 1 (AlP (w.alloc (.cells #[] 36)) (fun b => b < w.heap.size)) w 36) hlow0 (by omega) e1.size
  rw [Nat.zero_add] at r5 o5
  have e5 := e1.trans b5
  have o5' := o5.mapP (P' := AlP w5 (fun b => b < w.heap.size)) (fun vs x _ hp => hp.keep (Kept.below b5 (fun b hb _ => hb)) (fun b hb _ => hb))
  have hlow1 := h1.keep (Kept.all e5 R) (fun b _ hb => hb) (R' := fun b => b < w.heap.size)
  obtain ⟨A6, c6, w6, r6, o6, b6, _, _⟩ := append_alls (ty := 37) o5' hlow1 h e5.size
  refine ⟨A5, c5, w5, A6, c6, w6, r5, r6, e5, e5.trans b6, ?_⟩
  exact (o6.mapP (P' := AlP w6 (fun _ => True)) (fun vs x _ hp => hp.keep (Kept.below b6 (fun b hb _ => hb)) (fun _ _ _ => trivial))).rw (by omega) (fun _ _ _ => trivial)
theorem oper_append {P : Program} {o : Oper} {a : Act} {w w' : World} {K : Act → World → Prop} {Q : Exit → Act → World → Prop} (s x : Operand) (t u : TypeId)
    (hop : o.op = Op.call { callee := Callee.builtin Builtin.append, args := #[s, x], argTypes := #[t, u] }) {sv xv v' : Value} (hs : a.eval s = sv) (hx : a.eval x = xv) (hrun : (Builtin.append_ #[t, u] o.type #[sv, xv]).run P w = .ok v' w') (hK : K (a.put o.dst v') w') : Oper.wp P o a w K Q := by
  unfold Oper.wp
  simp [execOp, hop, resolve, invoke, builtin, hs, hx, hrun, Result.andThen]
  exact hK
end Go.Proofs.Ytjpkemamfccfdaa
/- wrong, Right: the first thing that is wrong with a request. -/
namespace Go.Proofs.Ytjpkemamfccfdaa
set_option linter.unusedVariables false
open Go.RowKit Go.Sort

set_option maxHeartbeats 800000 in
theorem wrong_any {w : World} {R R1 : Nat → Prop} {A A1 : Option Addr} {n c n1 c1 : Nat} {l : List Giv} (g : Giv) (hok : g.ok) (h : Gvs w R A n c l) (hb : Vls w R1 A1 n1 c1 g.bag) :
    Calls Try.prog 41 #[.slice A n c, .agg #[.int .i64 g.cat, .string g.name, .slice A1 n1 c1]] w fun e w' => e = .returned (.int .i64 (wrongA l g)) ∧ Below w.heap.size w w' := by
  obtain ⟨gc, gn, gb⟩ := g
  have HA := Lib.hid (attr_any ⟨gc, gn, false⟩ ⟨hok.1, hok.2⟩)
  have HP := Lib.hid (fun W (hW : Below w.heap.size w W) => place_any gc gn (h.keep (Kept.all hW R) (fun _ h _ => h)))
  have HV := Lib.hid (fun W (hW : Below w.heap.size w W) => vbag_any (hb.keep (Kept.all hW R1) (fun _ h _ => h)).vs (Nat.le_refl _))
  have HE : Hid (wrongA l ⟨gc, gn, gb⟩ = if attrB ⟨gc, gn, false⟩ = true ∧ bagB gb = true then (if idxA l gc gn < l.length then 11 else 0) else 1) := rfl
  have HI : Hid (placeI l gc gn = if idxA l gc gn < l.length then (idxA l gc gn : Int) else -1) := rfl
  clear h hb hok
  simp only at HA HP HV HE HI ⊢
  generalize wrongA l ⟨gc, gn, gb⟩ = r at *
  generalize attrB ⟨gc, gn, false⟩ = ab at *
  generalize bagB gb = bb at *
  generalize hpi : placeI l gc gn = pi at *
  clear hpi
  have HB0 := Lib.hid ((Below.refl w.heap.size w).alloc (Nat.le_refl _) (.cells #[.int .i64 gc, .string gn, .slice A1 n1 c1] 48))
  cases ab
  · go_enter Try.func41, Try.ntmps41
    go_wp2_with (go_at_call 58; refine (HA.out _).mono ?_; rintro e w1 ⟨rfl, hb1⟩; have B1 := Lib.hid (Below.lit hb1))
    go_ret
    exact ⟨ret_int (by rw [HE.out]; simp), B1.out⟩
  cases bb
  · go_enter Try.func41, Try.ntmps41
    go_wp2_with (first
      | (go_at_call 58; refine (HA.out _).mono ?_; rintro e w1 ⟨rfl, hb1⟩; have B1 := Lib.hid (Below.lit hb1); have c1 := (Ob.below (Ob.made _ _ _) hb1 (by simp)).cell 2)
      | (go_at_call 59; refine (HV.out _ B1.out).mono ?_; rintro e w2 ⟨rfl, hb2⟩; have B2 := Lib.hid (below_step B1.out hb2)))
    go_ret
    exact ⟨ret_int (by rw [HE.out]; simp), B2.out⟩
  by_cases hi : idxA l gc gn < l.length
  · have hpi : ((pi : Int) ≥ 0) := by rw [HI.out, if_pos hi]; omega
    have HE2 : Hid (r = 11) := by show r = 11; rw [HE.out, if_pos ⟨rfl, rfl⟩, if_pos hi]
    clear HE HI hi
    go_enter Try.func41, Try.ntmps41
    go_wp2_with (first
      | (go_at_call 58; refine (HA.out _).mono ?_; rintro e w1 ⟨rfl, hb1⟩; have B1 := Lib.hid (Below.lit hb1); have OB := Lib.hid (Ob.below (Ob.made _ _ _) hb1 (by simp)); have c1 := OB.out.cell 2)
      | (go_at_call 59; refine (HV.out _ B1.out).mono ?_; rintro e w2 ⟨rfl, hb2⟩; have B2 := Lib.hid (below_step B1.out hb2); have OB2 := Lib.hid (Ob.below OB.out hb2 (Ob.lt OB.out)); have c2 := OB2.out.cell 0; have c3 := OB2.out.cell 1)
      | (go_at_call 43; refine (HP.out _ B2.out).mono ?_; rintro e w3 ⟨rfl, hb3⟩; have B3 := Lib.hid (below_step B2.out hb3)))
    go_ret
    exact ⟨ret_int HE2.out.symm, B3.out⟩
  · have hpi : ¬ ((pi : Int) ≥ 0) := by rw [HI.out, if_neg hi]; omega
    have HE2 : Hid (r = 0) := by show r = 0; rw [HE.out, if_pos ⟨rfl, rfl⟩, if_neg hi]
    clear HE HI hi
    go_enter Try.func41, Try.ntmps41
    go_wp2_with (first
      | (go_at_call 58; refine (HA.out _).mono ?_; rintro e w1 ⟨rfl, hb1⟩; have B1 := Lib.hid (Below.lit hb1); have OB := Lib.hid (Ob.below (Ob.made _ _ _) hb1 (by simp)); have c1 := OB.out.cell 2)
      | (go_at_call 59; refine (HV.out _ B1.out).mono ?_; rintro e w2 ⟨rfl, hb2⟩; have B2 := Lib.hid (below_step B1.out hb2); have OB2 := Lib.hid (Ob.below OB.out hb2 (Ob.lt OB.out)); have c2 := OB2.out.cell 0; have c3 := OB2.out.cell 1)
      | (go_at_call 43; refine (HP.out _ B2.out).mono ?_; rintro e w3 ⟨rfl, hb3⟩; have B3 := Lib.hid (below_step B2.out hb3)))
    go_ret
    exact ⟨ret_int HE2.out.symm, B3.out⟩

theorem Ob.grown3 {w : World} {g : Nat} {t : TypeId} {a b c : Value} (h : Ob w g t #[a, b, c]) : (∀ d os, (grow (redrawn w d) os).cell? ⟨g, 0, none⟩ = some a) ∧ (∀ d os, (grow (redrawn w d) os).cell? ⟨g, 1, none⟩ = some b) ∧ ∀ d os, (grow (redrawn w d) os).cell? ⟨g, 2, none⟩ = some c :=
  ⟨fun d os => cell_regrown (h.cell 0) d os, fun d os => cell_regrown (h.cell 1) d os, fun d os => cell_regrown (h.cell 2) d os⟩
set_option maxHeartbeats 1600000 in
theorem aright_any {w : World} {R : Nat → Prop} {A : Option Addr} {n c : Nat} {l : List Giv} (h : Gvs w R A n c l) :
    Calls Try.prog 21 #[.slice A n c] w fun e w' => e = .returned (.int .i64 (rightA l)) ∧ Below w.heap.size w w' := by
  have hle := Rw.le h
  have hcap := Rw.cap h
  have HL := Lib.hid (Rw.len h)
  unfold maxLen at hcap
  have H := Lib.hid h
  clear h
  by_cases h64 : 64 < n
  · have h64' : (64 : Int) < (n : Int) := by omega
    have HE : Hid (rightA l = 6) := by show rightA l = 6; unfold rightA; rw [if_pos (by have := HL.out; omega)]
    clear h64
    go_enter Try.func21, Try.ntmps21
    go_wp2_with fail
    go_ret
    exact ⟨ret_int HE.out.symm, Below.refl _ _⟩
  have h64' : ¬ (64 : Int) < (n : Int) := by omega
  have HE : Hid (rightA l = rightL [] l) := by show rightA l = _; unfold rightA; rw [if_neg (by have := HL.out; omega)]
  generalize rightA l = r at *
  go_enter Try.func21, Try.ntmps21
  go_wp2_with fail
  go_loopw [11] (fun i wr => ∃ k : Nat, k ≤ n ∧ i = .int .i64 k ∧ rightL [] l = rightL (l.take k) (l.drop k) ∧ Below w.heap.size w wr) (fun i _ => n - (intOf i).toNat)
  case atStart => exact ⟨0, Nat.zero_le _, rfl, by simp, Below.refl _ _⟩
  case round =>
    obtain ⟨k, hk, rfl, hf, hb⟩ := hrel
    have HF := Lib.hid hf
    have HB := Lib.hid hb
    have hb' := hb
    clear hf hb
    by_cases hlt : k < n
    · have HGV := Lib.hid (H.out.keep (Kept.all HB.out R) (fun _ h _ => h))
      obtain ⟨b, o, x, A', n', c', rfl, hRb, hbl, hx, hok, ⟨c0, c1, c2⟩, hin⟩ := HGV.out.at_ hlt
      have HX := Lib.hid (rightL_step hx)
      have hal := (Below.refl wr.heap.size wr).alloc (Nat.le_refl _) (.cells #[.int .i64 x.cat, .string x.name, .slice A' n' c'] 48)
      have qr := fun W (hW : Below wr.heap.size wr W) => wrong_any x hok (Rw.take (HGV.out.keep (Kept.all hW R) (fun _ h _ => h)) (Nat.le_of_lt hlt)) (hin.keep (Kept.all hW R) (fun _ h _ => h))
      have HAL := Lib.hid hal
      have hbx := Ob.made wr 48 #[.int .i64 x.cat, .string x.name, .slice A' n' c']
      have D1 := Lib.hid (hb'.alloc hb'.size (.cells #[.int .i64 x.cat, .string x.name, .slice A' n' c'] 48))
      have hk0 : (0 : Int) ≤ (k : Int) := by omega
      have hkc : (k : Int) ≤ (c : Int) := by omega
      have hw : ∀ W d os, Below wr.heap.size wr W → Calls Try.prog 41 #[.slice (some ⟨b, o, none⟩) k c, .agg #[.int .i64 x.cat, .string x.name, .slice A' n' c']] (grow (redrawn W d) os) fun e w' => e = .returned (.int .i64 (wrongA (l.take k) x)) ∧ ∃ p : Regrown, w' = grow (redrawn W p.d) p.os := fun W d os hW => Calls.regrown_of (w := W) (d := d) (os := os) (qr _ (hW.trans ((below_regrown W d os).mono hW.size)))
      clear hx hok hin qr hal
      go_wp2_with fail
      have hW1 := HAL.out
      generalize wr.alloc (.cells #[.int .i64 x.cat, .string x.name, .slice A' n' c'] 48) = W1 at *
      obtain ⟨g0, g1, g2⟩ := Ob.grown3 hbx
      have QR := Lib.hid (fun d os => hw W1 d os hW1)
      clear hw hW1
      by_cases hz : wrongA (l.take k) x = 0
      · rw [hz] at QR
        have HZ := Lib.hid hz
        clear hz
        refine wp_region_quiet_below (by kernel_rfl) (by kernel_rfl) ?_
        repeat (go_big_quiet_step ((go_at_call 41; exact QR.out _ _)))
        refine wpQuiet_nil ?_
        intro _ hw'
        obtain ⟨⟨dq, osq⟩, hw''⟩ := hw'
        subst hw''
        have D2 := Lib.hid (below_step D1.out (below_regrown W1 dq osq))
        clear g0 g1 g2
        generalize grow (redrawn W1 dq) osq = W2 at *
        go_wp2_with fail
        go_roundw
        case rel => exact ⟨k + 1, by omega, by go_num, by rw [HF.out, HX.out, if_neg (by rw [HZ.out]; simp)], D2.out⟩
        case measure => simp [intOf]; omega
      · have HZ := Lib.hid hz
        obtain ⟨ee, he⟩ : ∃ ee, ee = wrongA (l.take k) x := ⟨_, rfl⟩
        have HEE := Lib.hid he
        rw [← he] at hz QR
        have hne : (ee != 0) = true := by simpa using hz
        clear he
        refine wp_region_quiet_below (by kernel_rfl) (by kernel_rfl) ?_
        repeat (go_big_quiet_step ((go_at_call 41; exact QR.out _ _)))
        refine wpQuiet_nil ?_
        intro _ hw'
        obtain ⟨⟨dq, osq⟩, hw''⟩ := hw'
        subst hw''
        have D2 := Lib.hid (below_step D1.out (below_regrown W1 dq osq))
        clear g0 g1 g2
        generalize grow (redrawn W1 dq) osq = W2 at *
        go_wp2_with fail
        go_ret
        exact ⟨ret_int (by rw [HE.out, HF.out, HX.out, if_pos HZ.out]; exact HEE.out), D2.out⟩
    · obtain rfl : k = n := by omega
      go_wp2
      go_ret
      exact ⟨ret_int (by rw [HE.out, HF.out]; exact (rightL_end (by have := HL.out; omega)).symm), HB.out⟩
end Go.Proofs.Ytjpkemamfccfdaa
/- Arguments that come in: a slice of bytes as Sl. -/
namespace Go.Proofs.Ytjpkemamfccfdaa
set_option linter.unusedVariables false
open Go.RowKit Go.ChangeShapes Go.WideShapes

theorem cell_lt {w : World} {p : Addr} {v : Value} (h : w.cell? p = some v) : p.block < w.heap.size := by
  rcases Nat.lt_or_ge p.block w.heap.size with hlt | hge
  · exact hlt
  · simp [World.cell?, Array.getElem?_eq_none hge] at h

theorem open_bytes {H : Type} {enc : TypeId × Value → H} {P : Program} {w : World} {base n c : Nat} {spare : Nat → Bool} {held : Bool} {t e : TypeId} {A : Option Addr} {d : DataW H} {p : List MemPlace}
    (ht : P.underlying t = some (.slice e)) (he : P.underlying e = some (.int .u8)) (hc : P.cellsOf e = 1) (h : DataW.Trod enc P w base spare held t (.slice A n c) d p) : ∃ l, Sl w w.heap.size A n c (bv l) := by
  obtain ⟨fuel, hf⟩ := h
  rcases open_ints ht he hc hf with ⟨hcs, _⟩ | ⟨a, len, cap, zs, hcs, _, hl, hm, hz, _, hcell, hwz⟩
  · simp [Value.cells] at hcs
    obtain ⟨rfl, rfl, rfl⟩ := hcs
    exact ⟨[], Sl.nil_ w _⟩
  · simp [Value.cells] at hcs
    obtain ⟨rfl, rfl, rfl⟩ := hcs
    have hzl : n ≤ zs.length := by rw [hz]; split <;> omega
    have hb : ∀ z ∈ zs, ((UInt8.ofNat z.toNat).toNat : Int) = z := by
      intro z hz'
      have := hwz z hz'
      simp only [Lit.wf, Bool.and_eq_true, decide_eq_true_eq] at this
      have h1 : (0 : Int) ≤ z := this.1
      have h2 : z ≤ 255 := this.2
      simp
      omega
    refine ⟨(zs.take n).map fun z => UInt8.ofNat z.toNat, by simp [bv]; omega, hl, hm, ?_⟩
    by_cases h0 : n = 0
    · exact .inl h0
    · right
      obtain ⟨b, o, spot⟩ := a
      have h00 := hcell 0 (by omega)
      have hspot : spot = none := by simpa [Addr.add] using World.cell?_spot h00
      subst hspot
      refine ⟨b, o, rfl, by have := cell_lt h00; simpa [Addr.add] using this, fun j u hj => ?_⟩
      have hjn : j < n := by
        rcases Nat.lt_or_ge j n with hlt | hge
        · exact hlt
        · rw [List.getElem?_eq_none (by simp [bv]; omega)] at hj; cases hj
      have hcj := hcell j (by omega)
      have ha : (⟨b, o, none⟩ : Addr).add j = ⟨b, o + j, none⟩ := by
        by_cases hj0 : j = 0 <;> simp [Addr.add, hj0]
      rw [ha] at hcj
      rw [hcj, ← hj]
      simp only [bv, List.map_map, List.getElem?_map, List.getElem?_take, hjn, if_true]
      rw [List.getElem?_eq_getElem (by omega : j < zs.length)]
      simp only [Option.map_some, Function.comp, List.getD, List.getElem?_eq_getElem (by omega : j < zs.length), Option.getD_some]
      rw [hb _ (List.getElem_mem _)]

theorem own_empty (w : World) (base e : Nat) (hb : base ≤ w.heap.size) : (w.alloc (.cells #[] e)).ownsRow base e 1 (.slice (some ⟨w.heap.size, 0, none⟩) 0 0) 0 [] :=
  ⟨rfl, .inr ⟨w.heap.size, 0, #[], rfl, hb, heap_alloc_new w _, Nat.le_refl _, by simp [maxLen], rfl, rfl⟩⟩

/-- An append whose run is known, under a guard that says yes. -/
theorem wpList_append_want {P : Program} {w w' : World} {ops : Array Oper} {rest : List Oper} {o : Oper} {a : Act} {Q : Exit → Act → World → Prop} (hgd : Region.wanted o (yielded ops a.tmps) = true) (s x : Operand) (t u : TypeId)
    (ho : o.op = .call { callee := .builtin .append, args := #[s, x], argTypes := #[t, u] }) {sv xv v' : Value} (hs : a.eval s = sv) (hx : a.eval x = xv)
    (hrun : (Builtin.append_ #[t, u] o.type #[sv, xv]).run P w = .ok v' w') (h : wpList P ops Q rest (a.put o.dst v') w') : wpList P ops Q (o :: rest) a w := by
  refine BigFrame.wpList_want hgd fun K hK => ?_
  unfold Oper.wp execOp
  simp only [ho, resolve, invoke, builtin, Sem.run_bind, Sem.run_pure, Result.andThen_ok, List.map_toArray, List.map_cons, List.map_nil, hs, hx, hrun]
  exact hK _ _ h
end Go.Proofs.Ytjpkemamfccfdaa
/- Rows of structs that come in: what any of them asks. -/
namespace Go.Proofs.Ytjpkemamfccfdaa
set_option linter.unusedVariables false
open Go.RowKit Go.ChangeShapes Go.WideShapes

section
variable {H : Type} {enc : TypeId × Value → H} {w : World} {base : Nat} {spare : Nat → Bool} {held : Bool}

/-- A datum whose strings, slices are no greater than may be. -/
def Wt (P : Program) (t : TypeId) (d : DataW H) : Prop := (d.weights P t).all (fun x => decide (x ≤ reachBytes)) = true
theorem wt_all {P : Program} {e : TypeId} : ∀ {l : List (DataW H)}, (DataW.weightsAll P e l).all (fun x => decide (x ≤ reachBytes)) = true → ∀ d ∈ l, Wt P e d
  | [], _, d, hd => by cases hd
  | x :: l, h, d, hd => by
    rw [DataW.weightsAll, List.all_append, Bool.and_eq_true] at h
    rcases List.mem_cons.1 hd with rfl | hd
    · exact h.1
    · exact wt_all h.2 d hd
theorem wt_slice {P : Program} {t e : TypeId} {a b : List (DataW H)} (ht : P.underlying t = some (.slice e)) (h : Wt P t (.slice a b)) : (a.length + b.length) * P.bytesOf e ≤ reachBytes ∧ ∀ d ∈ a, Wt P e d := by
  unfold Wt at h
  rw [DataW.weights] at h
  simp only [ht] at h
  rw [List.all_cons, List.all_append, Bool.and_eq_true, Bool.and_eq_true] at h
  exact ⟨by simpa using h.1, wt_all h.2.1⟩
theorem wt_each {P : Program} : ∀ {ts : List TypeId} {ds : List (DataW H)}, (DataW.weightsEach P ts ds).all (fun x => decide (x ≤ reachBytes)) = true → ∀ (i : Nat) t d, ts[i]? = some t → ds[i]? = some d → Wt P t d
  | [], _, _, _, _, _, ht, _ => by simp at ht
  | _ :: _, [], _, _, _, _, _, hd => by simp at hd
  | t :: ts, d :: ds, h, 0, t', d', ht, hd => by
    rw [DataW.weightsEach, List.all_append, Bool.and_eq_true] at h
    simp at ht hd
    subst ht hd
    exact h.1
  | t :: ts, d :: ds, h, i + 1, t', d', ht, hd => by
    rw [DataW.weightsEach, List.all_append, Bool.and_eq_true] at h
    exact wt_each h.2 i t' d' (by simpa using ht) (by simpa using hd)
theorem wt_struct {P : Program} {t : TypeId} {fs : Array Field} {parts : List (DataW H)} (ht : P.underlying t = some (.struct fs)) (h : Wt P t (.agg parts)) (i : Nat) (f : Field) (d : DataW H) (hf : fs[i]? = some f) (hd : parts[i]? = some d) : Wt P f.type d := by
  unfold Wt at h
  rw [DataW.weights] at h
  simp only [ht] at h
  exact wt_each h i f.type d (by simp [hf]) hd
theorem open_rows {P : Program} {α : Type} [Inhabited α] {e t : TypeId} {k fuel n c : Nat} {A : Option Addr} {x : DataW H × List MemPlace} {Pn : List Value → α → Prop} (ht : P.underlying t = some (.slice e)) (hC : P.cellsOf e = k) (hk : 0 < k)
    (hby : 0 < P.bytesOf e) (hel : ∀ m cs y, m < fuel → cs.length = k → Wt P e y.1 → DataW.trod enc P w base spare held m e cs = some y → ∃ z, Pn cs z) (hwt : Wt P t x.1) (h : DataW.trod enc P w base spare held fuel t [.slice A n c] = some x) : ∃ l, Rw k Pn w (fun _ => True) A n c l := by
  rcases DataW.trod_slice ht h with ⟨hcs, _⟩ | ⟨a, len, cap, elems, rest, m, hfu, hcs, hxe, hb, hl, hm, hlen, hx, _⟩
  · simp at hcs
    obtain ⟨rfl, rfl, rfl⟩ := hcs
    exact ⟨[], Rw.nil_ _ _ _ _⟩
  · simp at hcs
    obtain ⟨rfl, rfl, rfl⟩ := hcs
    subst hxe
    obtain ⟨hw1, hw2⟩ := wt_slice ht hwt
    have hbig : n ≤ 140737488351232 := by
      rw [List.length_map, List.length_map, hlen] at hw1
      have e1 : n * 1 ≤ (n + rest.length) * P.bytesOf e := Nat.mul_le_mul (by omega) hby
      have e2 : reachBytes = 140737488351232 := rfl
      omega
    have hall : ∀ i, i < n → ∃ z : α, ∃ cs : List Value, cs.length = k ∧ (∀ j, j < k → w.cell? ((a.add (i * k)).add j) = cs[j]?) ∧ Pn cs z := fun i hin => by
      have hi := hx i hin
      rw [hC, List.getElem?_eq_getElem (by omega)] at hi
      obtain ⟨cs, hc, hy⟩ := Option.bind_eq_some_iff.1 hi
      obtain ⟨_, hcl, hat⟩ := World.cells?_some hc
      obtain ⟨z, hz⟩ := hel m cs _ (by omega) hcl (hw2 _ (List.mem_map.2 ⟨_, List.getElem_mem (by omega), rfl⟩)) hy
      exact ⟨z, cs, hcl, hat, hz⟩
    obtain ⟨V, hV⟩ := Go.Deep.choose_lt hall
    refine ⟨(List.range n).map V, by simp, hl, ⟨hm, hbig⟩, ?_⟩
    by_cases h0 : n = 0
    · exact .inl h0
    · right
      obtain ⟨b, o, spot⟩ := a
      obtain ⟨cs0, hl0, hat0, _⟩ := hV 0 (by omega)
      have h00 := hat0 0 hk
      rw [List.getElem?_eq_getElem (by omega)] at h00
      have hspot : spot = none := by simpa [Addr.add] using World.cell?_spot h00
      subst hspot
      refine ⟨b, o, rfl, trivial, by have := cell_lt h00; simpa [Addr.add] using this, fun j x hj => ?_⟩
      rw [List.getElem?_map, Option.map_eq_some_iff] at hj
      obtain ⟨i, hi', rfl⟩ := hj
      have hjn : j < n := by have := (List.getElem?_eq_some_iff.1 hi').1; simpa using this
      have hij : i = j := by rw [List.getElem?_range hjn] at hi'; exact (Option.some.inj hi').symm
      subst hij
      obtain ⟨cs, hcl, hat, hz⟩ := hV i hjn
      refine ⟨cs, hcl, fun q v hq => ?_, hz⟩
      have hqk : q < k := by have := (List.getElem?_eq_some_iff.1 hq).1; omega
      have add : ∀ i k : Nat, ((⟨b, o, none⟩ : Addr).add i).add k = ⟨b, o + i + k, none⟩ := by
        intro i k
        by_cases hi0 : i = 0 <;> by_cases hk0 : k = 0 <;> simp [Addr.add, hi0, hk0]
      have := hat q hqk
      rw [add] at this
      rw [this, hq]

theorem len3 {α : Type} {cs : List α} (h : cs.length = 3) : ∃ v0 v1 v2, cs = [v0, v1, v2] := by
  match cs, h with
  | [v0, v1, v2], _ => exact ⟨v0, v1, v2, rfl⟩
theorem len5 {α : Type} {cs : List α} (h : cs.length = 5) : ∃ v0 v1 v2 v3 v4, cs = [v0, v1, v2, v3, v4] := by
  match cs, h with
  | [v0, v1, v2, v3, v4], _ => exact ⟨v0, v1, v2, v3, v4, rfl⟩
theorem len7 {α : Type} {cs : List α} (h : cs.length = 7) : ∃ v0 v1 v2 v3 v4 v5 v6, cs = [v0, v1, v2, v3, v4, v5, v6] := by
  match cs, h with
  | [v0, v1, v2, v3, v4, v5, v6], _ => exact ⟨v0, v1, v2, v3, v4, v5, v6, rfl⟩
theorem fields3 {P : Program} {e : TypeId} {f0 f1 f2 : Field} {fuel : Nat} {cs : List Value} {x : DataW H × List MemPlace} (he : P.underlying e = some (.struct #[f0, f1, f2])) (hwt : Wt P e x.1) (h : DataW.trod enc P w base spare held fuel e cs = some x) :
    ∃ m, fuel = m + 1 ∧ cs.length = P.cellsOf e ∧ ∃ y0 y1 y2, (Wt P f0.type y0.1 ∧ Wt P f1.type y1.1 ∧ Wt P f2.type y2.1) ∧ DataW.trod enc P w base spare held m f0.type ((cs.drop f0.offset).take (P.cellsOf f0.type)) = some y0 ∧ DataW.trod enc P w base spare held m f1.type ((cs.drop f1.offset).take (P.cellsOf f1.type)) = some y1 ∧ DataW.trod enc P w base spare held m f2.type ((cs.drop f2.offset).take (P.cellsOf f2.type)) = some y2 := by
  obtain ⟨ys, n', hn', hy, hlen, hyl, hf⟩ := DataW.trod_struct he h
  subst hy
  have hw := fun i f d => wt_struct he hwt i f d
  have ysn : ys.length = 3 := hyl
  match ys, ysn with
  | [y0, y1, y2], _ => exact ⟨n', hn', hlen, y0, y1, y2, ⟨hw 0 _ _ rfl rfl, hw 1 _ _ rfl rfl, hw 2 _ _ rfl rfl⟩, hf 0 _ rfl, hf 1 _ rfl, hf 2 _ rfl⟩
theorem fields5 {P : Program} {e : TypeId} {f0 f1 f2 f3 f4 : Field} {fuel : Nat} {cs : List Value} {x : DataW H × List MemPlace} (he : P.underlying e = some (.struct #[f0, f1, f2, f3, f4])) (hwt : Wt P e x.1) (h : DataW.trod enc P w base spare held fuel e cs = some x) :
    ∃ m, fuel = m + 1 ∧ cs.length = P.cellsOf e ∧ ∃ y0 y1 y2 y3 y4, (Wt P f0.type y0.1 ∧ Wt P f1.type y1.1 ∧ Wt P f2.type y2.1 ∧ Wt P f3.type y3.1 ∧ Wt P f4.type y4.1) ∧ DataW.trod enc P w base spare held m f0.type ((cs.drop f0.offset).take (P.cellsOf f0.type)) = some y0 ∧ DataW.trod enc P w base spare held m f1.type ((cs.drop f1.offset).take (P.cellsOf f1.type)) = some y1 ∧ DataW.trod enc P w base spare held m f2.type ((cs.drop f2.offset).take (P.cellsOf f2.type)) = some y2 ∧ DataW.trod enc P w base spare held m f3.type ((cs.drop f3.offset).take (P.cellsOf f3.type)) = some y3 ∧ DataW.trod enc P w base spare held m f4.type ((cs.drop f4.offset).take (P.cellsOf f4.type)) = some y4 := by
  obtain ⟨ys, n', hn', hy, hlen, hyl, hf⟩ := DataW.trod_struct he h
  subst hy
  have hw := fun i f d => wt_struct he hwt i f d
  have ysn : ys.length = 5 := hyl
  match ys, ysn with
  | [y0, y1, y2, y3, y4], _ => exact ⟨n', hn', hlen, y0, y1, y2, y3, y4, ⟨hw 0 _ _ rfl rfl, hw 1 _ _ rfl rfl, hw 2 _ _ rfl rfl, hw 3 _ _ rfl rfl, hw 4 _ _ rfl rfl⟩, hf 0 _ rfl, hf 1 _ rfl, hf 2 _ rfl, hf 3 _ rfl, hf 4 _ rfl⟩
theorem fields7 {P : Program} {e : TypeId} {f0 f1 f2 f3 f4 f5 f6 : Field} {fuel : Nat} {cs : List Value} {x : DataW H × List MemPlace} (he : P.underlying e = some (.struct #[f0, f1, f2, f3, f4, f5, f6])) (hwt : Wt P e x.1) (h : DataW.trod enc P w base spare held fuel e cs = some x) :
    ∃ m, fuel = m + 1 ∧ cs.length = P.cellsOf e ∧ ∃ y0 y1 y2 y3 y4 y5 y6, (Wt P f0.type y0.1 ∧ Wt P f1.type y1.1 ∧ Wt P f2.type y2.1 ∧ Wt P f3.type y3.1 ∧ Wt P f4.type y4.1 ∧ Wt P f5.type y5.1 ∧ Wt P f6.type y6.1) ∧ DataW.trod enc P w base spare held m f0.type ((cs.drop f0.offset).take (P.cellsOf f0.type)) = some y0 ∧ DataW.trod enc P w base spare held m f1.type ((cs.drop f1.offset).take (P.cellsOf f1.type)) = some y1 ∧ DataW.trod enc P w base spare held m f2.type ((cs.drop f2.offset).take (P.cellsOf f2.type)) = some y2 ∧ DataW.trod enc P w base spare held m f3.type ((cs.drop f3.offset).take (P.cellsOf f3.type)) = some y3 ∧ DataW.trod enc P w base spare held m f4.type ((cs.drop f4.offset).take (P.cellsOf f4.type)) = some y4 ∧ DataW.trod enc P w base spare held m f5.type ((cs.drop f5.offset).take (P.cellsOf f5.type)) = some y5 ∧ DataW.trod enc P w base spare held m f6.type ((cs.drop f6.offset).take (P.cellsOf f6.type)) = some y6 := by
  obtain ⟨ys, n', hn', hy, hlen, hyl, hf⟩ := DataW.trod_struct he h
  subst hy
  have hw := fun i f d => wt_struct he hwt i f d
  have ysn : ys.length = 7 := hyl
  match ys, ysn with
  | [y0, y1, y2, y3, y4, y5, y6], _ => exact ⟨n', hn', hlen, y0, y1, y2, y3, y4, y5, y6, ⟨hw 0 _ _ rfl rfl, hw 1 _ _ rfl rfl, hw 2 _ _ rfl rfl, hw 3 _ _ rfl rfl, hw 4 _ _ rfl rfl, hw 5 _ _ rfl rfl, hw 6 _ _ rfl rfl⟩, hf 0 _ rfl, hf 1 _ rfl, hf 2 _ rfl, hf 3 _ rfl, hf 4 _ rfl, hf 5 _ rfl, hf 6 _ rfl⟩
theorem slice_cells {P : Program} {t e : TypeId} {m : Nat} {v : Value} {y : DataW H × List MemPlace} (ht : P.underlying t = some (.slice e)) (h : DataW.trod enc P w base spare held m t [v] = some y) : ∃ A n c, v = .slice A n c := by
  rcases DataW.trod_slice ht h with ⟨hcs, _⟩ | ⟨a, len, cap, elems, rest, m, hfu, hcs, _⟩
  · exact ⟨none, 0, 0, by simpa using hcs⟩
  · exact ⟨some a, len, cap, by simpa using hcs⟩
theorem open_struct {P : Program} {t : TypeId} {fs : Array Field} {r : Reach} {b0 : Nat} {v : Value} {d : DataW H} {p : List MemPlace} (hs : P.underlying t = some (.struct fs)) (hv : Value.okWide P w r b0 t v) (h : DataW.Trod enc P w base spare held t v d p) :
    ∃ (cs : List Value) (m : Nat), v = .agg cs.toArray ∧ DataW.trod enc P w base spare held m t cs = some (d, p) := by
  obtain ⟨cs, rfl, hsz⟩ := WideShapes.okWide_struct hs hv
  obtain ⟨m, hm⟩ := h
  exact ⟨cs.toList, m, by simp, hm⟩
end
end Go.Proofs.Ytjpkemamfccfdaa
/- Values and attributes that come in. -/
namespace Go.Proofs.Ytjpkemamfccfdaa
set_option linter.unusedVariables false
open Go.RowKit Go.ChangeShapes Go.WideShapes

instance : Inhabited Atr := ⟨zeroA⟩
section
variable {H : Type} {enc : TypeId × Value → H} {w : World} {base : Nat} {spare : Nat → Bool} {held : Bool}

theorem open_atr_cells {m : Nat} {cs : List Value} {y : DataW H × List MemPlace} (hwt : Wt Try.prog 23 y.1) (h : DataW.trod enc Try.prog w base spare held m 23 cs = some y) : ∃ a : Atr, cs = a.cells ∧ a.ok := by
  obtain ⟨m', _, hlen, y0, y1, y2, ⟨q0, q1, q2⟩, g0, g1, g2⟩ := fields3 Try.underlying23 hwt h
  obtain ⟨v0, v1, v2, rfl⟩ := len3 (hlen.trans (show Try.prog.cellsOf 23 = 3 by kernel_rfl))
  have g0 : DataW.trod enc Try.prog w base spare held m' 3 (([v0, v1, v2] : List Value).drop 0 |>.take (Try.prog.cellsOf 3)) = some y0 := g0
  rw [show Try.prog.cellsOf 3 = 1 by kernel_rfl] at g0
  have g1 : DataW.trod enc Try.prog w base spare held m' 9 (([v0, v1, v2] : List Value).drop 1 |>.take (Try.prog.cellsOf 9)) = some y1 := g1
  rw [show Try.prog.cellsOf 9 = 1 by kernel_rfl] at g1
  have g2 : DataW.trod enc Try.prog w base spare held m' 4 (([v0, v1, v2] : List Value).drop 2 |>.take (Try.prog.cellsOf 4)) = some y2 := g2
  rw [show Try.prog.cellsOf 4 = 1 by kernel_rfl] at g2
  obtain ⟨x0, e0, _, w0⟩ := DataW.trod_int Try.underlying3 (show DataW.trod enc Try.prog w base spare held m' 3 [v0] = some y0 from g0)
  obtain ⟨x1, e1, _, w1⟩ := DataW.trod_string Try.underlying9 (show DataW.trod enc Try.prog w base spare held m' 9 [v1] = some y1 from g1)
  obtain ⟨x2, e2, _⟩ := DataW.trod_bool Try.underlying4 (show DataW.trod enc Try.prog w base spare held m' 4 [v2] = some y2 from g2)
  injection e0 with e0
  injection e1 with e1
  injection e2 with e2
  subst e0 e1 e2
  exact ⟨⟨x0, x1, x2⟩, rfl, wf_bounds w0, w1⟩
theorem open_vl_cells {m : Nat} {cs : List Value} {y : DataW H × List MemPlace} (hwt : Wt Try.prog 25 y.1) (h : DataW.trod enc Try.prog w base spare held m 25 cs = some y) : ∃ a : Vl, cs = a.cells ∧ a.ok := by
  obtain ⟨m', _, hlen, y0, y1, y2, ⟨q0, q1, q2⟩, g0, g1, g2⟩ := fields3 Try.underlying25 hwt h
  obtain ⟨v0, v1, v2, rfl⟩ := len3 (hlen.trans (show Try.prog.cellsOf 25 = 3 by kernel_rfl))
  have g0 : DataW.trod enc Try.prog w base spare held m' 3 (([v0, v1, v2] : List Value).drop 0 |>.take (Try.prog.cellsOf 3)) = some y0 := g0
  rw [show Try.prog.cellsOf 3 = 1 by kernel_rfl] at g0
  have g1 : DataW.trod enc Try.prog w base spare held m' 3 (([v0, v1, v2] : List Value).drop 1 |>.take (Try.prog.cellsOf 3)) = some y1 := g1
  rw [show Try.prog.cellsOf 3 = 1 by kernel_rfl] at g1
  have g2 : DataW.trod enc Try.prog w base spare held m' 9 (([v0, v1, v2] : List Value).drop 2 |>.take (Try.prog.cellsOf 9)) = some y2 := g2
  rw [show Try.prog.cellsOf 9 = 1 by kernel_rfl] at g2
  obtain ⟨x0, e0, _, w0⟩ := DataW.trod_int Try.underlying3 (show DataW.trod enc Try.prog w base spare held m' 3 [v0] = some y0 from g0)
  obtain ⟨x1, e1, _, w1⟩ := DataW.trod_int Try.underlying3 (show DataW.trod enc Try.prog w base spare held m' 3 [v1] = some y1 from g1)
  obtain ⟨x2, e2, _, w2⟩ := DataW.trod_string Try.underlying9 (show DataW.trod enc Try.prog w base spare held m' 9 [v2] = some y2 from g2)
  injection e0 with e0
  injection e1 with e1
  injection e2 with e2
  subst e0 e1 e2
  exact ⟨⟨x0, x1, x2⟩, rfl, wf_bounds w0, wf_bounds w1, w2⟩
set_option maxRecDepth 100000 in
theorem open_atr {r : Reach} {b0 : Nat} {v : Value} {d : DataW H} {p : List MemPlace} (hv : Value.okWide Try.prog w r b0 23 v) (hwt : Wt Try.prog 23 d) (h : DataW.Trod enc Try.prog w base spare held 23 v d p) : ∃ a : Atr, v = .agg #[.int .i64 a.cat, .string a.name, .bool a.must] ∧ a.ok := by
  obtain ⟨cs, m, rfl, hm⟩ := open_struct Try.underlying23 hv h
  obtain ⟨a, rfl, hok⟩ := open_atr_cells hwt hm
  exact ⟨a, rfl, hok⟩
end
end Go.Proofs.Ytjpkemamfccfdaa
/- Policies, and what they are of, that come in. -/
namespace Go.Proofs.Ytjpkemamfccfdaa
set_option linter.unusedVariables false
open Go.RowKit Go.ChangeShapes Go.WideShapes

instance : Inhabited Mat := ⟨⟨zeroA, 0, zeroV⟩⟩
instance : Inhabited Nod := ⟨⟨0, zeroV, zeroA⟩⟩
instance : Inhabited Dut := ⟨⟨0, 0, ByteArray.empty⟩⟩
instance : Inhabited Rul := ⟨⟨ByteArray.empty, false, [], [], []⟩⟩
instance : Inhabited Pol := ⟨.mk ByteArray.empty false 0 [] [] [] []⟩

section
variable {H : Type} {enc : TypeId × Value → H} {w : World} {base : Nat} {spare : Nat → Bool} {held : Bool}

theorem bytes_dut : Try.prog.bytesOf 116 = 32 := by kernel_rfl
theorem bytes_nod : Try.prog.bytesOf 113 = 72 := by kernel_rfl
theorem bytes_mat : Try.prog.bytesOf 28 = 72 := by kernel_rfl
theorem bytes_s1 : Try.prog.bytesOf 36 = 24 := by kernel_rfl
theorem bytes_s2 : Try.prog.bytesOf 37 = 24 := by kernel_rfl
theorem bytes_rul : Try.prog.bytesOf 111 = 96 := by kernel_rfl
theorem bytes_pol : Try.prog.bytesOf 74 = 128 := by kernel_rfl
theorem open_dut_cells {m : Nat} {cs : List Value} {y : DataW H × List MemPlace} (hwt : Wt Try.prog 116 y.1) (h : DataW.trod enc Try.prog w base spare held m 116 cs = some y) : ∃ a : Dut, cs = a.cells ∧ a.ok := by
  obtain ⟨m', _, hlen, y0, y1, y2, ⟨q0, q1, q2⟩, g0, g1, g2⟩ := fields3 Try.underlying116 hwt h
  obtain ⟨v0, v1, v2, rfl⟩ := len3 (hlen.trans (show Try.prog.cellsOf 116 = 3 by kernel_rfl))
  have g0 : DataW.trod enc Try.prog w base spare held m' 3 (([v0, v1, v2] : List Value).drop 0 |>.take (Try.prog.cellsOf 3)) = some y0 := g0
  rw [show Try.prog.cellsOf 3 = 1 by kernel_rfl] at g0
  have g1 : DataW.trod enc Try.prog w base spare held m' 3 (([v0, v1, v2] : List Value).drop 1 |>.take (Try.prog.cellsOf 3)) = some y1 := g1
  rw [show Try.prog.cellsOf 3 = 1 by kernel_rfl] at g1
  have g2 : DataW.trod enc Try.prog w base spare held m' 9 (([v0, v1, v2] : List Value).drop 2 |>.take (Try.prog.cellsOf 9)) = some y2 := g2
  rw [show Try.prog.cellsOf 9 = 1 by kernel_rfl] at g2
  obtain ⟨x0, e0, _, w0⟩ := DataW.trod_int Try.underlying3 (show DataW.trod enc Try.prog w base spare held m' 3 [v0] = some y0 from g0)
  obtain ⟨x1, e1, _, w1⟩ := DataW.trod_int Try.underlying3 (show DataW.trod enc Try.prog w base spare held m' 3 [v1] = some y1 from g1)
  obtain ⟨x2, e2, _, w2⟩ := DataW.trod_string Try.underlying9 (show DataW.trod enc Try.prog w base spare held m' 9 [v2] = some y2 from g2)
  injection e0 with e0
  injection e1 with e1
  injection e2 with e2
  subst e0 e1 e2
  exact ⟨⟨x0, x1, x2⟩, rfl, wf_bounds w0, wf_bounds w1, w2⟩
theorem open_mat_cells {m : Nat} {cs : List Value} {y : DataW H × List MemPlace} (hwt : Wt Try.prog 28 y.1) (h : DataW.trod enc Try.prog w base spare held m 28 cs = some y) : ∃ a : Mat, cs = a.cells ∧ a.ok := by
  obtain ⟨m', _, hlen, y0, y1, y2, ⟨q0, q1, q2⟩, g0, g1, g2⟩ := fields3 Try.underlying28 hwt h
  obtain ⟨v0, v1, v2, v3, v4, v5, v6, rfl⟩ := len7 (hlen.trans (show Try.prog.cellsOf 28 = 7 by kernel_rfl))
  have g0 : DataW.trod enc Try.prog w base spare held m' 23 (([v0, v1, v2, v3, v4, v5, v6] : List Value).drop 0 |>.take (Try.prog.cellsOf 23)) = some y0 := g0
  rw [show Try.prog.cellsOf 23 = 3 by kernel_rfl] at g0
  obtain ⟨x0, e0, w0⟩ := open_atr_cells q0 (show DataW.trod enc Try.prog w base spare held m' 23 [v0, v1, v2] = some y0 from g0)
  simp [Atr.cells] at e0
  have g1 : DataW.trod enc Try.prog w base spare held m' 3 (([v0, v1, v2, v3, v4, v5, v6] : List Value).drop 3 |>.take (Try.prog.cellsOf 3)) = some y1 := g1
  rw [show Try.prog.cellsOf 3 = 1 by kernel_rfl] at g1
  obtain ⟨x1, e1, _, w1⟩ := DataW.trod_int Try.underlying3 (show DataW.trod enc Try.prog w base spare held m' 3 [v3] = some y1 from g1)
  injection e1 with e1
  have g2 : DataW.trod enc Try.prog w base spare held m' 25 (([v0, v1, v2, v3, v4, v5, v6] : List Value).drop 4 |>.take (Try.prog.cellsOf 25)) = some y2 := g2
  rw [show Try.prog.cellsOf 25 = 3 by kernel_rfl] at g2
  obtain ⟨x2, e2, w2⟩ := open_vl_cells q2 (show DataW.trod enc Try.prog w base spare held m' 25 [v4, v5, v6] = some y2 from g2)
  simp [Vl.cells] at e2
  obtain ⟨rfl, rfl, rfl⟩ := e0
  subst e1
  obtain ⟨rfl, rfl, rfl⟩ := e2
  exact ⟨⟨x0, x1, x2⟩, rfl, w0, wf_bounds w1, w2⟩
theorem open_nod_cells {m : Nat} {cs : List Value} {y : DataW H × List MemPlace} (hwt : Wt Try.prog 113 y.1) (h : DataW.trod enc Try.prog w base spare held m 113 cs = some y) : ∃ a : Nod, cs = a.cells ∧ a.ok := by
  obtain ⟨m', _, hlen, y0, y1, y2, ⟨q0, q1, q2⟩, g0, g1, g2⟩ := fields3 Try.underlying113 hwt h
  obtain ⟨v0, v1, v2, v3, v4, v5, v6, rfl⟩ := len7 (hlen.trans (show Try.prog.cellsOf 113 = 7 by kernel_rfl))
  have g0 : DataW.trod enc Try.prog w base spare held m' 3 (([v0, v1, v2, v3, v4, v5, v6] : List Value).drop 0 |>.take (Try.prog.cellsOf 3)) = some y0 := g0
  rw [show Try.prog.cellsOf 3 = 1 by kernel_rfl] at g0
  obtain ⟨x0, e0, _, w0⟩ := DataW.trod_int Try.underlying3 (show DataW.trod enc Try.prog w base spare held m' 3 [v0] = some y0 from g0)
  injection e0 with e0
  have g1 : DataW.trod enc Try.prog w base spare held m' 25 (([v0, v1, v2, v3, v4, v5, v6] : List Value).drop 1 |>.take (Try.prog.cellsOf 25)) = some y1 := g1
  rw [show Try.prog.cellsOf 25 = 3 by kernel_rfl] at g1
  obtain ⟨x1, e1, w1⟩ := open_vl_cells q1 (show DataW.trod enc Try.prog w base spare held m' 25 [v1, v2, v3] = some y1 from g1)
  simp [Vl.cells] at e1
  have g2 : DataW.trod enc Try.prog w base spare held m' 23 (([v0, v1, v2, v3, v4, v5, v6] : List Value).drop 4 |>.take (Try.prog.cellsOf 23)) = some y2 := g2
  rw [show Try.prog.cellsOf 23 = 3 by kernel_rfl] at g2
  obtain ⟨x2, e2, w2⟩ := open_atr_cells q2 (show DataW.trod enc Try.prog w base spare held m' 23 [v4, v5, v6] = some y2 from g2)
  simp [Atr.cells] at e2
  subst e0
  obtain ⟨rfl, rfl, rfl⟩ := e1
  obtain ⟨rfl, rfl, rfl⟩ := e2
  exact ⟨⟨x0, x1, x2⟩, rfl, wf_bounds w0, w1, w2⟩

theorem open_duts_f {m n c : Nat} {A : Option Addr} {x : DataW H × List MemPlace} (hwt : Wt Try.prog 72 x.1) (h : DataW.trod enc Try.prog w base spare held m 72 [.slice A n c] = some x) : ∃ l, Dus w (fun _ => True) A n c l :=
  open_rows Try.underlying72 (by kernel_rfl) (by omega) (by rw [bytes_dut]; omega) (fun m cs y _ _ q h => open_dut_cells q h) hwt h
theorem open_nods_f {m n c : Nat} {A : Option Addr} {x : DataW H × List MemPlace} (hwt : Wt Try.prog 109 x.1) (h : DataW.trod enc Try.prog w base spare held m 109 [.slice A n c] = some x) : ∃ l, Nds w (fun _ => True) A n c l :=
  open_rows Try.underlying109 (by kernel_rfl) (by omega) (by rw [bytes_nod]; omega) (fun m cs y _ _ q h => open_nod_cells q h) hwt h
theorem open_mats_f {m n c : Nat} {A : Option Addr} {x : DataW H × List MemPlace} (hwt : Wt Try.prog 36 x.1) (h : DataW.trod enc Try.prog w base spare held m 36 [.slice A n c] = some x) : ∃ l, Ms w (fun _ => True) A n c l :=
  open_rows Try.underlying36 (by kernel_rfl) (by omega) (by rw [bytes_mat]; omega) (fun m cs y _ _ q h => open_mat_cells q h) hwt h
theorem open_alls_f {m n c : Nat} {A : Option Addr} {x : DataW H × List MemPlace} (hwt : Wt Try.prog 37 x.1) (h : DataW.trod enc Try.prog w base spare held m 37 [.slice A n c] = some x) : ∃ l, Als w (fun _ => True) A n c l :=
  open_rows Try.underlying37 (by kernel_rfl) (by omega) (by rw [bytes_s1]; omega) (fun m cs y _ hl q h => by
    match cs, hl with
    | [v], _ =>
      obtain ⟨A', n', c', rfl⟩ := slice_cells Try.underlying36 h
      obtain ⟨l, hl⟩ := open_mats_f q h
      exact ⟨l, A', n', c', rfl, hl⟩) hwt h
theorem open_anys_f {m n c : Nat} {A : Option Addr} {x : DataW H × List MemPlace} (hwt : Wt Try.prog 34 x.1) (h : DataW.trod enc Try.prog w base spare held m 34 [.slice A n c] = some x) : ∃ l, Tg w (fun _ => True) A n c l :=
  open_rows Try.underlying34 (by kernel_rfl) (by omega) (by rw [bytes_s2]; omega) (fun m cs y _ hl q h => by
    match cs, hl with
    | [v], _ =>
      obtain ⟨A', n', c', rfl⟩ := slice_cells Try.underlying37 h
      obtain ⟨l, hl⟩ := open_alls_f q h
      exact ⟨l, A', n', c', rfl, hl⟩) hwt h
theorem open_rul_cells {m : Nat} {cs : List Value} {y : DataW H × List MemPlace} (hwt : Wt Try.prog 111 y.1) (h : DataW.trod enc Try.prog w base spare held m 111 cs = some y) : ∃ r : Rul, RulAt w (fun _ => True) cs r := by
  obtain ⟨m', _, hlen, y0, y1, y2, y3, y4, ⟨q0, q1, q2, q3, q4⟩, g0, g1, g2, g3, g4⟩ := fields5 Try.underlying111 hwt h
  obtain ⟨v0, v1, v2, v3, v4, rfl⟩ := len5 (hlen.trans (show Try.prog.cellsOf 111 = 5 by kernel_rfl))
  have g0 : DataW.trod enc Try.prog w base spare held m' 9 (([v0, v1, v2, v3, v4] : List Value).drop 0 |>.take (Try.prog.cellsOf 9)) = some y0 := g0
  have g1 : DataW.trod enc Try.prog w base spare held m' 4 (([v0, v1, v2, v3, v4] : List Value).drop 1 |>.take (Try.prog.cellsOf 4)) = some y1 := g1
  have g2 : DataW.trod enc Try.prog w base spare held m' 34 (([v0, v1, v2, v3, v4] : List Value).drop 2 |>.take (Try.prog.cellsOf 34)) = some y2 := g2
  have g3 : DataW.trod enc Try.prog w base spare held m' 109 (([v0, v1, v2, v3, v4] : List Value).drop 3 |>.take (Try.prog.cellsOf 109)) = some y3 := g3
  have g4 : DataW.trod enc Try.prog w base spare held m' 72 (([v0, v1, v2, v3, v4] : List Value).drop 4 |>.take (Try.prog.cellsOf 72)) = some y4 := g4
  rw [show Try.prog.cellsOf 9 = 1 by kernel_rfl] at g0
  rw [show Try.prog.cellsOf 4 = 1 by kernel_rfl] at g1
  rw [show Try.prog.cellsOf 34 = 1 by kernel_rfl] at g2
  rw [show Try.prog.cellsOf 109 = 1 by kernel_rfl] at g3
  rw [show Try.prog.cellsOf 72 = 1 by kernel_rfl] at g4
  have g2 : DataW.trod enc Try.prog w base spare held m' 34 [v2] = some y2 := g2
  have g3 : DataW.trod enc Try.prog w base spare held m' 109 [v3] = some y3 := g3
  have g4 : DataW.trod enc Try.prog w base spare held m' 72 [v4] = some y4 := g4
  obtain ⟨x0, e0, _, w0⟩ := DataW.trod_string Try.underlying9 (show DataW.trod enc Try.prog w base spare held m' 9 [v0] = some y0 from g0)
  obtain ⟨x1, e1, _⟩ := DataW.trod_bool Try.underlying4 (show DataW.trod enc Try.prog w base spare held m' 4 [v1] = some y1 from g1)
  injection e0 with e0
  injection e1 with e1
  subst e0 e1
  obtain ⟨A2, n2, c2, rfl⟩ := slice_cells Try.underlying34 g2
  obtain ⟨A3, n3, c3, rfl⟩ := slice_cells Try.underlying109 g3
  obtain ⟨A4, n4, c4, rfl⟩ := slice_cells Try.underlying72 g4
  obtain ⟨l2, h2⟩ := open_anys_f q2 g2
  obtain ⟨l3, h3⟩ := open_nods_f q3 g3
  obtain ⟨l4, h4⟩ := open_duts_f q4 g4
  exact ⟨⟨x0, x1, l2, l3, l4⟩, A2, n2, c2, A3, n3, c3, A4, n4, c4, rfl, w0, h2, h3, h4⟩
theorem open_ruls_f {m n c : Nat} {A : Option Addr} {x : DataW H × List MemPlace} (hwt : Wt Try.prog 70 x.1) (h : DataW.trod enc Try.prog w base spare held m 70 [.slice A n c] = some x) : ∃ l, Rus w (fun _ => True) A n c l :=
  open_rows Try.underlying70 (by kernel_rfl) (by omega) (by rw [bytes_rul]; omega) (fun m cs y _ _ q h => open_rul_cells q h) hwt h
theorem open_pol_cells : ∀ {m : Nat} {cs : List Value} {y : DataW H × List MemPlace}, Wt Try.prog 74 y.1 → DataW.trod enc Try.prog w base spare held m 74 cs = some y → ∃ p : Pol, PolAt w (fun _ => True) m cs p := by
  intro m
  induction m using Nat.strongRecOn with
  | ind m ih =>
  intro cs y hwt h
  obtain ⟨m', hm, hlen, y0, y1, y2, y3, y4, y5, y6, ⟨q0, q1, q2, q3, q4, q5, q6⟩, g0, g1, g2, g3, g4, g5, g6⟩ := fields7 Try.underlying74 hwt h
  obtain ⟨v0, v1, v2, v3, v4, v5, v6, rfl⟩ := len7 (hlen.trans (show Try.prog.cellsOf 74 = 7 by kernel_rfl))
  have g0 : DataW.trod enc Try.prog w base spare held m' 9 (([v0, v1, v2, v3, v4, v5, v6] : List Value).drop 0 |>.take (Try.prog.cellsOf 9)) = some y0 := g0
  rw [show Try.prog.cellsOf 9 = 1 by kernel_rfl] at g0
  have g0 : DataW.trod enc Try.prog w base spare held m' 9 [v0] = some y0 := g0
  have g1 : DataW.trod enc Try.prog w base spare held m' 4 (([v0, v1, v2, v3, v4, v5, v6] : List Value).drop 1 |>.take (Try.prog.cellsOf 4)) = some y1 := g1
  rw [show Try.prog.cellsOf 4 = 1 by kernel_rfl] at g1
  have g1 : DataW.trod enc Try.prog w base spare held m' 4 [v1] = some y1 := g1
  have g2 : DataW.trod enc Try.prog w base spare held m' 3 (([v0, v1, v2, v3, v4, v5, v6] : List Value).drop 2 |>.take (Try.prog.cellsOf 3)) = some y2 := g2
  rw [show Try.prog.cellsOf 3 = 1 by kernel_rfl] at g2
  have g2 : DataW.trod enc Try.prog w base spare held m' 3 [v2] = some y2 := g2
  have g3 : DataW.trod enc Try.prog w base spare held m' 34 (([v0, v1, v2, v3, v4, v5, v6] : List Value).drop 3 |>.take (Try.prog.cellsOf 34)) = some y3 := g3
  rw [show Try.prog.cellsOf 34 = 1 by kernel_rfl] at g3
  have g3 : DataW.trod enc Try.prog w base spare held m' 34 [v3] = some y3 := g3
  have g4 : DataW.trod enc Try.prog w base spare held m' 70 (([v0, v1, v2, v3, v4, v5, v6] : List Value).drop 4 |>.take (Try.prog.cellsOf 70)) = some y4 := g4
  rw [show Try.prog.cellsOf 70 = 1 by kernel_rfl] at g4
  have g4 : DataW.trod enc Try.prog w base spare held m' 70 [v4] = some y4 := g4
  have g5 : DataW.trod enc Try.prog w base spare held m' 71 (([v0, v1, v2, v3, v4, v5, v6] : List Value).drop 5 |>.take (Try.prog.cellsOf 71)) = some y5 := g5
  rw [show Try.prog.cellsOf 71 = 1 by kernel_rfl] at g5
  have g5 : DataW.trod enc Try.prog w base spare held m' 71 [v5] = some y5 := g5
  have g6 : DataW.trod enc Try.prog w base spare held m' 72 (([v0, v1, v2, v3, v4, v5, v6] : List Value).drop 6 |>.take (Try.prog.cellsOf 72)) = some y6 := g6
  rw [show Try.prog.cellsOf 72 = 1 by kernel_rfl] at g6
  have g6 : DataW.trod enc Try.prog w base spare held m' 72 [v6] = some y6 := g6
  obtain ⟨x0, e0, _, w0⟩ := DataW.trod_string Try.underlying9 g0
  obtain ⟨x1, e1, _⟩ := DataW.trod_bool Try.underlying4 g1
  obtain ⟨x2, e2, _, w2⟩ := DataW.trod_int Try.underlying3 g2
  injection e0 with e0
  injection e1 with e1
  injection e2 with e2
  subst e0 e1 e2
  obtain ⟨A3, n3, c3, rfl⟩ := slice_cells Try.underlying34 g3
  obtain ⟨A4, n4, c4, rfl⟩ := slice_cells Try.underlying70 g4
  obtain ⟨A5, n5, c5, rfl⟩ := slice_cells Try.underlying71 g5
  obtain ⟨A6, n6, c6, rfl⟩ := slice_cells Try.underlying72 g6
  obtain ⟨l3, h3⟩ := open_anys_f q3 g3
  obtain ⟨l4, h4⟩ := open_ruls_f q4 g4
  obtain ⟨l6, h6⟩ := open_duts_f q6 g6
  have hk : ∃ l, Rw 7 (PolAt w (fun _ => True) m') w (fun _ => True) A5 n5 c5 l :=
    open_rows Try.underlying71 (by kernel_rfl) (by omega) (by rw [bytes_pol]; omega) (fun q cs y hq _ hw h => by
      obtain ⟨p, hp⟩ := ih q (by omega) hw h
      exact ⟨p, PolAt.more (by omega) hp⟩) q5 g5
  obtain ⟨l5, h5⟩ := hk
  subst hm
  exact ⟨.mk x0 x1 x2 l3 l4 l5 l6, A3, n3, c3, A4, n4, c4, A5, n5, c5, A6, n6, c6, rfl, w0, wf_bounds w2, h3, h4, h5, h6⟩

theorem open_duts {n c : Nat} {A : Option Addr} {d : DataW H} {p : List MemPlace} (hwt : Wt Try.prog 72 d) (h : DataW.Trod enc Try.prog w base spare held 72 (.slice A n c) d p) : ∃ l, Dus w (fun _ => True) A n c l := by
  obtain ⟨m, hm⟩ := h
  exact open_duts_f hwt hm
theorem open_nods {n c : Nat} {A : Option Addr} {d : DataW H} {p : List MemPlace} (hwt : Wt Try.prog 109 d) (h : DataW.Trod enc Try.prog w base spare held 109 (.slice A n c) d p) : ∃ l, Nds w (fun _ => True) A n c l := by
  obtain ⟨m, hm⟩ := h
  exact open_nods_f hwt hm
theorem open_tgt {n c : Nat} {A : Option Addr} {d : DataW H} {p : List MemPlace} (hwt : Wt Try.prog 34 d) (h : DataW.Trod enc Try.prog w base spare held 34 (.slice A n c) d p) : ∃ l, Tg w (fun _ => True) A n c l := by
  obtain ⟨m, hm⟩ := h
  exact open_anys_f hwt hm
set_option maxRecDepth 100000 in
theorem open_pol {r : Reach} {b0 : Nat} {v : Value} {d : DataW H} {p : List MemPlace} (hv : Value.okWide Try.prog w r b0 74 v) (hwt : Wt Try.prog 74 d) (h : DataW.Trod enc Try.prog w base spare held 74 v d p) :
    ∃ (P : Pol) (A1 : Option Addr) (n1 k1 : Nat) (A2 : Option Addr) (n2 k2 : Nat) (A3 : Option Addr) (n3 k3 : Nat) (A4 : Option Addr) (n4 k4 : Nat), v = .agg #[.string P.id, .bool P.set, .int .i64 P.alg, .slice A1 n1 k1, .slice A2 n2 k2, .slice A3 n3 k3, .slice A4 n4 k4] ∧ PolIn w (fun _ => True) P A1 n1 k1 A2 n2 k2 A3 n3 k3 A4 n4 k4 := by
  obtain ⟨cs, m, rfl, hm⟩ := open_struct Try.underlying74 hv h
  obtain ⟨P, hP⟩ := open_pol_cells hwt hm
  clear hm hv h
  match m, hP with
  | d + 1, ⟨A1, n1, k1, A2, n2, k2, A3, n3, k3, A4, n4, k4, e, h0, h00, h1, h2, h3, h4⟩ =>
    exact ⟨P, A1, n1, k1, A2, n2, k2, A3, n3, k3, A4, n4, k4, congrArg (fun x : List Value => Value.agg x.toArray) e, ⟨h0, h00⟩, h1, h2, ⟨d, h3⟩, h4⟩
end
end Go.Proofs.Ytjpkemamfccfdaa
/- Requests that come in. -/
namespace Go.Proofs.Ytjpkemamfccfdaa
set_option linter.unusedVariables false
open Go.RowKit Go.ChangeShapes Go.WideShapes

instance : Inhabited Vl := ⟨⟨0, 0, ByteArray.empty⟩⟩
section
variable {H : Type} {enc : TypeId × Value → H} {w : World} {base : Nat} {spare : Nat → Bool} {held : Bool}
theorem bytes_val : Try.prog.bytesOf 25 = 32 := by kernel_rfl
theorem bytes_giv : Try.prog.bytesOf 48 = 48 := by kernel_rfl
theorem open_vls_f {m n c : Nat} {A : Option Addr} {x : DataW H × List MemPlace} (hwt : Wt Try.prog 45 x.1) (h : DataW.trod enc Try.prog w base spare held m 45 [.slice A n c] = some x) : ∃ l, Vls w (fun _ => True) A n c l :=
  open_rows Try.underlying45 (by kernel_rfl) (by omega) (by rw [bytes_val]; omega) (fun m cs y _ _ q h => open_vl_cells q h) hwt h
theorem open_giv_cells {m : Nat} {cs : List Value} {y : DataW H × List MemPlace} (hwt : Wt Try.prog 48 y.1) (h : DataW.trod enc Try.prog w base spare held m 48 cs = some y) : ∃ g : Giv, GivAt w (fun _ => True) cs g := by
  obtain ⟨m', _, hlen, y0, y1, y2, ⟨q0, q1, q2⟩, g0, g1, g2⟩ := fields3 Try.underlying48 hwt h
  obtain ⟨v0, v1, v2, rfl⟩ := len3 (hlen.trans (show Try.prog.cellsOf 48 = 3 by kernel_rfl))
  have g0 : DataW.trod enc Try.prog w base spare held m' 3 (([v0, v1, v2] : List Value).drop 0 |>.take (Try.prog.cellsOf 3)) = some y0 := g0
  rw [show Try.prog.cellsOf 3 = 1 by kernel_rfl] at g0
  have g1 : DataW.trod enc Try.prog w base spare held m' 9 (([v0, v1, v2] : List Value).drop 1 |>.take (Try.prog.cellsOf 9)) = some y1 := g1
  rw [show Try.prog.cellsOf 9 = 1 by kernel_rfl] at g1
  have g2 : DataW.trod enc Try.prog w base spare held m' 45 (([v0, v1, v2] : List Value).drop 2 |>.take (Try.prog.cellsOf 45)) = some y2 := g2
  rw [show Try.prog.cellsOf 45 = 1 by kernel_rfl] at g2
  obtain ⟨x0, e0, _, w0⟩ := DataW.trod_int Try.underlying3 (show DataW.trod enc Try.prog w base spare held m' 3 [v0] = some y0 from g0)
  obtain ⟨x1, e1, _, w1⟩ := DataW.trod_string Try.underlying9 (show DataW.trod enc Try.prog w base spare held m' 9 [v1] = some y1 from g1)
  injection e0 with e0
  injection e1 with e1
  subst e0 e1
  have g2 : DataW.trod enc Try.prog w base spare held m' 45 [v2] = some y2 := g2
  obtain ⟨A2, n2, c2, rfl⟩ := slice_cells Try.underlying45 g2
  obtain ⟨l2, h2⟩ := open_vls_f q2 g2
  exact ⟨⟨x0, x1, l2⟩, A2, n2, c2, rfl, ⟨wf_bounds w0, w1⟩, h2⟩
theorem open_givs_f {m n c : Nat} {A : Option Addr} {x : DataW H × List MemPlace} (hwt : Wt Try.prog 30 x.1) (h : DataW.trod enc Try.prog w base spare held m 30 [.slice A n c] = some x) : ∃ l, Gvs w (fun _ => True) A n c l :=
  open_rows Try.underlying30 (by kernel_rfl) (by omega) (by rw [bytes_giv]; omega) (fun m cs y _ _ q h => open_giv_cells q h) hwt h
theorem open_givs {n c : Nat} {A : Option Addr} {d : DataW H} {p : List MemPlace} (hwt : Wt Try.prog 30 d) (h : DataW.Trod enc Try.prog w base spare held 30 (.slice A n c) d p) : ∃ l, Gvs w (fun _ => True) A n c l := by
  obtain ⟨m, hm⟩ := h
  exact open_givs_f hwt hm
set_option maxRecDepth 100000 in
theorem open_giv {r : Reach} {b0 : Nat} {v : Value} {d : DataW H} {p : List MemPlace} (hv : Value.okWide Try.prog w r b0 48 v) (hwt : Wt Try.prog 48 d) (h : DataW.Trod enc Try.prog w base spare held 48 v d p) :
    ∃ (g : Giv) (A : Option Addr) (n c : Nat), v = .agg #[.int .i64 g.cat, .string g.name, .slice A n c] ∧ g.ok ∧ Vls w (fun _ => True) A n c g.bag := by
  obtain ⟨cs, m, rfl, hm⟩ := open_struct Try.underlying48 hv h
  obtain ⟨g, A, n, c, rfl, hok, hb⟩ := open_giv_cells hwt hm
  exact ⟨g, A, n, c, rfl, hok, hb⟩
end
end Go.Proofs.Ytjpkemamfccfdaa
/- A match that comes in. -/
namespace Go.Proofs.Ytjpkemamfccfdaa
set_option linter.unusedVariables false
open Go.RowKit Go.ChangeShapes Go.WideShapes

section
variable {H : Type} {enc : TypeId × Value → H} {w : World} {base : Nat} {spare : Nat → Bool} {held : Bool}
set_option maxRecDepth 100000 in
theorem open_mat {r : Reach} {b0 : Nat} {v : Value} {d : DataW H} {p : List MemPlace} (hv : Value.okWide Try.prog w r b0 28 v) (hwt : Wt Try.prog 28 d) (h : DataW.Trod enc Try.prog w base spare held 28 v d p) : ∃ a : Mat, v = a.val ∧ a.ok := by
  obtain ⟨cs, m, rfl, hm⟩ := open_struct Try.underlying28 hv h
  obtain ⟨a, rfl, hok⟩ := open_mat_cells hwt hm
  exact ⟨a, rfl, hok⟩
end
end Go.Proofs.Ytjpkemamfccfdaa
/- Rows of numbers. -/
namespace Go.Proofs.Ytjpkemamfccfdaa
set_option linter.unusedVariables false
open Go.RowKit

def nv (l : List Int) : List Value := l.map fun n => Value.int .i64 n
theorem nv_get {l : List Int} {k : Nat} {x : Int} (h : l[k]? = some x) : (nv l)[k]? = some (.int .i64 x) := by simp [nv, h]
theorem Sl.nlen {w : World} {B n c : Nat} {A : Option Addr} {l : List Int} (h : Sl w B A n c (nv l)) : l.length = n := by have := h.1; simpa [nv] using this
theorem Sl.num {w : World} {B n c : Nat} {A : Option Addr} {l : List Int} (h : Sl w B A n c (nv l)) {k : Nat} (hk : k < n) : ∃ b o x, A = some ⟨b, o, none⟩ ∧ b < B ∧ l[k]? = some x ∧ w.cell? ⟨b, o + k, none⟩ = some (.int .i64 x) := by
  obtain ⟨b, o, u, e, hb, hx, hc⟩ := h.at_ hk
  have hl : k < l.length := by rw [h.nlen]; exact hk
  have hg := List.getElem?_eq_getElem hl
  rw [nv_get hg] at hx
  injection hx with hx
  subst hx
  exact ⟨b, o, l[k], e, hb, hg, hc⟩
end Go.Proofs.Ytjpkemamfccfdaa
/- Arguments that come in: a list of numbers. -/
namespace Go.Proofs.Ytjpkemamfccfdaa
set_option linter.unusedVariables false
open Go.RowKit Go.ChangeShapes Go.WideShapes

theorem open_nums {H : Type} {enc : TypeId × Value → H} {w : World} {base n c : Nat} {spare : Nat → Bool} {held : Bool} {A : Option Addr} {d : DataW H} {p : List MemPlace}
    (h : DataW.Trod enc Try.prog w base spare held 43 (.slice A n c) d p) : ∃ l, Sl w w.heap.size A n c (nv l) := by
  obtain ⟨fuel, hf⟩ := h
  rcases open_ints Try.underlying43 Try.underlying3 (by kernel_rfl) hf with ⟨hcs, _⟩ | ⟨a, len, cap, zs, hcs, _, hl, hm, hz, _, hcell, hwz⟩
  · simp [Value.cells] at hcs
    obtain ⟨rfl, rfl, rfl⟩ := hcs
    exact ⟨[], Sl.nil_ w _⟩
  · simp [Value.cells] at hcs
    obtain ⟨rfl, rfl, rfl⟩ := hcs
    have hzl : n ≤ zs.length := by rw [hz]; split <;> omega
    refine ⟨zs.take n, by simp [nv]; omega, hl, hm, ?_⟩
    by_cases h0 : n = 0
    · exact .inl h0
    · right
      obtain ⟨b, o, spot⟩ := a
      have h00 := hcell 0 (by omega)
      have hspot : spot = none := by simpa [Addr.add] using World.cell?_spot h00
      subst hspot
      refine ⟨b, o, rfl, by have := cell_lt h00; simpa [Addr.add] using this, fun j u hj => ?_⟩
      have hjn : j < n := by
        rcases Nat.lt_or_ge j n with hlt | hge
        · exact hlt
        · rw [List.getElem?_eq_none (by simp [nv]; omega)] at hj; cases hj
      have hcj := hcell j (by omega)
      have ha : (⟨b, o, none⟩ : Addr).add j = ⟨b, o + j, none⟩ := by
        by_cases hj0 : j = 0 <;> simp [Addr.add, hj0]
      rw [ha] at hcj
      rw [hcj, ← hj]
      simp only [nv, List.getElem?_map, List.getElem?_take, hjn, if_true]
      rw [List.getElem?_eq_getElem (by omega : j < zs.length)]
      simp only [Option.map_some, List.getD, List.getElem?_eq_getElem (by omega : j < zs.length), Option.getD_some]
end Go.Proofs.Ytjpkemamfccfdaa
/- Arguments that come in: a list of numbers, each of which an int holds. -/
namespace Go.Proofs.Ytjpkemamfccfdaa
set_option linter.unusedVariables false
open Go.RowKit Go.ChangeShapes Go.WideShapes

theorem open_numsw {H : Type} {enc : TypeId × Value → H} {w : World} {base n c : Nat} {spare : Nat → Bool} {held : Bool} {A : Option Addr} {d : DataW H} {p : List MemPlace} (hwt : Wt Try.prog 43 d)
    (h : DataW.Trod enc Try.prog w base spare held 43 (.slice A n c) d p) : ∃ l, Sl w w.heap.size A n c (nv l) := open_nums h
theorem open_intsr {H : Type} {enc : TypeId × Value → H} {w : World} {base n c : Nat} {spare : Nat → Bool} {held : Bool} {A : Option Addr} {d : DataW H} {p : List MemPlace} (hwt : Wt Try.prog 43 d)
    (h : DataW.Trod enc Try.prog w base spare held 43 (.slice A n c) d p) : ∃ l, Sl w w.heap.size A n c (nv l) ∧ ∀ x ∈ l, InI x := by
  obtain ⟨l, hl⟩ := open_nums h
  refine ⟨l, hl, fun x hx => ?_⟩
  obtain ⟨fuel, hf⟩ := h
  obtain ⟨j, hj, rfl⟩ := List.getElem_of_mem hx
  have hjn : j < n := by have := hl.nlen; omega
  rcases open_ints Try.underlying43 Try.underlying3 (by kernel_rfl) hf with ⟨hcs, _⟩ | ⟨a, len, cap, zs, hcs, _, hll, hm, hz, _, hcell, hwz⟩
  · simp [Value.cells] at hcs
    omega
  · simp [Value.cells] at hcs
    obtain ⟨rfl, rfl, rfl⟩ := hcs
    obtain ⟨b, o, x, e, _, hx2, hc⟩ := hl.num hjn
    injection e with e
    subst e
    have hzl : n ≤ zs.length := by rw [hz]; split <;> omega
    have hcj := hcell j (by omega)
    have ha : (⟨b, o, none⟩ : Addr).add j = ⟨b, o + j, none⟩ := by
      by_cases hj0 : j = 0 <;> simp [Addr.add, hj0]
    rw [ha, hc] at hcj
    rw [List.getElem?_eq_getElem hj] at hx2
    injection hx2 with hx2
    have hm' : zs.getD j 0 ∈ zs := by
      rw [List.getD, List.getElem?_eq_getElem (by omega : j < zs.length)]
      exact List.getElem_mem _
    have := hwz _ hm'
    injection hcj with hcj
    injection hcj with _ hcj
    rw [hx2, hcj]
    exact wf_bounds this
end Go.Proofs.Ytjpkemamfccfdaa
