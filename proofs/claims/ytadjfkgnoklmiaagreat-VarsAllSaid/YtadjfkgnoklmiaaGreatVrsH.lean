/- Several texts in one: EvalPol, AskFew, AskAsks, AskApart, AskPut, AskWithA, AskShort, EvalRead, EvalRunsM, EvalRuns, EvalLaws, KeepIs, KeepCopyT, KeepCopy, EvalCalls, Open, OpenRows, OpenAtr, OpenPol, OpenAsk, OpenMat. -/
import Derived.Test.YtadjfkgnoklmiaaGreatVrsG
import Derived.Test.YtadjfkgnoklmiaaGreatVrsF
import Derived.Test.YtadjfkgnoklmiaaGreatVrsB
import Derived.Deep.CutRange
import Derived.Test.YtadjfkgnoklmiaaGreatVrsC
import Derived.Laws.ResultCell
import Derived.Test.YtadjfkgnoklmiaaGreatVrsA
import Derived.OpenShut
import Derived.ChangeSlices
import Derived.Deep.Slices
import Derived.Deep.Fields
import Derived.Lib.SmallJoins
import Derived.ProofKit
import Derived.SizedLaws
/- Package eval: Policy, of a right one. -/
namespace Go.Proofs.YtadjfkgnoklmiaaGreat
set_option linter.unusedVariables false
open Go.RowKit
attribute [local go_sem] eq0 feq2 eq4 fgt0 gt2 ord_eq ord_gt ord_lt ev_store

theorem res_ret2 {fn : Func} {p u : Tmp} {tmps : Array Value} {w : World} {g : Nat} {m v : Value} {A : Option Addr} {n c : Nat} (h : fn.results = #[.cell p 50, .tmp u]) (hp : tmps.getD p undef = .pointer (some ⟨g, 0, none⟩)) (hu : tmps.getD u undef = v)
    (hg : Ob w g 50 #[m, .slice A n c]) : (results fn tmps).run Tryz.prog w = .ok (.tuple #[.agg #[m, .slice A n c], v]) w := by
  rw [results_cell_tmp h, hp, hu]
  have hl := run_loadVar_row (P := Tryz.prog) w g 50 _ _ (0, 0) _ hg Tryz.underlying50 rfl (by kernel_rfl)
  simp [asAddr, hl, Result.andThen]
set_option maxRecDepth 100000 in
set_option maxHeartbeats 3200000 in
theorem evpol_ok {ask : List Giv} {w : World} {R R2 : Nat → Prop} {A : Option Addr} {n c : Nat} {p : Pol} {A1 A2 A3 A4 : Option Addr} {n1 k1 n2 k2 n3 k3 n4 k4 : Nat} (hr : rightE p = 0) (h : PolIn w R p A1 n1 k1 A2 n2 k2 A3 n3 k3 A4 n4 k4) (hA : Gvs w R2 A n c ask) (hG : ShortG ask) :
    Calls Tryz.prog 10 #[.agg #[.string p.id, .bool p.set, .int .i64 p.alg, .slice A1 n1 k1, .slice A2 n2 k2, .slice A3 n3 k3, .slice A4 n4 k4], .slice A n c] w
      fun e w' => ∃ A' n' c', e = .returned (.tuple #[.agg #[.complex .f64 (fl (evV ask p).m.1) (fl (evV ask p).m.2), .slice A' n' c'], .int .i64 0]) ∧ Below w.heap.size w w' ∧ Dus w' (fun b => w.heap.size ≤ b) A' n' c' (evV ask p).ob := by
  have HR := Lib.hid (fun W (hW : Below w.heap.size w W) => right_pol (h.then_ hW))
  rw [hr] at HR
  have HC : Hid (∀ W, Below w.heap.size w W → Calls Tryz.prog 22 #[.agg #[.string p.id, .bool p.set, .int .i64 p.alg, .slice A1 n1 k1, .slice A2 n2 k2, .slice A3 n3 k3, .slice A4 n4 k4], .slice A n c] W
      fun e w' => ∃ A' n' c', e = .returned (.agg #[.complex .f64 (fl (evV ask p).m.1) (fl (evV ask p).m.2), .slice A' n' c']) ∧ Below W.heap.size W w' ∧ Dus w' (fun b => W.heap.size ≤ b) A' n' c' (evV ask p).ob) := fun W hW => by
    obtain ⟨_, h1, h2, ⟨m, h3⟩, h4⟩ := h.then_ hW
    exact dec_all m (right_at hr) h1 h2 h3 h4 (hA.keep (Kept.all hW R2) (fun _ h _ => h)) hG
  generalize evV ask p = v at *
  obtain ⟨⟨vp, vd⟩, vob⟩ := v
  have OB := Lib.hid (Ob.made w 28 #[.string p.id, .bool p.set, .int .i64 p.alg, .slice A1 n1 k1, .slice A2 n2 k2, .slice A3 n3 k3, .slice A4 n4 k4])
  have a1 : Below w.heap.size w (w.alloc (.cells #[.string p.id, .bool p.set, .int .i64 p.alg, .slice A1 n1 k1, .slice A2 n2 k2, .slice A3 n3 k3, .slice A4 n4 k4] 28)) := (Below.refl w.heap.size w).alloc (Nat.le_refl _) _
  have OB2 := Lib.hid (OB.out.keep (w' := (w.alloc (.cells #[.string p.id, .bool p.set, .int .i64 p.alg, .slice A1 n1 k1, .slice A2 n2 k2, .slice A3 n3 k3, .slice A4 n4 k4] 28)).alloc (.cells #[.complex .f64 0 0, .slice none 0 0] 50)) (Below.heap_alloc _ _ _ OB.out.lt))
  have OR := Ob.made (w.alloc (.cells #[.string p.id, .bool p.set, .int .i64 p.alg, .slice A1 n1 k1, .slice A2 n2 k2, .slice A3 n3 k3, .slice A4 n4 k4] 28)) 50 #[.complex .f64 0 0, .slice none 0 0]
  rw [size_al] at OR
  have OR2 := Lib.hid OR
  have D2 := Lib.hid (a1.alloc (by rw [size_al]; omega) (.cells #[.complex .f64 0 0, .slice none 0 0] 50))
  have HZ2 : Hid (((w.alloc (.cells #[.string p.id, .bool p.set, .int .i64 p.alg, .slice A1 n1 k1, .slice A2 n2 k2, .slice A3 n3 k3, .slice A4 n4 k4] 28)).alloc (.cells #[.complex .f64 0 0, .slice none 0 0] 50)).heap.size = w.heap.size + 2) := by show _ = _; rw [size_al, size_al]
  clear OB OR a1 hr h hA hG
  go_enter Tryz.func10, Tryz.ntmps10
  go_wp2_with fail
  refine (HR.out _ D2.out).mono ?_
  rintro e w1 ⟨rfl, hb⟩
  have D3 := Lib.hid (below_step D2.out hb)
  have OB3 := Lib.hid (OB2.out.below hb OB2.out.lt)
  have OR3 := Lib.hid (OR2.out.below hb OR2.out.lt)
  have HZ3 : Hid (w.heap.size + 2 ≤ w1.heap.size) := by have h1 := hb.size; have h2 := HZ2.out; show _ ≤ _; omega
  clear hb
  have o0 := OB3.out.cell 0
  have o1 := OB3.out.cell 1
  have o2 := OB3.out.cell 2
  have o3 := OB3.out.cell 3
  have o4 := OB3.out.cell 4
  have o5 := OB3.out.cell 5
  have o6 := OB3.out.cell 6
  go_wp2_with fail
  refine (HC.out _ D3.out).mono ?_
  rintro e w2 ⟨E1, e2, e3, rfl, hb, hd⟩
  have D4 := Lib.hid (below_step D3.out hb)
  have OR4 := Lib.hid (OR3.out.below hb OR3.out.lt)
  have HD := Lib.hid hd
  clear hb hd o0 o1 o2 o3 o4 o5 o6
  have r0 := OR4.out.cell 0
  have r1 := OR4.out.cell 1
  have s0 := OR4.out.frozen 0
  have s1 := OR4.out.frozen 1
  go_wp2_with fail
  try simp only [Exit.inBlock, Exit.then]
  refine bodyPost_ret (res_ret2 rfl rfl rfl (OR4.out.set2 (.complex .f64 (fl vp) (fl vd)) (.slice E1 e2 e3))) rfl ?_
  exact ⟨E1, e2, e3, rfl, below_set2 D4.out (by omega) _ _, HD.out.set2 (by have := HZ3.out; omega) (by have := HZ3.out; omega) _ _⟩
end Go.Proofs.YtadjfkgnoklmiaaGreat
/- bailiffkeep.Few: may a request be gone through in a while? -/
namespace Go.Proofs.YtadjfkgnoklmiaaGreat
set_option linter.unusedVariables false
open Go.RowKit

def valC (v : Vl) : Nat := textC v.s
def givC (g : Giv) : Nat := textC g.name + g.bag.length + sumC valC g.bag
def fewC (l : List Giv) : Nat := 2 * l.length + sumC givC l
theorem few_each {l : List Giv} (h : fewC l ≤ 1200) {g : Giv} (hg : g ∈ l) : g.name.size ≤ 9600 ∧ g.bag.length ≤ 1200 ∧ ∀ v ∈ g.bag, v.s.size ≤ 9600 := by
  have h1 := sumC_mem (f := givC) hg
  unfold fewC at h
  have e : givC g = textC g.name + g.bag.length + sumC valC g.bag := rfl
  have e2 : textC g.name = 1 + g.name.size / 8 := rfl
  refine ⟨by omega, by omega, fun v hv => ?_⟩
  have h2 := sumC_mem (f := valC) hv
  have e3 : valC v = 1 + v.s.size / 8 := rfl
  omega
set_option maxHeartbeats 1600000 in
theorem few_any {w : World} {R : Nat → Prop} {A : Option Addr} {n c : Nat} {l : List Giv} (h0 : Gvs w R A n c l) :
    Calls Tryz.prog 6 #[.slice A n c] w fun e w' => e = .returned (.bool (decide (fewC l ≤ 1200))) ∧ Below w.heap.size w w' := by
  have hb0 : Below w.heap.size w (w.alloc (.cells #[.int .i64 1200] 64)) := (Below.refl _ _).alloc (Nat.le_refl _) _
  have h : Gvs (w.alloc (.cells #[.int .i64 1200] 64)) (fun b => b < w.heap.size) A n c l := h0.keep (Kept.all hb0 R) (fun b _ hb => hb)
  have hl : Lf (w.alloc (.cells #[.int .i64 1200] 64)) w.heap.size 1200 := Ob.made w _ _
  have hR : ∀ b, b < w.heap.size → b ≠ w.heap.size := fun b hb => by omega
  have hle := Rw.le h
  have hcap := Rw.cap h
  have hbig := Rw.big h
  have HL := Lib.hid (Rw.len h)
  have HT := Lib.hid (takes_any (n := 2 * n) hl (by omega) (by unfold maxLen; omega))
  unfold Taking at HT
  rw [show ((2 * n : Nat) : Int) = 2 * (n : Int) by omega] at HT
  have H := Lib.hid h
  have HR := Lib.hid hR
  have HB0 := Lib.hid hb0
  have HC : Hid (fewC l = 2 * n + sumC givC l) := by show fewC l = _; unfold fewC; rw [HL.out]
  unfold maxLen at hcap
  generalize hcc : fewC l = cc at *
  have HG : Hid (∀ W, Only w.heap.size (w.alloc (.cells #[.int .i64 1200] 64)) W → Below w.heap.size w W) := Lib.hid (fun W hW => hb0.trans (hW.below (by simp) (Nat.le_refl _)))
  clear hcc h hl hR hb0 h0
  generalize hg : w.heap.size = g at *
  by_cases h1 : 2 * n ≤ 1200
  · rw [decide_eq_true h1] at HT
    have H1 := Lib.hid h1
    clear h1
    go_enter Tryz.func6, Tryz.ntmps6
    go_wp2_with (go_at_call 15; refine HT.out.mono ?_; rintro e w1 ⟨rfl, hb, hw⟩; have B1 := Lib.hid hb; have W1 := Lib.hid (hw H1.out); clear hb hw)
    go_loopw [18] (fun i wr => ∃ k mk : Nat, k ≤ n ∧ i = .int .i64 k ∧ sumC givC (l.take k) + mk = 1200 - 2 * n ∧ Lf wr g mk ∧ Only g (w.alloc (.cells #[.int .i64 1200] 64)) wr) (fun i _ => n - (intOf i).toNat)
    case atStart => exact ⟨0, 1200 - 2 * n, Nat.zero_le _, rfl, by rw [sumC_zero]; omega, W1.out, B1.out⟩
    case round =>
      obtain ⟨wo, hwo⟩ : ∃ wo, wo = wr := ⟨wr, rfl⟩
      subst hwo
      obtain ⟨k, mk, hk, rfl, hs, hlf, hb⟩ := hrel
      have HS := Lib.hid hs
      have HB := Lib.hid hb
      have HF := Lib.hid hlf
      clear hs hb hlf
      by_cases hlt : k < n
      · obtain ⟨b, o, x, A', n', c', rfl, hRb, hbl, hx, hok, ⟨c0, c1, c2⟩, hin⟩ := (H.out.keep (HB.out.kept HR.out) (fun _ h _ => h)).at_ hlt
        have HX := Lib.hid hx
        have hle' := Rw.le hin
        have hcap' := Rw.cap hin
        have hbig' := Rw.big hin
        have HL' := Lib.hid (Rw.len hin)
        have HIN := Lib.hid hin
        have HSX := Lib.hid (sumC_le (f := givC) hx)
        have HEX : Hid (givC x = textC x.name + n' + sumC valC x.bag) := by show givC x = _; unfold givC; rw [HL'.out]
        have HXT := Lib.hid (ktext_any x.name (HF.out.alloc (.cells #[.int .i64 x.cat, .string x.name, .slice A' n' c'] 68)) (by have := HS.out; omega) hok.2)
        unfold Taking at HXT
        have hne : wo.heap.size ≠ g := by have := HF.out.lt; omega
        unfold maxLen at hcap'
        clear hx hok hin
        by_cases h2 : textC x.name ≤ mk
        · rw [decide_eq_true h2] at HXT
          have H2 := Lib.hid h2
          clear h2
          by_cases h3 : n' ≤ mk - textC x.name
          · have d3 := decide_eq_true h3
            have H3 := Lib.hid h3
            clear h3
            go_wp2_with (first
              | (go_at_call 16; (with_reducible refine HXT.out.mono ?_); rintro e w2 ⟨rfl, hb, hw⟩; have B2 := Lib.hid hb; have W2 := Lib.hid (hw H2.out); have BX := Lib.hid ((Ob.made wo 68 #[.int .i64 x.cat, .string x.name, .slice A' n' c']).keep (hb.heap (by simp) hne)); have g2 := BX.out.cell 2; have HT3 := Lib.hid (takes_any (n := n') W2.out (by have := HS.out; omega) (by unfold maxLen; omega)); unfold Taking at HT3; rw [d3] at HT3; clear hb hw)
              | (go_at_call 15; (with_reducible refine HT3.out.mono ?_); rintro e w3 ⟨rfl, hb, hw⟩; have B3 := Lib.hid hb; have W3 := Lib.hid (hw H3.out); have BX3 := Lib.hid (BX.out.keep (hb.heap BX.out.lt hne)); have g3 := BX3.out.cell 2; clear hb hw))
            go_loopw [38] (fun i wq => ∃ k2 m2 : Nat, k2 ≤ n' ∧ i = .int .i64 k2 ∧ sumC valC (x.bag.take k2) + m2 = mk - textC x.name - n' ∧ Lf wq g m2 ∧ Only g wo wq) (fun i _ => n' - (intOf i).toNat)
            case atStart => exact ⟨0, mk - textC x.name - n', Nat.zero_le _, rfl, by rw [sumC_zero]; omega, W3.out, (Only.alloc _ _ _).trans (B2.out.trans B3.out)⟩
            case round =>
              obtain ⟨wq, hwq⟩ : ∃ wq, wq = wr := ⟨wr, rfl⟩
              subst hwq
              obtain ⟨k2, m2, hk2, rfl, hs, hlf, hb⟩ := hrel
              have HS2 := Lib.hid hs
              have HB2 := Lib.hid hb
              have HF2 := Lib.hid hlf
              clear hs hb hlf
              by_cases hlt2 : k2 < n'
              · obtain ⟨b2, o2, y, rfl, hRb2, hbl2, hy, hoky, ⟨f0, f1, f2⟩⟩ := (HIN.out.keep (HB2.out.kept HR.out) (fun _ h _ => h)).at_ hlt2
                have HY := Lib.hid hy
                have HSY := Lib.hid (sumC_le (f := valC) hy)
                have HEY : Hid (valC y = textC y.s) := rfl
                have HYT := Lib.hid (ktext_any y.s (HF2.out.alloc (.cells #[.int .i64 y.k, .int .i64 y.n, .string y.s] 40)) (by have := HS2.out; have := HS.out; omega) hoky.2.2)
                unfold Taking at HYT
                clear hy hoky
                by_cases h4 : textC y.s ≤ m2
                · rw [decide_eq_true h4] at HYT
                  have H4 := Lib.hid h4
                  clear h4
                  go_wp2_with (go_at_call 16; (with_reducible refine HYT.out.mono ?_); rintro e w4 ⟨rfl, hb, hw⟩; have B4 := Lib.hid hb; have W4 := Lib.hid (hw H4.out); clear hb hw)
                  go_roundw
                  case rel => exact ⟨k2 + 1, m2 - textC y.s, by omega, by go_num, by rw [sumC_take HY.out, HEY.out]; have := HS2.out; have := H4.out; omega, W4.out, HB2.out.trans ((Only.alloc _ _ _).trans B4.out)⟩
                  case measure => simp [intOf]; omega
                · rw [decide_eq_false h4] at HYT
                  have H4 := Lib.hid h4
                  clear h4
                  go_wp2_with (go_at_call 16; (with_reducible refine HYT.out.mono ?_); rintro e w4 ⟨rfl, hb, hw⟩; have B4 := Lib.hid hb; clear hb hw)
                  go_ret
                  have hbad : ¬ cc ≤ 1200 := by
                    have := HC.out; have := HS.out; have := H1.out; have := HSX.out; have := HEX.out; have := H2.out; have := H3.out; have := HS2.out; have := HSY.out; have := HEY.out; have := H4.out
                    omega
                  exact ⟨ret_bool (decide_eq_false hbad).symm, HG.out _ (HB.out.trans (HB2.out.trans ((Only.alloc _ _ _).trans B4.out)))⟩
              · obtain rfl : k2 = n' := by omega
                go_wp2
                go_roundw
                case rel => exact ⟨k + 1, m2, by omega, by go_num, by rw [sumC_take HX.out, HEX.out]; have := HS2.out; rw [sumC_all HL'.out] at this; have := HS.out; have := H2.out; have := H3.out; omega, HF2.out, HB.out.trans HB2.out⟩
                case measure => simp [intOf]; omega
          · have d3 := decide_eq_false h3
            have H3 := Lib.hid h3
            clear h3
            go_wp2_with (first
              | (go_at_call 16; (with_reducible refine HXT.out.mono ?_); rintro e w2 ⟨rfl, hb, hw⟩; have B2 := Lib.hid hb; have W2 := Lib.hid (hw H2.out); have BX := Lib.hid ((Ob.made wo 68 #[.int .i64 x.cat, .string x.name, .slice A' n' c']).keep (hb.heap (by simp) hne)); have g2 := BX.out.cell 2; have HT3 := Lib.hid (takes_any (n := n') W2.out (by have := HS.out; omega) (by unfold maxLen; omega)); unfold Taking at HT3; rw [d3] at HT3; clear hb hw)
              | (go_at_call 15; (with_reducible refine HT3.out.mono ?_); rintro e w3 ⟨rfl, hb, hw⟩; have B3 := Lib.hid hb; clear hb hw))
            go_ret
            have hbad : ¬ cc ≤ 1200 := by
              have := HC.out; have := HS.out; have := H1.out; have := HSX.out; have := HEX.out; have := H2.out; have := H3.out
              omega
            exact ⟨ret_bool (decide_eq_false hbad).symm, HG.out _ (HB.out.trans ((Only.alloc _ _ _).trans (B2.out.trans B3.out)))⟩
        · rw [decide_eq_false h2] at HXT
          have H2 := Lib.hid h2
          clear h2
          go_wp2_with (go_at_call 16; (with_reducible refine HXT.out.mono ?_); rintro e w2 ⟨rfl, hb, hw⟩; have B2 := Lib.hid hb; clear hb hw)
          go_ret
          have hbad : ¬ cc ≤ 1200 := by
            have := HC.out; have := HS.out; have := H1.out; have := HSX.out; have := HEX.out; have := H2.out
            omega
          exact ⟨ret_bool (decide_eq_false hbad).symm, HG.out _ (HB.out.trans ((Only.alloc _ _ _).trans B2.out))⟩
      · obtain rfl : k = n := by omega
        go_wp2
        go_ret
        have hs := HS.out
        rw [sumC_all HL.out] at hs
        have := HC.out
        have := H1.out
        exact ⟨ret_bool (decide_eq_true (by omega)).symm, HG.out _ HB.out⟩
  · rw [decide_eq_false h1] at HT
    have H1 := Lib.hid h1
    clear h1
    go_enter Tryz.func6, Tryz.ntmps6
    go_wp2_with (go_at_call 15; refine HT.out.mono ?_; rintro e w1 ⟨rfl, hb, hw⟩; have B1 := Lib.hid hb; clear hb hw)
    go_ret
    have hbad : ¬ cc ≤ 1200 := by have := HC.out; have := H1.out; omega
    exact ⟨ret_bool (decide_eq_false hbad).symm, HG.out _ B1.out⟩
end Go.Proofs.YtadjfkgnoklmiaaGreat
/- bailiffkeep.Asks: a request in new memory. -/
namespace Go.Proofs.YtadjfkgnoklmiaaGreat
set_option linter.unusedVariables false
open Go.RowKit

def Og (w : World) (base : Nat) (A : Option Addr) (n c : Nat) (l : List Giv) : Prop := Ow 3 (GivAt w (Nb 0 (.slice A n c))) w base 68 A n c l ∧ base ≤ w.heap.size
theorem Og.below {w w' : World} {base n c : Nat} {A : Option Addr} {l : List Giv} (h : Og w base A n c l) (hb : Below w.heap.size w w') : Og w' base A n c l :=
  ⟨(h.1.mapP (fun vs x _ hp => hp.keep (Kept.all hb _) (fun _ h _ => h))).below hb, Nat.le_trans h.2 hb.size⟩
theorem Og.push {w : World} {base n c : Nat} {A : Option Addr} {l : List Giv} {A1 : Option Addr} {n1 c1 : Nat} {g : Giv} (h : Og w base A n c l) (hok : g.ok) (hx : Vls w (Nb 0 (.slice A n c)) A1 n1 c1 g.bag) (hn : n < 1000000) :
    ∃ A' c' w', (Builtin.append_ #[29, 29] 29 #[.slice A n c, .slice (some ⟨w.heap.size, 0, none⟩) 1 1]).run Tryz.prog (w.alloc (.cells #[.int .i64 g.cat, .string g.name, .slice A1 n1 c1] 68)) = .ok (.slice A' (n + 1) c') w' ∧ Og w' base A' (n + 1) c' (l ++ [g]) ∧ Below base w w' := by
  obtain ⟨i, hi, hz, hs, hb⟩ := info_of givinfo
  have hbase := h.2
  have a1 : Below w.heap.size w (w.alloc (.cells #[.int .i64 g.cat, .string g.name, .slice A1 n1 c1] 68)) := (Below.refl _ _).alloc (Nat.le_refl _) _
  have h' := Og.below h a1
  have hlit : Rw 3 (GivAt (w.alloc (.cells #[.int .i64 g.cat, .string g.name, .slice A1 n1 c1] 68)) (Nb 0 (.slice A n c))) (w.alloc (.cells #[.int .i64 g.cat, .string g.name, .slice A1 n1 c1] 68)) (fun _ => True) (some ⟨w.heap.size, 0, none⟩) 1 1 [g] := by
    have := Rw.lit (P := GivAt (w.alloc (.cells #[.int .i64 g.cat, .string g.name, .slice A1 n1 c1] 68)) (Nb 0 (.slice A n c))) (R := fun _ => True) w 68 (fun _ => [.int .i64 g.cat, .string g.name, .slice A1 n1 c1]) [g] (n := 1) rfl (by omega) trivial (fun _ _ => rfl) (fun y hy => by simp at hy; subst hy; exact GivAt.keep ⟨A1, n1, c1, rfl, hok, hx⟩ (Kept.all a1 _) (fun _ h _ => h))
    simpa using this
  obtain ⟨A', c', w', hrun, hown, hbel, hg, hob⟩ := Ow.app (ty := 29) Tryz.underlying29 hi hz hs hb rfl (by omega) (by omega) h'.1 hlit (GivAt.one) (by omega) h'.2
  refine ⟨A', c', w', hrun, ⟨hown.mapP fun vs x _ hp => hp.keep ⟨hg.size, fun b hR hlt => hg.block b hlt hR.2⟩ (fun b hR hlt => ⟨hR.1, ?_⟩), Nat.le_trans h'.2 hbel.size⟩, (a1.mono hbase).trans hbel⟩
  rcases hob with e | e
  · rw [e]; exact hR.2
  · rw [e]
    intro he
    injection he with he
    omega

end Go.Proofs.YtadjfkgnoklmiaaGreat
/- apart: the same attribute in memory of its own. -/
namespace Go.Proofs.YtadjfkgnoklmiaaGreat
set_option linter.unusedVariables false
open Go.RowKit Go.Sort

end Go.Proofs.YtadjfkgnoklmiaaGreat
/- A store of an attribute into a row of the call's own. -/
namespace Go.Proofs.YtadjfkgnoklmiaaGreat
set_option linter.unusedVariables false
open Go.RowKit

end Go.Proofs.YtadjfkgnoklmiaaGreat
/- With: a request with one more attribute, or another one in its place. -/
namespace Go.Proofs.YtadjfkgnoklmiaaGreat
set_option linter.unusedVariables false
open Go.RowKit

end Go.Proofs.YtadjfkgnoklmiaaGreat
/- Requests that may be gone through in a while: none of their parts is long. -/
namespace Go.Proofs.YtadjfkgnoklmiaaGreat
set_option linter.unusedVariables false
open Go.RowKit

theorem few_short {l : List Giv} (h : fewC l ≤ 1200) : ShortG l := fun g hg => by
  obtain ⟨h1, h2, h3⟩ := few_each h hg
  exact ⟨fun v hv => by have := h3 v hv; omega, by omega⟩
end Go.Proofs.YtadjfkgnoklmiaaGreat
/- The helpers of stage 14's statements: read, x; bailiffkeep.Results of two that are the same. -/
namespace Go.Proofs.YtadjfkgnoklmiaaGreat
set_option linter.unusedVariables false
open Go.RowKit
attribute [local go_sem] eq0 feq2 eq4 fgt0 gt2 ord_eq ord_gt ord_lt ev_store

set_option maxHeartbeats 1600000 in
theorem evsame_any {w : World} {R R' : Nat → Prop} {A A' : Option Addr} {n c n' c' : Nat} {l : List Dut} (p d : Fin 5) (h : Dus w R A n c l) (h' : Dus w R' A' n' c' l) :
    Calls Tryz.prog 11 #[.agg #[.complex .f64 (fl p) (fl d), .slice A n c], .agg #[.complex .f64 (fl p) (fl d), .slice A' n' c']] w fun e w' => e = .returned (.bool true) ∧ Below w.heap.size w w' := by
  obtain rfl := Rw.same_len h h'
  have a1 : Below w.heap.size w (w.alloc (.cells #[.complex .f64 (fl p) (fl d), .slice A n c] 50)) := (Below.refl w.heap.size w).alloc (Nat.le_refl _) _
  have D2 := a1.alloc (by rw [size_al]; omega) (.cells #[.complex .f64 (fl p) (fl d), .slice A' n c'] 50)
  have HS := Lib.hid (same_dut (h.keep (Kept.all D2 R) (fun _ h _ => h)) (h'.keep (Kept.all D2 R') (fun _ h _ => h)))
  have OA := (Ob.made w 50 #[.complex .f64 (fl p) (fl d), .slice A n c]).keep (w' := (w.alloc (.cells #[.complex .f64 (fl p) (fl d), .slice A n c] 50)).alloc (.cells #[.complex .f64 (fl p) (fl d), .slice A' n c'] 50)) (Below.heap_alloc _ _ _ (by rw [size_al]; omega))
  have OC := Ob.made (w.alloc (.cells #[.complex .f64 (fl p) (fl d), .slice A n c] 50)) 50 #[.complex .f64 (fl p) (fl d), .slice A' n c']
  rw [size_al] at OC
  have q0 := OA.cell 0
  have q1 := OA.cell 1
  have z0 := OC.cell 0
  have z1 := OC.cell 1
  have DD := Lib.hid D2
  clear OA OC D2 a1 h h'
  go_enter Tryz.func11, Tryz.ntmps11
  go_wp2_with fail
  refine HS.out.mono ?_
  rintro e w' ⟨rfl, hb⟩
  have B2 := Lib.hid (below_step DD.out hb)
  clear hb
  go_wp2_with fail
  go_ret
  exact ⟨rfl, B2.out⟩
end Go.Proofs.YtadjfkgnoklmiaaGreat
/- Chapter 14's runs, plainly: the policy that is read, and what it comes to. -/
namespace Go.Proofs.YtadjfkgnoklmiaaGreat
set_option linter.unusedVariables false

end Go.Proofs.YtadjfkgnoklmiaaGreat
/- Chapter 14's runs, walked. -/
namespace Go.Proofs.YtadjfkgnoklmiaaGreat
set_option linter.unusedVariables false
open Go.RowKit
attribute [local go_sem] eq0 feq2 eq4 fgt0 gt2 ord_eq ord_gt ord_lt ev_store

theorem evpol_is {ask : List Giv} {w : World} {R R2 : Nat → Prop} {A : Option Addr} {n c : Nat} {p : Pol} {A1 A2 A3 A4 : Option Addr} {n1 k1 n2 k2 n3 k3 n4 k4 : Nat} {vp vd : Fin 5} {vob : List Dut} (hv : evV ask p = ⟨(vp, vd), vob⟩) (hr : rightE p = 0) (h : PolIn w R p A1 n1 k1 A2 n2 k2 A3 n3 k3 A4 n4 k4) (hA : Gvs w R2 A n c ask) (hG : ShortG ask) :
    Calls Tryz.prog 10 #[.agg #[.string p.id, .bool p.set, .int .i64 p.alg, .slice A1 n1 k1, .slice A2 n2 k2, .slice A3 n3 k3, .slice A4 n4 k4], .slice A n c] w
      fun e w' => ∃ A' n' c', e = .returned (.tuple #[.agg #[.complex .f64 (fl vp) (fl vd), .slice A' n' c'], .int .i64 0]) ∧ Below w.heap.size w w' ∧ Dus w' (fun b => w.heap.size ≤ b) A' n' c' vob := by
  have := evpol_ok hr h hA hG
  rw [hv] at this
  exact this
def ResIn (w : World) (g : Nat) (m : Mk) (ob : List Dut) : Prop := ∃ E f h, Ob w g 50 #[.complex .f64 (fl m.1) (fl m.2), .slice E f h] ∧ Dus w (fun _ => True) E f h ob
theorem ResIn.then_ {w w' : World} {g : Nat} {m : Mk} {ob : List Dut} (h : ResIn w g m ob) (hb : Below w.heap.size w w') : ResIn w' g m ob := by
  obtain ⟨E, f, h, h1, h2⟩ := h
  exact ⟨E, f, h, h1.below hb h1.lt, h2.keep (Kept.all hb _) (fun _ h _ => h)⟩
end Go.Proofs.YtadjfkgnoklmiaaGreat

/- What decisions by a policy keep (plain): duties are of the decision; targets; sets of one; order. -/
namespace Go.Proofs.YtadjfkgnoklmiaaGreat
set_option linter.unusedVariables false

def SureM (m : Mk) : Prop := m = (4, 0) ∨ m = (0, 4)
instance (m : Mk) : Decidable (SureM m) := by unfold SureM; infer_instance
end Go.Proofs.YtadjfkgnoklmiaaGreat
/- bailiffkeep.Small: is a policy one that may be gone through in a while? -/
namespace Go.Proofs.YtadjfkgnoklmiaaGreat
set_option linter.unusedVariables false
open Go.RowKit

theorem kok_all : ∀ d, KOk d
  | 0 => kpol_step 0 fun d' h => by omega
  | d + 1 => kpol_step (d + 1) fun d' h => by
    obtain rfl : d' = d := by omega
    exact kok_all d'

set_option maxRecDepth 100000 in
theorem small_pol {w : World} {R : Nat → Prop} {d : Nat} {p : Pol} {A1 A2 A3 A4 : Option Addr} {n1 k1 n2 k2 n3 k3 n4 k4 : Nat} (hid : p.id.size ≤ maxLen) (h1 : Tg w R A1 n1 k1 p.tg) (h2 : Rus w R A2 n2 k2 p.rules) (h3 : Pls w R d A3 n3 k3 p.kids) (h4 : Dus w R A4 n4 k4 p.ob) :
    Calls Tryz.prog 5 #[.agg #[.string p.id, .bool p.set, .int .i64 p.alg, .slice A1 n1 k1, .slice A2 n2 k2, .slice A3 n3 k3, .slice A4 n4 k4]] w
      fun e w' => e = .returned (.bool (decide (polC (d + 1) p ≤ 3000))) ∧ Below w.heap.size w w' := by
  have hb0 : Below w.heap.size w ((w.alloc (.cells #[.string p.id, .bool p.set, .int .i64 p.alg, .slice A1 n1 k1, .slice A2 n2 k2, .slice A3 n3 k3, .slice A4 n4 k4] 28)).alloc (.cells #[.int .i64 3000] 64)) :=
    ((Below.refl _ _).alloc (Nat.le_refl _) _).alloc (by simp) _
  have hl : Lf ((w.alloc (.cells #[.string p.id, .bool p.set, .int .i64 p.alg, .slice A1 n1 k1, .slice A2 n2 k2, .slice A3 n3 k3, .slice A4 n4 k4] 28)).alloc (.cells #[.int .i64 3000] 64)) (w.heap.size + 1) 3000 := by
    have := Ob.made (w.alloc (.cells #[.string p.id, .bool p.set, .int .i64 p.alg, .slice A1 n1 k1, .slice A2 n2 k2, .slice A3 n3 k3, .slice A4 n4 k4] 28)) 64 #[.int .i64 3000]
    rwa [size_al] at this
  have hk := Kept.all hb0 R
  have HC := kok_all d (R := fun b => b < w.heap.size) hl (Nat.le_refl _) (fun b hb => by omega) hid (h1.keep hk (fun b _ hb => hb)) (h2.keep hk (fun b _ hb => hb)) (h3.keep hk (fun b _ hb => hb)) (h4.keep hk (fun b _ hb => hb))
  unfold Taking at HC
  have HCC := Lib.hid HC
  have HB0 := Lib.hid hb0
  clear HC hk hl hb0 h1 h2 h3 h4
  go_enter Tryz.func5, Tryz.ntmps5
  go_wp2_with (go_at_call 14; refine HCC.out.mono ?_; rintro e w1 ⟨rfl, hb, hw⟩)
  go_ret
  exact ⟨rfl, HB0.out.trans (hb.below (by simp only [size_al]; omega) (by omega))⟩
end Go.Proofs.YtadjfkgnoklmiaaGreat
/- bailiffkeep: a target in new memory. -/
namespace Go.Proofs.YtadjfkgnoklmiaaGreat
set_option linter.unusedVariables false
open Go.RowKit

end Go.Proofs.YtadjfkgnoklmiaaGreat
/- bailiffkeep: a policy in new memory. -/
namespace Go.Proofs.YtadjfkgnoklmiaaGreat
set_option linter.unusedVariables false
open Go.RowKit

def CopyTo (w w' : World) (d : Nat) (p : Pol) (B1 : Option Addr) (n1 d1 : Nat) (B2 : Option Addr) (n2 d2 : Nat) (B3 : Option Addr) (n3 d3 : Nat) (B4 : Option Addr) (n4 d4 : Nat) : Prop :=
  ∃ s1 s2, w.heap.size ≤ s1 ∧ s1 ≤ s2 ∧ s2 ≤ w'.heap.size ∧ Tg w' (fun b => w.heap.size ≤ b ∧ b < s1) B1 n1 d1 p.tg ∧ Dus w' (fun b => w.heap.size ≤ b ∧ b < s1) B4 n4 d4 p.ob ∧
    Ow 5 (RulAt w' (fun b => Nb s1 (.slice B2 n2 d2) b ∧ b < s2)) w' s1 58 B2 n2 d2 p.rules ∧ (∀ b, (Value.slice B2 n2 d2).ownBlock = some b → b < s2) ∧ Gr 7 (fun w R => PolAt w R d) w' s2 28 B3 n3 d3 p.kids
theorem CopyTo.at_ {w w' : World} {d : Nat} {p : Pol} {B1 B2 B3 B4 : Option Addr} {n1 n2 n3 n4 d1 d2 d3 d4 : Nat} (h : CopyTo w w' d p B1 n1 d1 B2 n2 d2 B3 n3 d3 B4 n4 d4) (hid : p.id.size ≤ maxLen) (ha : InI p.alg) (hn2 : n2 ≤ 3000) (hn3 : n3 ≤ 3000) :
    PolAt w' (fun b => w.heap.size ≤ b) (d + 1) [.string p.id, .bool p.set, .int .i64 p.alg, .slice B1 n1 d1, .slice B2 n2 d2, .slice B3 n3 d3, .slice B4 n4 d4] p := by
  obtain ⟨s1, s2, l1, l2, l3, ht, hd, hr, hl, hk⟩ := h
  refine ⟨B1, n1, d1, B2, n2, d2, B3, n3, d3, B4, n4, d4, rfl, hid, ha, ht.keep (Kept.refl _ _) (fun b hb _ => hb.1), ?_, ?_, hd.keep (Kept.refl _ _) (fun b hb _ => hb.1)⟩
  · have := (hr.mapP (P' := RulAt w' (fun b => s1 ≤ b)) (fun vs x _ h => h.keep (Kept.refl _ _) (fun b hb _ => hb.1.1))).rw (by omega) (R := fun b => s1 ≤ b) (fun _ _ h => h)
    exact Rus.keep this (Kept.refl _ _) (fun b hb _ => Nat.le_trans l1 hb)
  · have := Gr.rw (keeps_pol d) hk (by omega)
    exact Pls.keep this (Kept.refl _ _) (fun b hb _ => Nat.le_trans (Nat.le_trans l1 l2) hb)
end Go.Proofs.YtadjfkgnoklmiaaGreat
/- What the laws of stage 14 call: Small, Copy, Right, eval.Policy, in any later world. -/
namespace Go.Proofs.YtadjfkgnoklmiaaGreat
set_option linter.unusedVariables false
open Go.RowKit

section
variable {w : World} {R : Nat → Prop} {p : Pol} {A1 A2 A3 A4 : Option Addr} {n1 k1 n2 k2 n3 k3 n4 k4 : Nat}
theorem evsmall (h : PolIn w R p A1 n1 k1 A2 n2 k2 A3 n3 k3 A4 n4 k4) : ∃ m, Pls w R m A3 n3 k3 p.kids ∧ ∀ V, Below w.heap.size w V →
    Calls Tryz.prog 5 #[.agg #[.string p.id, .bool p.set, .int .i64 p.alg, .slice A1 n1 k1, .slice A2 n2 k2, .slice A3 n3 k3, .slice A4 n4 k4]] V fun e w' => e = .returned (.bool (decide (polC (m + 1) p ≤ 3000))) ∧ Below V.heap.size V w' := by
  obtain ⟨h0, h1, h2, ⟨m, h3⟩, h4⟩ := h
  refine ⟨m, h3, fun V hV => ?_⟩
  have hk := Kept.all hV R
  exact small_pol h0.1 (h1.keep hk (fun _ h _ => h)) (h2.keep hk (fun _ h _ => h)) (h3.keep hk (fun _ h _ => h)) (h4.keep hk (fun _ h _ => h))
theorem evdec {R2 : Nat → Prop} {A : Option Addr} {n c : Nat} {ask : List Giv} {vp vd : Fin 5} {vob : List Dut} (h : PolIn w R p A1 n1 k1 A2 n2 k2 A3 n3 k3 A4 n4 k4) (hr : rightE p = 0) (hA : Gvs w R2 A n c ask) (hG : ShortG ask) (hv : evV ask p = ⟨(vp, vd), vob⟩) (V : World) (hV : Below w.heap.size w V) :
    Calls Tryz.prog 10 #[.agg #[.string p.id, .bool p.set, .int .i64 p.alg, .slice A1 n1 k1, .slice A2 n2 k2, .slice A3 n3 k3, .slice A4 n4 k4], .slice A n c] V
      fun e w' => ∃ A' n' c', e = .returned (.tuple #[.agg #[.complex .f64 (fl vp) (fl vd), .slice A' n' c'], .int .i64 0]) ∧ Below V.heap.size V w' ∧ Dus w' (fun b => V.heap.size ≤ b) A' n' c' vob :=
  evpol_is hv hr (h.then_ hV) (hA.keep (Kept.all hV R2) (fun _ h _ => h)) hG
theorem evfew {R2 : Nat → Prop} {A : Option Addr} {n c : Nat} {ask : List Giv} (hA : Gvs w R2 A n c ask) {b : Bool} (hb : decide (fewC ask ≤ 1200) = b) (V : World) (hV : Below w.heap.size w V) :
    Calls Tryz.prog 6 #[.slice A n c] V fun e w' => e = .returned (.bool b) ∧ Below V.heap.size V w' := by
  have := few_any (hA.keep (Kept.all hV R2) (fun _ h _ => h))
  rwa [hb] at this
end
end Go.Proofs.YtadjfkgnoklmiaaGreat
/- Arguments that come in: a slice of bytes as Sl. -/
namespace Go.Proofs.YtadjfkgnoklmiaaGreat
set_option linter.unusedVariables false
open Go.RowKit Go.ChangeShapes Go.WideShapes

theorem cell_lt {w : World} {p : Addr} {v : Value} (h : w.cell? p = some v) : p.block < w.heap.size := by
  rcases Nat.lt_or_ge p.block w.heap.size with hlt | hge
  · exact hlt
  · simp [World.cell?, Array.getElem?_eq_none hge] at h

end Go.Proofs.YtadjfkgnoklmiaaGreat
/- Rows of structs that come in: what any of them asks. -/
namespace Go.Proofs.YtadjfkgnoklmiaaGreat
set_option linter.unusedVariables false
open Go.RowKit Go.ChangeShapes Go.WideShapes

section
variable {H : Type} {enc : TypeId × Value → H} {w : World} {base : Nat} {spare : Nat → Bool} {held : Bool}

def Wt (P : Program) (t : TypeId) (d : DataW H) : Prop := (d.weights P t).all (fun x => decide (x ≤ reachBytes)) = true
theorem wt_all {P : Program} {e : TypeId} : ∀ {l : List (DataW H)}, (DataW.weightsAll P e l).all (fun x => decide (x ≤ reachBytes)) = true → ∀ d ∈ l, Wt P e d
  | [], _, d, hd => by cases hd
  | x :: l, h, d, hd => by
    rw [DataW.weightsAll, List.all_append, Bool.and_eq_true] at h
    rcases List.mem_cons.1 hd with rfl | hd
    · exact h.1
    · exact wt_all h.2 d hd
theorem wt_slice {P : Program} {t e : TypeId} {a b : List (DataW H)} (ht : P.underlying t = some (.slice e)) (h : Wt P t (.slice a b)) : (a.length + b.length) * P.bytesOf e ≤ reachBytes ∧ ∀ d ∈ a, Wt P e d := by
  unfold Wt at h
  rw [DataW.weights] at h
  simp only [ht] at h
  rw [List.all_cons, List.all_append, Bool.and_eq_true, Bool.and_eq_true] at h
  exact ⟨by simpa using h.1, wt_all h.2.1⟩
theorem wt_each {P : Program} : ∀ {ts : List TypeId} {ds : List (DataW H)}, (DataW.weightsEach P ts ds).all (fun x => decide (x ≤ reachBytes)) = true → ∀ (i : Nat) t d, ts[i]? = some t → ds[i]? = some d → Wt P t d
  | [], _, _, _, _, _, ht, _ => by simp at ht
  | _ :: _, [], _, _, _, _, _, hd => by simp at hd
  | t :: ts, d :: ds, h, 0, t', d', ht, hd => by
    rw [DataW.weightsEach, List.all_append, Bool.and_eq_true] at h
    simp at ht hd
    subst ht hd
    exact h.1
  | t :: ts, d :: ds, h, i + 1, t', d', ht, hd => by
    rw [DataW.weightsEach, List.all_append, Bool.and_eq_true] at h
    exact wt_each h.2 i t' d' (by simpa using ht) (by simpa using hd)
theorem wt_struct {P : Program} {t : TypeId} {fs : Array Field} {parts : List (DataW H)} (ht : P.underlying t = some (.struct fs)) (h : Wt P t (.agg parts)) (i : Nat) (f : Field) (d : DataW H) (hf : fs[i]? = some f) (hd : parts[i]? = some d) : Wt P f.type d := by
  unfold Wt at h
  rw [DataW.weights] at h
  simp only [ht] at h
  exact wt_each h i f.type d (by simp [hf]) hd
theorem open_rows {P : Program} {α : Type} [Inhabited α] {e t : TypeId} {k fuel n c : Nat} {A : Option Addr} {x : DataW H × List MemPlace} {Pn : List Value → α → Prop} (ht : P.underlying t = some (.slice e)) (hC : P.cellsOf e = k) (hk : 0 < k)
    (hby : 0 < P.bytesOf e) (hel : ∀ m cs y, m < fuel → cs.length = k → Wt P e y.1 → DataW.trod enc P w base spare held m e cs = some y → ∃ z, Pn cs z) (hwt : Wt P t x.1) (h : DataW.trod enc P w base spare held fuel t [.slice A n c] = some x) : ∃ l, Rw k Pn w (fun _ => True) A n c l := by
  rcases DataW.trod_slice ht h with ⟨hcs, _⟩ | ⟨a, len, cap, elems, rest, m, hfu, hcs, hxe, hb, hl, hm, hlen, hx, _⟩
  · simp at hcs
    obtain ⟨rfl, rfl, rfl⟩ := hcs
    exact ⟨[], Rw.nil_ _ _ _ _⟩
  · simp at hcs
    obtain ⟨rfl, rfl, rfl⟩ := hcs
    subst hxe
    obtain ⟨hw1, hw2⟩ := wt_slice ht hwt
    have hbig : n ≤ 140737488351232 := by
      rw [List.length_map, List.length_map, hlen] at hw1
      have e1 : n * 1 ≤ (n + rest.length) * P.bytesOf e := Nat.mul_le_mul (by omega) hby
      have e2 : reachBytes = 140737488351232 := rfl
      omega
    have hall : ∀ i, i < n → ∃ z : α, ∃ cs : List Value, cs.length = k ∧ (∀ j, j < k → w.cell? ((a.add (i * k)).add j) = cs[j]?) ∧ Pn cs z := fun i hin => by
      have hi := hx i hin
      rw [hC, List.getElem?_eq_getElem (by omega)] at hi
      obtain ⟨cs, hc, hy⟩ := Option.bind_eq_some_iff.1 hi
      obtain ⟨_, hcl, hat⟩ := World.cells?_some hc
      obtain ⟨z, hz⟩ := hel m cs _ (by omega) hcl (hw2 _ (List.mem_map.2 ⟨_, List.getElem_mem (by omega), rfl⟩)) hy
      exact ⟨z, cs, hcl, hat, hz⟩
    obtain ⟨V, hV⟩ := Go.Deep.choose_lt hall
    refine ⟨(List.range n).map V, by simp, hl, ⟨hm, hbig⟩, ?_⟩
    by_cases h0 : n = 0
    · exact .inl h0
    · right
      obtain ⟨b, o, spot⟩ := a
      obtain ⟨cs0, hl0, hat0, _⟩ := hV 0 (by omega)
      have h00 := hat0 0 hk
      rw [List.getElem?_eq_getElem (by omega)] at h00
      have hspot : spot = none := by simpa [Addr.add] using World.cell?_spot h00
      subst hspot
      refine ⟨b, o, rfl, trivial, by have := cell_lt h00; simpa [Addr.add] using this, fun j x hj => ?_⟩
      rw [List.getElem?_map, Option.map_eq_some_iff] at hj
      obtain ⟨i, hi', rfl⟩ := hj
      have hjn : j < n := by have := (List.getElem?_eq_some_iff.1 hi').1; simpa using this
      have hij : i = j := by rw [List.getElem?_range hjn] at hi'; exact (Option.some.inj hi').symm
      subst hij
      obtain ⟨cs, hcl, hat, hz⟩ := hV i hjn
      refine ⟨cs, hcl, fun q v hq => ?_, hz⟩
      have hqk : q < k := by have := (List.getElem?_eq_some_iff.1 hq).1; omega
      have add : ∀ i k : Nat, ((⟨b, o, none⟩ : Addr).add i).add k = ⟨b, o + i + k, none⟩ := by
        intro i k
        by_cases hi0 : i = 0 <;> by_cases hk0 : k = 0 <;> simp [Addr.add, hi0, hk0]
      have := hat q hqk
      rw [add] at this
      rw [this, hq]

theorem len3 {α : Type} {cs : List α} (h : cs.length = 3) : ∃ v0 v1 v2, cs = [v0, v1, v2] := by
  match cs, h with
  | [v0, v1, v2], _ => exact ⟨v0, v1, v2, rfl⟩
theorem len5 {α : Type} {cs : List α} (h : cs.length = 5) : ∃ v0 v1 v2 v3 v4, cs = [v0, v1, v2, v3, v4] := by
  match cs, h with
  | [v0, v1, v2, v3, v4], _ => exact ⟨v0, v1, v2, v3, v4, rfl⟩
theorem len7 {α : Type} {cs : List α} (h : cs.length = 7) : ∃ v0 v1 v2 v3 v4 v5 v6, cs = [v0, v1, v2, v3, v4, v5, v6] := by
  match cs, h with
  | [v0, v1, v2, v3, v4, v5, v6], _ => exact ⟨v0, v1, v2, v3, v4, v5, v6, rfl⟩
theorem fields3 {P : Program} {e : TypeId} {f0 f1 f2 : Field} {fuel : Nat} {cs : List Value} {x : DataW H × List MemPlace} (he : P.underlying e = some (.struct #[f0, f1, f2])) (hwt : Wt P e x.1) (h : DataW.trod enc P w base spare held fuel e cs = some x) :
    ∃ m, fuel = m + 1 ∧ cs.length = P.cellsOf e ∧ ∃ y0 y1 y2, (Wt P f0.type y0.1 ∧ Wt P f1.type y1.1 ∧ Wt P f2.type y2.1) ∧ DataW.trod enc P w base spare held m f0.type ((cs.drop f0.offset).take (P.cellsOf f0.type)) = some y0 ∧ DataW.trod enc P w base spare held m f1.type ((cs.drop f1.offset).take (P.cellsOf f1.type)) = some y1 ∧ DataW.trod enc P w base spare held m f2.type ((cs.drop f2.offset).take (P.cellsOf f2.type)) = some y2 := by
  obtain ⟨ys, n', hn', hy, hlen, hyl, hf⟩ := DataW.trod_struct he h
  subst hy
  have hw := fun i f d => wt_struct he hwt i f d
  have ysn : ys.length = 3 := hyl
  match ys, ysn with
  | [y0, y1, y2], _ => exact ⟨n', hn', hlen, y0, y1, y2, ⟨hw 0 _ _ rfl rfl, hw 1 _ _ rfl rfl, hw 2 _ _ rfl rfl⟩, hf 0 _ rfl, hf 1 _ rfl, hf 2 _ rfl⟩
theorem fields5 {P : Program} {e : TypeId} {f0 f1 f2 f3 f4 : Field} {fuel : Nat} {cs : List Value} {x : DataW H × List MemPlace} (he : P.underlying e = some (.struct #[f0, f1, f2, f3, f4])) (hwt : Wt P e x.1) (h : DataW.trod enc P w base spare held fuel e cs = some x) :
    ∃ m, fuel = m + 1 ∧ cs.length = P.cellsOf e ∧ ∃ y0 y1 y2 y3 y4, (Wt P f0.type y0.1 ∧ Wt P f1.type y1.1 ∧ Wt P f2.type y2.1 ∧ Wt P f3.type y3.1 ∧ Wt P f4.type y4.1) ∧ DataW.trod enc P w base spare held m f0.type ((cs.drop f0.offset).take (P.cellsOf f0.type)) = some y0 ∧ DataW.trod enc P w base spare held m f1.type ((cs.drop f1.offset).take (P.cellsOf f1.type)) = some y1 ∧ DataW.trod enc P w base spare held m f2.type ((cs.drop f2.offset).take (P.cellsOf f2.type)) = some y2 ∧ DataW.trod enc P w base spare held m f3.type ((cs.drop f3.offset).take (P.cellsOf f3.type)) = some y3 ∧ DataW.trod enc P w base spare held m f4.type ((cs.drop f4.offset).take (P.cellsOf f4.type)) = some y4 := by
  obtain ⟨ys, n', hn', hy, hlen, hyl, hf⟩ := DataW.trod_struct he h
  subst hy
  have hw := fun i f d => wt_struct he hwt i f d
  have ysn : ys.length = 5 := hyl
  match ys, ysn with
  | [y0, y1, y2, y3, y4], _ => exact ⟨n', hn', hlen, y0, y1, y2, y3, y4, ⟨hw 0 _ _ rfl rfl, hw 1 _ _ rfl rfl, hw 2 _ _ rfl rfl, hw 3 _ _ rfl rfl, hw 4 _ _ rfl rfl⟩, hf 0 _ rfl, hf 1 _ rfl, hf 2 _ rfl, hf 3 _ rfl, hf 4 _ rfl⟩
theorem fields7 {P : Program} {e : TypeId} {f0 f1 f2 f3 f4 f5 f6 : Field} {fuel : Nat} {cs : List Value} {x : DataW H × List MemPlace} (he : P.underlying e = some (.struct #[f0, f1, f2, f3, f4, f5, f6])) (hwt : Wt P e x.1) (h : DataW.trod enc P w base spare held fuel e cs = some x) :
    ∃ m, fuel = m + 1 ∧ cs.length = P.cellsOf e ∧ ∃ y0 y1 y2 y3 y4 y5 y6, (Wt P f0.type y0.1 ∧ Wt P f1.type y1.1 ∧ Wt P f2.type y2.1 ∧ Wt P f3.type y3.1 ∧ Wt P f4.type y4.1 ∧ Wt P f5.type y5.1 ∧ Wt P f6.type y6.1) ∧ DataW.trod enc P w base spare held m f0.type ((cs.drop f0.offset).take (P.cellsOf f0.type)) = some y0 ∧ DataW.trod enc P w base spare held m f1.type ((cs.drop f1.offset).take (P.cellsOf f1.type)) = some y1 ∧ DataW.trod enc P w base spare held m f2.type ((cs.drop f2.offset).take (P.cellsOf f2.type)) = some y2 ∧ DataW.trod enc P w base spare held m f3.type ((cs.drop f3.offset).take (P.cellsOf f3.type)) = some y3 ∧ DataW.trod enc P w base spare held m f4.type ((cs.drop f4.offset).take (P.cellsOf f4.type)) = some y4 ∧ DataW.trod enc P w base spare held m f5.type ((cs.drop f5.offset).take (P.cellsOf f5.type)) = some y5 ∧ DataW.trod enc P w base spare held m f6.type ((cs.drop f6.offset).take (P.cellsOf f6.type)) = some y6 := by
  obtain ⟨ys, n', hn', hy, hlen, hyl, hf⟩ := DataW.trod_struct he h
  subst hy
  have hw := fun i f d => wt_struct he hwt i f d
  have ysn : ys.length = 7 := hyl
  match ys, ysn with
  | [y0, y1, y2, y3, y4, y5, y6], _ => exact ⟨n', hn', hlen, y0, y1, y2, y3, y4, y5, y6, ⟨hw 0 _ _ rfl rfl, hw 1 _ _ rfl rfl, hw 2 _ _ rfl rfl, hw 3 _ _ rfl rfl, hw 4 _ _ rfl rfl, hw 5 _ _ rfl rfl, hw 6 _ _ rfl rfl⟩, hf 0 _ rfl, hf 1 _ rfl, hf 2 _ rfl, hf 3 _ rfl, hf 4 _ rfl, hf 5 _ rfl, hf 6 _ rfl⟩
theorem slice_cells {P : Program} {t e : TypeId} {m : Nat} {v : Value} {y : DataW H × List MemPlace} (ht : P.underlying t = some (.slice e)) (h : DataW.trod enc P w base spare held m t [v] = some y) : ∃ A n c, v = .slice A n c := by
  rcases DataW.trod_slice ht h with ⟨hcs, _⟩ | ⟨a, len, cap, elems, rest, m, hfu, hcs, _⟩
  · exact ⟨none, 0, 0, by simpa using hcs⟩
  · exact ⟨some a, len, cap, by simpa using hcs⟩
theorem open_struct {P : Program} {t : TypeId} {fs : Array Field} {r : Reach} {b0 : Nat} {v : Value} {d : DataW H} {p : List MemPlace} (hs : P.underlying t = some (.struct fs)) (hv : Value.okWide P w r b0 t v) (h : DataW.Trod enc P w base spare held t v d p) :
    ∃ (cs : List Value) (m : Nat), v = .agg cs.toArray ∧ DataW.trod enc P w base spare held m t cs = some (d, p) := by
  obtain ⟨cs, rfl, hsz⟩ := WideShapes.okWide_struct hs hv
  obtain ⟨m, hm⟩ := h
  exact ⟨cs.toList, m, by simp, hm⟩
end
end Go.Proofs.YtadjfkgnoklmiaaGreat
/- Values and attributes that come in. -/
namespace Go.Proofs.YtadjfkgnoklmiaaGreat
set_option linter.unusedVariables false
open Go.RowKit Go.ChangeShapes Go.WideShapes

instance : Inhabited Atr := ⟨zeroA⟩
section
variable {H : Type} {enc : TypeId × Value → H} {w : World} {base : Nat} {spare : Nat → Bool} {held : Bool}

theorem open_atr_cells {m : Nat} {cs : List Value} {y : DataW H × List MemPlace} (hwt : Wt Tryz.prog 38 y.1) (h : DataW.trod enc Tryz.prog w base spare held m 38 cs = some y) : ∃ a : Atr, cs = a.cells ∧ a.ok := by
  obtain ⟨m', _, hlen, y0, y1, y2, ⟨q0, q1, q2⟩, g0, g1, g2⟩ := fields3 Tryz.underlying38 hwt h
  obtain ⟨v0, v1, v2, rfl⟩ := len3 (hlen.trans (show Tryz.prog.cellsOf 38 = 3 by kernel_rfl))
  have g0 : DataW.trod enc Tryz.prog w base spare held m' 3 (([v0, v1, v2] : List Value).drop 0 |>.take (Tryz.prog.cellsOf 3)) = some y0 := g0
  rw [show Tryz.prog.cellsOf 3 = 1 by kernel_rfl] at g0
  have g1 : DataW.trod enc Tryz.prog w base spare held m' 9 (([v0, v1, v2] : List Value).drop 1 |>.take (Tryz.prog.cellsOf 9)) = some y1 := g1
  rw [show Tryz.prog.cellsOf 9 = 1 by kernel_rfl] at g1
  have g2 : DataW.trod enc Tryz.prog w base spare held m' 4 (([v0, v1, v2] : List Value).drop 2 |>.take (Tryz.prog.cellsOf 4)) = some y2 := g2
  rw [show Tryz.prog.cellsOf 4 = 1 by kernel_rfl] at g2
  obtain ⟨x0, e0, _, w0⟩ := DataW.trod_int Tryz.underlying3 (show DataW.trod enc Tryz.prog w base spare held m' 3 [v0] = some y0 from g0)
  obtain ⟨x1, e1, _, w1⟩ := DataW.trod_string Tryz.underlying9 (show DataW.trod enc Tryz.prog w base spare held m' 9 [v1] = some y1 from g1)
  obtain ⟨x2, e2, _⟩ := DataW.trod_bool Tryz.underlying4 (show DataW.trod enc Tryz.prog w base spare held m' 4 [v2] = some y2 from g2)
  injection e0 with e0
  injection e1 with e1
  injection e2 with e2
  subst e0 e1 e2
  exact ⟨⟨x0, x1, x2⟩, rfl, wf_bounds w0, w1⟩
theorem open_vl_cells {m : Nat} {cs : List Value} {y : DataW H × List MemPlace} (hwt : Wt Tryz.prog 40 y.1) (h : DataW.trod enc Tryz.prog w base spare held m 40 cs = some y) : ∃ a : Vl, cs = a.cells ∧ a.ok := by
  obtain ⟨m', _, hlen, y0, y1, y2, ⟨q0, q1, q2⟩, g0, g1, g2⟩ := fields3 Tryz.underlying40 hwt h
  obtain ⟨v0, v1, v2, rfl⟩ := len3 (hlen.trans (show Tryz.prog.cellsOf 40 = 3 by kernel_rfl))
  have g0 : DataW.trod enc Tryz.prog w base spare held m' 3 (([v0, v1, v2] : List Value).drop 0 |>.take (Tryz.prog.cellsOf 3)) = some y0 := g0
  rw [show Tryz.prog.cellsOf 3 = 1 by kernel_rfl] at g0
  have g1 : DataW.trod enc Tryz.prog w base spare held m' 3 (([v0, v1, v2] : List Value).drop 1 |>.take (Tryz.prog.cellsOf 3)) = some y1 := g1
  rw [show Tryz.prog.cellsOf 3 = 1 by kernel_rfl] at g1
  have g2 : DataW.trod enc Tryz.prog w base spare held m' 9 (([v0, v1, v2] : List Value).drop 2 |>.take (Tryz.prog.cellsOf 9)) = some y2 := g2
  rw [show Tryz.prog.cellsOf 9 = 1 by kernel_rfl] at g2
  obtain ⟨x0, e0, _, w0⟩ := DataW.trod_int Tryz.underlying3 (show DataW.trod enc Tryz.prog w base spare held m' 3 [v0] = some y0 from g0)
  obtain ⟨x1, e1, _, w1⟩ := DataW.trod_int Tryz.underlying3 (show DataW.trod enc Tryz.prog w base spare held m' 3 [v1] = some y1 from g1)
  obtain ⟨x2, e2, _, w2⟩ := DataW.trod_string Tryz.underlying9 (show DataW.trod enc Tryz.prog w base spare held m' 9 [v2] = some y2 from g2)
  injection e0 with e0
  injection e1 with e1
  injection e2 with e2
  subst e0 e1 e2
  exact ⟨⟨x0, x1, x2⟩, rfl, wf_bounds w0, wf_bounds w1, w2⟩
end
end Go.Proofs.YtadjfkgnoklmiaaGreat
/- Policies, and what they are of, that come in. -/
namespace Go.Proofs.YtadjfkgnoklmiaaGreat
set_option linter.unusedVariables false
open Go.RowKit Go.ChangeShapes Go.WideShapes

instance : Inhabited Mat := ⟨⟨zeroA, 0, zeroV⟩⟩
instance : Inhabited Nod := ⟨⟨0, zeroV, zeroA⟩⟩
instance : Inhabited Dut := ⟨⟨0, 0, ByteArray.empty⟩⟩
instance : Inhabited Rul := ⟨⟨ByteArray.empty, false, [], [], []⟩⟩
instance : Inhabited Pol := ⟨.mk ByteArray.empty false 0 [] [] [] []⟩

section
variable {H : Type} {enc : TypeId × Value → H} {w : World} {base : Nat} {spare : Nat → Bool} {held : Bool}

theorem bytes_dut : Tryz.prog.bytesOf 80 = 32 := by kernel_rfl
theorem bytes_nod : Tryz.prog.bytesOf 72 = 72 := by kernel_rfl
theorem bytes_mat : Tryz.prog.bytesOf 42 = 72 := by kernel_rfl
theorem bytes_s1 : Tryz.prog.bytesOf 55 = 24 := by kernel_rfl
theorem bytes_s2 : Tryz.prog.bytesOf 56 = 24 := by kernel_rfl
theorem bytes_rul : Tryz.prog.bytesOf 58 = 96 := by kernel_rfl
theorem bytes_pol : Tryz.prog.bytesOf 28 = 128 := by kernel_rfl
theorem open_dut_cells {m : Nat} {cs : List Value} {y : DataW H × List MemPlace} (hwt : Wt Tryz.prog 80 y.1) (h : DataW.trod enc Tryz.prog w base spare held m 80 cs = some y) : ∃ a : Dut, cs = a.cells ∧ a.ok := by
  obtain ⟨m', _, hlen, y0, y1, y2, ⟨q0, q1, q2⟩, g0, g1, g2⟩ := fields3 Tryz.underlying80 hwt h
  obtain ⟨v0, v1, v2, rfl⟩ := len3 (hlen.trans (show Tryz.prog.cellsOf 80 = 3 by kernel_rfl))
  have g0 : DataW.trod enc Tryz.prog w base spare held m' 3 (([v0, v1, v2] : List Value).drop 0 |>.take (Tryz.prog.cellsOf 3)) = some y0 := g0
  rw [show Tryz.prog.cellsOf 3 = 1 by kernel_rfl] at g0
  have g1 : DataW.trod enc Tryz.prog w base spare held m' 3 (([v0, v1, v2] : List Value).drop 1 |>.take (Tryz.prog.cellsOf 3)) = some y1 := g1
  rw [show Tryz.prog.cellsOf 3 = 1 by kernel_rfl] at g1
  have g2 : DataW.trod enc Tryz.prog w base spare held m' 9 (([v0, v1, v2] : List Value).drop 2 |>.take (Tryz.prog.cellsOf 9)) = some y2 := g2
  rw [show Tryz.prog.cellsOf 9 = 1 by kernel_rfl] at g2
  obtain ⟨x0, e0, _, w0⟩ := DataW.trod_int Tryz.underlying3 (show DataW.trod enc Tryz.prog w base spare held m' 3 [v0] = some y0 from g0)
  obtain ⟨x1, e1, _, w1⟩ := DataW.trod_int Tryz.underlying3 (show DataW.trod enc Tryz.prog w base spare held m' 3 [v1] = some y1 from g1)
  obtain ⟨x2, e2, _, w2⟩ := DataW.trod_string Tryz.underlying9 (show DataW.trod enc Tryz.prog w base spare held m' 9 [v2] = some y2 from g2)
  injection e0 with e0
  injection e1 with e1
  injection e2 with e2
  subst e0 e1 e2
  exact ⟨⟨x0, x1, x2⟩, rfl, wf_bounds w0, wf_bounds w1, w2⟩
theorem open_mat_cells {m : Nat} {cs : List Value} {y : DataW H × List MemPlace} (hwt : Wt Tryz.prog 42 y.1) (h : DataW.trod enc Tryz.prog w base spare held m 42 cs = some y) : ∃ a : Mat, cs = a.cells ∧ a.ok := by
  obtain ⟨m', _, hlen, y0, y1, y2, ⟨q0, q1, q2⟩, g0, g1, g2⟩ := fields3 Tryz.underlying42 hwt h
  obtain ⟨v0, v1, v2, v3, v4, v5, v6, rfl⟩ := len7 (hlen.trans (show Tryz.prog.cellsOf 42 = 7 by kernel_rfl))
  have g0 : DataW.trod enc Tryz.prog w base spare held m' 38 (([v0, v1, v2, v3, v4, v5, v6] : List Value).drop 0 |>.take (Tryz.prog.cellsOf 38)) = some y0 := g0
  rw [show Tryz.prog.cellsOf 38 = 3 by kernel_rfl] at g0
  obtain ⟨x0, e0, w0⟩ := open_atr_cells q0 (show DataW.trod enc Tryz.prog w base spare held m' 38 [v0, v1, v2] = some y0 from g0)
  simp [Atr.cells] at e0
  have g1 : DataW.trod enc Tryz.prog w base spare held m' 3 (([v0, v1, v2, v3, v4, v5, v6] : List Value).drop 3 |>.take (Tryz.prog.cellsOf 3)) = some y1 := g1
  rw [show Tryz.prog.cellsOf 3 = 1 by kernel_rfl] at g1
  obtain ⟨x1, e1, _, w1⟩ := DataW.trod_int Tryz.underlying3 (show DataW.trod enc Tryz.prog w base spare held m' 3 [v3] = some y1 from g1)
  injection e1 with e1
  have g2 : DataW.trod enc Tryz.prog w base spare held m' 40 (([v0, v1, v2, v3, v4, v5, v6] : List Value).drop 4 |>.take (Tryz.prog.cellsOf 40)) = some y2 := g2
  rw [show Tryz.prog.cellsOf 40 = 3 by kernel_rfl] at g2
  obtain ⟨x2, e2, w2⟩ := open_vl_cells q2 (show DataW.trod enc Tryz.prog w base spare held m' 40 [v4, v5, v6] = some y2 from g2)
  simp [Vl.cells] at e2
  obtain ⟨rfl, rfl, rfl⟩ := e0
  subst e1
  obtain ⟨rfl, rfl, rfl⟩ := e2
  exact ⟨⟨x0, x1, x2⟩, rfl, w0, wf_bounds w1, w2⟩
theorem open_nod_cells {m : Nat} {cs : List Value} {y : DataW H × List MemPlace} (hwt : Wt Tryz.prog 72 y.1) (h : DataW.trod enc Tryz.prog w base spare held m 72 cs = some y) : ∃ a : Nod, cs = a.cells ∧ a.ok := by
  obtain ⟨m', _, hlen, y0, y1, y2, ⟨q0, q1, q2⟩, g0, g1, g2⟩ := fields3 Tryz.underlying72 hwt h
  obtain ⟨v0, v1, v2, v3, v4, v5, v6, rfl⟩ := len7 (hlen.trans (show Tryz.prog.cellsOf 72 = 7 by kernel_rfl))
  have g0 : DataW.trod enc Tryz.prog w base spare held m' 3 (([v0, v1, v2, v3, v4, v5, v6] : List Value).drop 0 |>.take (Tryz.prog.cellsOf 3)) = some y0 := g0
  rw [show Tryz.prog.cellsOf 3 = 1 by kernel_rfl] at g0
  obtain ⟨x0, e0, _, w0⟩ := DataW.trod_int Tryz.underlying3 (show DataW.trod enc Tryz.prog w base spare held m' 3 [v0] = some y0 from g0)
  injection e0 with e0
  have g1 : DataW.trod enc Tryz.prog w base spare held m' 40 (([v0, v1, v2, v3, v4, v5, v6] : List Value).drop 1 |>.take (Tryz.prog.cellsOf 40)) = some y1 := g1
  rw [show Tryz.prog.cellsOf 40 = 3 by kernel_rfl] at g1
  obtain ⟨x1, e1, w1⟩ := open_vl_cells q1 (show DataW.trod enc Tryz.prog w base spare held m' 40 [v1, v2, v3] = some y1 from g1)
  simp [Vl.cells] at e1
  have g2 : DataW.trod enc Tryz.prog w base spare held m' 38 (([v0, v1, v2, v3, v4, v5, v6] : List Value).drop 4 |>.take (Tryz.prog.cellsOf 38)) = some y2 := g2
  rw [show Tryz.prog.cellsOf 38 = 3 by kernel_rfl] at g2
  obtain ⟨x2, e2, w2⟩ := open_atr_cells q2 (show DataW.trod enc Tryz.prog w base spare held m' 38 [v4, v5, v6] = some y2 from g2)
  simp [Atr.cells] at e2
  subst e0
  obtain ⟨rfl, rfl, rfl⟩ := e1
  obtain ⟨rfl, rfl, rfl⟩ := e2
  exact ⟨⟨x0, x1, x2⟩, rfl, wf_bounds w0, w1, w2⟩

theorem open_duts_f {m n c : Nat} {A : Option Addr} {x : DataW H × List MemPlace} (hwt : Wt Tryz.prog 26 x.1) (h : DataW.trod enc Tryz.prog w base spare held m 26 [.slice A n c] = some x) : ∃ l, Dus w (fun _ => True) A n c l :=
  open_rows Tryz.underlying26 (by kernel_rfl) (by omega) (by rw [bytes_dut]; omega) (fun m cs y _ _ q h => open_dut_cells q h) hwt h
theorem open_nods_f {m n c : Nat} {A : Option Addr} {x : DataW H × List MemPlace} (hwt : Wt Tryz.prog 43 x.1) (h : DataW.trod enc Tryz.prog w base spare held m 43 [.slice A n c] = some x) : ∃ l, Nds w (fun _ => True) A n c l :=
  open_rows Tryz.underlying43 (by kernel_rfl) (by omega) (by rw [bytes_nod]; omega) (fun m cs y _ _ q h => open_nod_cells q h) hwt h
theorem open_mats_f {m n c : Nat} {A : Option Addr} {x : DataW H × List MemPlace} (hwt : Wt Tryz.prog 55 x.1) (h : DataW.trod enc Tryz.prog w base spare held m 55 [.slice A n c] = some x) : ∃ l, Ms w (fun _ => True) A n c l :=
  open_rows Tryz.underlying55 (by kernel_rfl) (by omega) (by rw [bytes_mat]; omega) (fun m cs y _ _ q h => open_mat_cells q h) hwt h
theorem open_alls_f {m n c : Nat} {A : Option Addr} {x : DataW H × List MemPlace} (hwt : Wt Tryz.prog 56 x.1) (h : DataW.trod enc Tryz.prog w base spare held m 56 [.slice A n c] = some x) : ∃ l, Als w (fun _ => True) A n c l :=
  open_rows Tryz.underlying56 (by kernel_rfl) (by omega) (by rw [bytes_s1]; omega) (fun m cs y _ hl q h => by
    match cs, hl with
    | [v], _ =>
      obtain ⟨A', n', c', rfl⟩ := slice_cells Tryz.underlying55 h
      obtain ⟨l, hl⟩ := open_mats_f q h
      exact ⟨l, A', n', c', rfl, hl⟩) hwt h
theorem open_anys_f {m n c : Nat} {A : Option Addr} {x : DataW H × List MemPlace} (hwt : Wt Tryz.prog 23 x.1) (h : DataW.trod enc Tryz.prog w base spare held m 23 [.slice A n c] = some x) : ∃ l, Tg w (fun _ => True) A n c l :=
  open_rows Tryz.underlying23 (by kernel_rfl) (by omega) (by rw [bytes_s2]; omega) (fun m cs y _ hl q h => by
    match cs, hl with
    | [v], _ =>
      obtain ⟨A', n', c', rfl⟩ := slice_cells Tryz.underlying56 h
      obtain ⟨l, hl⟩ := open_alls_f q h
      exact ⟨l, A', n', c', rfl, hl⟩) hwt h
theorem open_rul_cells {m : Nat} {cs : List Value} {y : DataW H × List MemPlace} (hwt : Wt Tryz.prog 58 y.1) (h : DataW.trod enc Tryz.prog w base spare held m 58 cs = some y) : ∃ r : Rul, RulAt w (fun _ => True) cs r := by
  obtain ⟨m', _, hlen, y0, y1, y2, y3, y4, ⟨q0, q1, q2, q3, q4⟩, g0, g1, g2, g3, g4⟩ := fields5 Tryz.underlying58 hwt h
  obtain ⟨v0, v1, v2, v3, v4, rfl⟩ := len5 (hlen.trans (show Tryz.prog.cellsOf 58 = 5 by kernel_rfl))
  have g0 : DataW.trod enc Tryz.prog w base spare held m' 9 (([v0, v1, v2, v3, v4] : List Value).drop 0 |>.take (Tryz.prog.cellsOf 9)) = some y0 := g0
  have g1 : DataW.trod enc Tryz.prog w base spare held m' 4 (([v0, v1, v2, v3, v4] : List Value).drop 1 |>.take (Tryz.prog.cellsOf 4)) = some y1 := g1
  have g2 : DataW.trod enc Tryz.prog w base spare held m' 23 (([v0, v1, v2, v3, v4] : List Value).drop 2 |>.take (Tryz.prog.cellsOf 23)) = some y2 := g2
  have g3 : DataW.trod enc Tryz.prog w base spare held m' 43 (([v0, v1, v2, v3, v4] : List Value).drop 3 |>.take (Tryz.prog.cellsOf 43)) = some y3 := g3
  have g4 : DataW.trod enc Tryz.prog w base spare held m' 26 (([v0, v1, v2, v3, v4] : List Value).drop 4 |>.take (Tryz.prog.cellsOf 26)) = some y4 := g4
  rw [show Tryz.prog.cellsOf 9 = 1 by kernel_rfl] at g0
  rw [show Tryz.prog.cellsOf 4 = 1 by kernel_rfl] at g1
  rw [show Tryz.prog.cellsOf 23 = 1 by kernel_rfl] at g2
  rw [show Tryz.prog.cellsOf 43 = 1 by kernel_rfl] at g3
  rw [show Tryz.prog.cellsOf 26 = 1 by kernel_rfl] at g4
  have g2 : DataW.trod enc Tryz.prog w base spare held m' 23 [v2] = some y2 := g2
  have g3 : DataW.trod enc Tryz.prog w base spare held m' 43 [v3] = some y3 := g3
  have g4 : DataW.trod enc Tryz.prog w base spare held m' 26 [v4] = some y4 := g4
  obtain ⟨x0, e0, _, w0⟩ := DataW.trod_string Tryz.underlying9 (show DataW.trod enc Tryz.prog w base spare held m' 9 [v0] = some y0 from g0)
  obtain ⟨x1, e1, _⟩ := DataW.trod_bool Tryz.underlying4 (show DataW.trod enc Tryz.prog w base spare held m' 4 [v1] = some y1 from g1)
  injection e0 with e0
  injection e1 with e1
  subst e0 e1
  obtain ⟨A2, n2, c2, rfl⟩ := slice_cells Tryz.underlying23 g2
  obtain ⟨A3, n3, c3, rfl⟩ := slice_cells Tryz.underlying43 g3
  obtain ⟨A4, n4, c4, rfl⟩ := slice_cells Tryz.underlying26 g4
  obtain ⟨l2, h2⟩ := open_anys_f q2 g2
  obtain ⟨l3, h3⟩ := open_nods_f q3 g3
  obtain ⟨l4, h4⟩ := open_duts_f q4 g4
  exact ⟨⟨x0, x1, l2, l3, l4⟩, A2, n2, c2, A3, n3, c3, A4, n4, c4, rfl, w0, h2, h3, h4⟩
theorem open_ruls_f {m n c : Nat} {A : Option Addr} {x : DataW H × List MemPlace} (hwt : Wt Tryz.prog 24 x.1) (h : DataW.trod enc Tryz.prog w base spare held m 24 [.slice A n c] = some x) : ∃ l, Rus w (fun _ => True) A n c l :=
  open_rows Tryz.underlying24 (by kernel_rfl) (by omega) (by rw [bytes_rul]; omega) (fun m cs y _ _ q h => open_rul_cells q h) hwt h
theorem open_pol_cells : ∀ {m : Nat} {cs : List Value} {y : DataW H × List MemPlace}, Wt Tryz.prog 28 y.1 → DataW.trod enc Tryz.prog w base spare held m 28 cs = some y → ∃ p : Pol, PolAt w (fun _ => True) m cs p := by
  intro m
  induction m using Nat.strongRecOn with
  | ind m ih =>
  intro cs y hwt h
  obtain ⟨m', hm, hlen, y0, y1, y2, y3, y4, y5, y6, ⟨q0, q1, q2, q3, q4, q5, q6⟩, g0, g1, g2, g3, g4, g5, g6⟩ := fields7 Tryz.underlying28 hwt h
  obtain ⟨v0, v1, v2, v3, v4, v5, v6, rfl⟩ := len7 (hlen.trans (show Tryz.prog.cellsOf 28 = 7 by kernel_rfl))
  have g0 : DataW.trod enc Tryz.prog w base spare held m' 9 (([v0, v1, v2, v3, v4, v5, v6] : List Value).drop 0 |>.take (Tryz.prog.cellsOf 9)) = some y0 := g0
  rw [show Tryz.prog.cellsOf 9 = 1 by kernel_rfl] at g0
  have g0 : DataW.trod enc Tryz.prog w base spare held m' 9 [v0] = some y0 := g0
  have g1 : DataW.trod enc Tryz.prog w base spare held m' 4 (([v0, v1, v2, v3, v4, v5, v6] : List Value).drop 1 |>.take (Tryz.prog.cellsOf 4)) = some y1 := g1
  rw [show Tryz.prog.cellsOf 4 = 1 by kernel_rfl] at g1
  have g1 : DataW.trod enc Tryz.prog w base spare held m' 4 [v1] = some y1 := g1
  have g2 : DataW.trod enc Tryz.prog w base spare held m' 3 (([v0, v1, v2, v3, v4, v5, v6] : List Value).drop 2 |>.take (Tryz.prog.cellsOf 3)) = some y2 := g2
  rw [show Tryz.prog.cellsOf 3 = 1 by kernel_rfl] at g2
  have g2 : DataW.trod enc Tryz.prog w base spare held m' 3 [v2] = some y2 := g2
  have g3 : DataW.trod enc Tryz.prog w base spare held m' 23 (([v0, v1, v2, v3, v4, v5, v6] : List Value).drop 3 |>.take (Tryz.prog.cellsOf 23)) = some y3 := g3
  rw [show Tryz.prog.cellsOf 23 = 1 by kernel_rfl] at g3
  have g3 : DataW.trod enc Tryz.prog w base spare held m' 23 [v3] = some y3 := g3
  have g4 : DataW.trod enc Tryz.prog w base spare held m' 24 (([v0, v1, v2, v3, v4, v5, v6] : List Value).drop 4 |>.take (Tryz.prog.cellsOf 24)) = some y4 := g4
  rw [show Tryz.prog.cellsOf 24 = 1 by kernel_rfl] at g4
  have g4 : DataW.trod enc Tryz.prog w base spare held m' 24 [v4] = some y4 := g4
  have g5 : DataW.trod enc Tryz.prog w base spare held m' 25 (([v0, v1, v2, v3, v4, v5, v6] : List Value).drop 5 |>.take (Tryz.prog.cellsOf 25)) = some y5 := g5
  rw [show Tryz.prog.cellsOf 25 = 1 by kernel_rfl] at g5
  have g5 : DataW.trod enc Tryz.prog w base spare held m' 25 [v5] = some y5 := g5
  have g6 : DataW.trod enc Tryz.prog w base spare held m' 26 (([v0, v1, v2, v3, v4, v5, v6] : List Value).drop 6 |>.take (Tryz.prog.cellsOf 26)) = some y6 := g6
  rw [show Tryz.prog.cellsOf 26 = 1 by kernel_rfl] at g6
  have g6 : DataW.trod enc Tryz.prog w base spare held m' 26 [v6] = some y6 := g6
  obtain ⟨x0, e0, _, w0⟩ := DataW.trod_string Tryz.underlying9 g0
  obtain ⟨x1, e1, _⟩ := DataW.trod_bool Tryz.underlying4 g1
  obtain ⟨x2, e2, _, w2⟩ := DataW.trod_int Tryz.underlying3 g2
  injection e0 with e0
  injection e1 with e1
  injection e2 with e2
  subst e0 e1 e2
  obtain ⟨A3, n3, c3, rfl⟩ := slice_cells Tryz.underlying23 g3
  obtain ⟨A4, n4, c4, rfl⟩ := slice_cells Tryz.underlying24 g4
  obtain ⟨A5, n5, c5, rfl⟩ := slice_cells Tryz.underlying25 g5
  obtain ⟨A6, n6, c6, rfl⟩ := slice_cells Tryz.underlying26 g6
  obtain ⟨l3, h3⟩ := open_anys_f q3 g3
  obtain ⟨l4, h4⟩ := open_ruls_f q4 g4
  obtain ⟨l6, h6⟩ := open_duts_f q6 g6
  have hk : ∃ l, Rw 7 (PolAt w (fun _ => True) m') w (fun _ => True) A5 n5 c5 l :=
    open_rows Tryz.underlying25 (by kernel_rfl) (by omega) (by rw [bytes_pol]; omega) (fun q cs y hq _ hw h => by
      obtain ⟨p, hp⟩ := ih q (by omega) hw h
      exact ⟨p, PolAt.more (by omega) hp⟩) q5 g5
  obtain ⟨l5, h5⟩ := hk
  subst hm
  exact ⟨.mk x0 x1 x2 l3 l4 l5 l6, A3, n3, c3, A4, n4, c4, A5, n5, c5, A6, n6, c6, rfl, w0, wf_bounds w2, h3, h4, h5, h6⟩

theorem open_nods {n c : Nat} {A : Option Addr} {d : DataW H} {p : List MemPlace} (hwt : Wt Tryz.prog 43 d) (h : DataW.Trod enc Tryz.prog w base spare held 43 (.slice A n c) d p) : ∃ l, Nds w (fun _ => True) A n c l := by
  obtain ⟨m, hm⟩ := h
  exact open_nods_f hwt hm
set_option maxRecDepth 100000 in
theorem open_pol {r : Reach} {b0 : Nat} {v : Value} {d : DataW H} {p : List MemPlace} (hv : Value.okWide Tryz.prog w r b0 28 v) (hwt : Wt Tryz.prog 28 d) (h : DataW.Trod enc Tryz.prog w base spare held 28 v d p) :
    ∃ (P : Pol) (A1 : Option Addr) (n1 k1 : Nat) (A2 : Option Addr) (n2 k2 : Nat) (A3 : Option Addr) (n3 k3 : Nat) (A4 : Option Addr) (n4 k4 : Nat), v = .agg #[.string P.id, .bool P.set, .int .i64 P.alg, .slice A1 n1 k1, .slice A2 n2 k2, .slice A3 n3 k3, .slice A4 n4 k4] ∧ PolIn w (fun _ => True) P A1 n1 k1 A2 n2 k2 A3 n3 k3 A4 n4 k4 := by
  obtain ⟨cs, m, rfl, hm⟩ := open_struct Tryz.underlying28 hv h
  obtain ⟨P, hP⟩ := open_pol_cells hwt hm
  clear hm hv h
  match m, hP with
  | d + 1, ⟨A1, n1, k1, A2, n2, k2, A3, n3, k3, A4, n4, k4, e, h0, h00, h1, h2, h3, h4⟩ =>
    exact ⟨P, A1, n1, k1, A2, n2, k2, A3, n3, k3, A4, n4, k4, congrArg (fun x : List Value => Value.agg x.toArray) e, ⟨h0, h00⟩, h1, h2, ⟨d, h3⟩, h4⟩
end
end Go.Proofs.YtadjfkgnoklmiaaGreat
/- Requests that come in. -/
namespace Go.Proofs.YtadjfkgnoklmiaaGreat
set_option linter.unusedVariables false
open Go.RowKit Go.ChangeShapes Go.WideShapes

instance : Inhabited Vl := ⟨⟨0, 0, ByteArray.empty⟩⟩
section
variable {H : Type} {enc : TypeId × Value → H} {w : World} {base : Nat} {spare : Nat → Bool} {held : Bool}
theorem bytes_val : Tryz.prog.bytesOf 40 = 32 := by kernel_rfl
theorem bytes_giv : Tryz.prog.bytesOf 68 = 48 := by kernel_rfl
theorem open_vls_f {m n c : Nat} {A : Option Addr} {x : DataW H × List MemPlace} (hwt : Wt Tryz.prog 66 x.1) (h : DataW.trod enc Tryz.prog w base spare held m 66 [.slice A n c] = some x) : ∃ l, Vls w (fun _ => True) A n c l :=
  open_rows Tryz.underlying66 (by kernel_rfl) (by omega) (by rw [bytes_val]; omega) (fun m cs y _ _ q h => open_vl_cells q h) hwt h
theorem open_giv_cells {m : Nat} {cs : List Value} {y : DataW H × List MemPlace} (hwt : Wt Tryz.prog 68 y.1) (h : DataW.trod enc Tryz.prog w base spare held m 68 cs = some y) : ∃ g : Giv, GivAt w (fun _ => True) cs g := by
  obtain ⟨m', _, hlen, y0, y1, y2, ⟨q0, q1, q2⟩, g0, g1, g2⟩ := fields3 Tryz.underlying68 hwt h
  obtain ⟨v0, v1, v2, rfl⟩ := len3 (hlen.trans (show Tryz.prog.cellsOf 68 = 3 by kernel_rfl))
  have g0 : DataW.trod enc Tryz.prog w base spare held m' 3 (([v0, v1, v2] : List Value).drop 0 |>.take (Tryz.prog.cellsOf 3)) = some y0 := g0
  rw [show Tryz.prog.cellsOf 3 = 1 by kernel_rfl] at g0
  have g1 : DataW.trod enc Tryz.prog w base spare held m' 9 (([v0, v1, v2] : List Value).drop 1 |>.take (Tryz.prog.cellsOf 9)) = some y1 := g1
  rw [show Tryz.prog.cellsOf 9 = 1 by kernel_rfl] at g1
  have g2 : DataW.trod enc Tryz.prog w base spare held m' 66 (([v0, v1, v2] : List Value).drop 2 |>.take (Tryz.prog.cellsOf 66)) = some y2 := g2
  rw [show Tryz.prog.cellsOf 66 = 1 by kernel_rfl] at g2
  obtain ⟨x0, e0, _, w0⟩ := DataW.trod_int Tryz.underlying3 (show DataW.trod enc Tryz.prog w base spare held m' 3 [v0] = some y0 from g0)
  obtain ⟨x1, e1, _, w1⟩ := DataW.trod_string Tryz.underlying9 (show DataW.trod enc Tryz.prog w base spare held m' 9 [v1] = some y1 from g1)
  injection e0 with e0
  injection e1 with e1
  subst e0 e1
  have g2 : DataW.trod enc Tryz.prog w base spare held m' 66 [v2] = some y2 := g2
  obtain ⟨A2, n2, c2, rfl⟩ := slice_cells Tryz.underlying66 g2
  obtain ⟨l2, h2⟩ := open_vls_f q2 g2
  exact ⟨⟨x0, x1, l2⟩, A2, n2, c2, rfl, ⟨wf_bounds w0, w1⟩, h2⟩
theorem open_givs_f {m n c : Nat} {A : Option Addr} {x : DataW H × List MemPlace} (hwt : Wt Tryz.prog 29 x.1) (h : DataW.trod enc Tryz.prog w base spare held m 29 [.slice A n c] = some x) : ∃ l, Gvs w (fun _ => True) A n c l :=
  open_rows Tryz.underlying29 (by kernel_rfl) (by omega) (by rw [bytes_giv]; omega) (fun m cs y _ _ q h => open_giv_cells q h) hwt h
theorem open_givs {n c : Nat} {A : Option Addr} {d : DataW H} {p : List MemPlace} (hwt : Wt Tryz.prog 29 d) (h : DataW.Trod enc Tryz.prog w base spare held 29 (.slice A n c) d p) : ∃ l, Gvs w (fun _ => True) A n c l := by
  obtain ⟨m, hm⟩ := h
  exact open_givs_f hwt hm
end
end Go.Proofs.YtadjfkgnoklmiaaGreat
/- A match that comes in. -/
namespace Go.Proofs.YtadjfkgnoklmiaaGreat
set_option linter.unusedVariables false
open Go.RowKit Go.ChangeShapes Go.WideShapes

section
variable {H : Type} {enc : TypeId × Value → H} {w : World} {base : Nat} {spare : Nat → Bool} {held : Bool}
set_option maxRecDepth 100000 in
theorem open_mat {r : Reach} {b0 : Nat} {v : Value} {d : DataW H} {p : List MemPlace} (hv : Value.okWide Tryz.prog w r b0 42 v) (hwt : Wt Tryz.prog 42 d) (h : DataW.Trod enc Tryz.prog w base spare held 42 v d p) : ∃ a : Mat, v = a.val ∧ a.ok := by
  obtain ⟨cs, m, rfl, hm⟩ := open_struct Tryz.underlying42 hv h
  obtain ⟨a, rfl, hok⟩ := open_mat_cells hwt hm
  exact ⟨a, rfl, hok⟩
end
end Go.Proofs.YtadjfkgnoklmiaaGreat
