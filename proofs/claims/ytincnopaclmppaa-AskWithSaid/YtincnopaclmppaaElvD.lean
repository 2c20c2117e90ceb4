/- Several texts in one: AskFew, AskAsks, HTail, AskApart, AskPut, AskWithA, AskShort, VSame, AskSame, Within, Open, OpenRows, OpenAtr, OpenAsk. -/
import Derived.Test.YtincnopaclmppaaElvC
import Derived.StillTail
import Derived.OrdersHeld
import Derived.RegionTactic
import Derived.Test.YtincnopaclmppaaElvA
import Derived.Deep.CutRange
import Derived.Lib.QuietBelow
import Derived.OpenShut
import Derived.ChangeSlices
import Derived.Deep.Slices
import Derived.Deep.Fields
import Derived.Lib.SmallJoins
import Derived.ProofKit
import Derived.SizedLaws
/- bailiffkeep.Few: may a request be gone through in a while? -/
namespace Go.Proofs.Ytincnopaclmppaa
set_option linter.unusedVariables false
open Go.RowKit

def valC (v : Vl) : Nat := textC v.s
def givC (g : Giv) : Nat := textC g.name + g.bag.length + sumC valC g.bag
def fewC (l : List Giv) : Nat := 2 * l.length + sumC givC l
theorem few_each {l : List Giv} (h : fewC l ≤ 1200) {g : Giv} (hg : g ∈ l) : g.name.size ≤ 9600 ∧ g.bag.length ≤ 1200 ∧ ∀ v ∈ g.bag, v.s.size ≤ 9600 := by
  have h1 := sumC_mem (f := givC) hg
  unfold fewC at h
  have e : givC g = textC g.name + g.bag.length + sumC valC g.bag := rfl
  have e2 : textC g.name = 1 + g.name.size / 8 := rfl
  refine ⟨by omega, by omega, fun v hv => ?_⟩
  have h2 := sumC_mem (f := valC) hv
  have e3 : valC v = 1 + v.s.size / 8 := rfl
  omega
theorem few_len {l : List Giv} (h : fewC l ≤ 1200) : l.length ≤ 600 := by unfold fewC at h; omega

set_option maxHeartbeats 1600000 in
theorem few_any {w : World} {R : Nat → Prop} {A : Option Addr} {n c : Nat} {l : List Giv} (h0 : Gvs w R A n c l) :
    Calls Try.prog 16 #[.slice A n c] w fun e w' => e = .returned (.bool (decide (fewC l ≤ 1200))) ∧ Below w.heap.size w w' := by
  have hb0 : Below w.heap.size w (w.alloc (.cells #[.int .i64 1200] 81)) := (Below.refl _ _).alloc (Nat.le_refl _) _
  have h : Gvs (w.alloc (.cells #[.int .i64 1200] 81)) (fun b => b < w.heap.size) A n c l := h0.keep (Kept.all hb0 R) (fun b _ hb => hb)
  have hl : Lf (w.alloc (.cells #[.int .i64 1200] 81)) w.heap.size 1200 := Ob.made w _ _
  have hR : ∀ b, b < w.heap.size → b ≠ w.heap.size := fun b hb => by omega
  have hle := Rw.le h
  have hcap := Rw.cap h
  have hbig := Rw.big h
  have HL := Lib.hid (Rw.len h)
  have HT := Lib.hid (takes_any (n := 2 * n) hl (by omega) (by unfold maxLen; omega))
  unfold Taking at HT
  rw [show ((2 * n : Nat) : Int) = 2 * (n : Int) by omega] at HT
  have H := Lib.hid h
  have HR := Lib.hid hR
  have HB0 := Lib.hid hb0
  have HC : Hid (fewC l = 2 * n + sumC givC l) := by show fewC l = _; unfold fewC; rw [HL.out]
  unfold maxLen at hcap
  generalize hcc : fewC l = cc at *
  have HG : Hid (∀ W, Only w.heap.size (w.alloc (.cells #[.int .i64 1200] 81)) W → Below w.heap.size w W) := Lib.hid (fun W hW => hb0.trans (hW.below (by simp) (Nat.le_refl _)))
  clear hcc h hl hR hb0 h0
  generalize hg : w.heap.size = g at *
  by_cases h1 : 2 * n ≤ 1200
  · rw [decide_eq_true h1] at HT
    have H1 := Lib.hid h1
    clear h1
    go_enter Try.func16, Try.ntmps16
    go_wp2_with (go_at_call 34; refine HT.out.mono ?_; rintro e w1 ⟨rfl, hb, hw⟩; have B1 := Lib.hid hb; have W1 := Lib.hid (hw H1.out); clear hb hw)
    go_loopw [18] (fun i wr => ∃ k mk : Nat, k ≤ n ∧ i = .int .i64 k ∧ sumC givC (l.take k) + mk = 1200 - 2 * n ∧ Lf wr g mk ∧ Only g (w.alloc (.cells #[.int .i64 1200] 81)) wr) (fun i _ => n - (intOf i).toNat)
    case atStart => exact ⟨0, 1200 - 2 * n, Nat.zero_le _, rfl, by rw [sumC_zero]; omega, W1.out, B1.out⟩
    case round =>
      obtain ⟨wo, hwo⟩ : ∃ wo, wo = wr := ⟨wr, rfl⟩
      subst hwo
      obtain ⟨k, mk, hk, rfl, hs, hlf, hb⟩ := hrel
      have HS := Lib.hid hs
      have HB := Lib.hid hb
      have HF := Lib.hid hlf
      clear hs hb hlf
      by_cases hlt : k < n
      · obtain ⟨b, o, x, A', n', c', rfl, hRb, hbl, hx, hok, ⟨c0, c1, c2⟩, hin⟩ := (H.out.keep (HB.out.kept HR.out) (fun _ h _ => h)).at_ hlt
        have HX := Lib.hid hx
        have hle' := Rw.le hin
        have hcap' := Rw.cap hin
        have hbig' := Rw.big hin
        have HL' := Lib.hid (Rw.len hin)
        have HIN := Lib.hid hin
        have HSX := Lib.hid (sumC_le (f := givC) hx)
        have HEX : Hid (givC x = textC x.name + n' + sumC valC x.bag) := by show givC x = _; unfold givC; rw [HL'.out]
        have HXT := Lib.hid (ktext_any x.name (HF.out.alloc (.cells #[.int .i64 x.cat, .string x.name, .slice A' n' c'] 49)) (by have := HS.out; omega) hok.2)
        unfold Taking at HXT
        have hne : wo.heap.size ≠ g := by have := HF.out.lt; omega
        unfold maxLen at hcap'
        clear hx hok hin
        by_cases h2 : textC x.name ≤ mk
        · rw [decide_eq_true h2] at HXT
          have H2 := Lib.hid h2
          clear h2
          by_cases h3 : n' ≤ mk - textC x.name
          · have d3 := decide_eq_true h3
            have H3 := Lib.hid h3
            clear h3
            go_wp2_with (first
              | (go_at_call 35; (with_reducible refine HXT.out.mono ?_); rintro e w2 ⟨rfl, hb, hw⟩; have B2 := Lib.hid hb; have W2 := Lib.hid (hw H2.out); have BX := Lib.hid ((Ob.made wo 49 #[.int .i64 x.cat, .string x.name, .slice A' n' c']).keep (hb.heap (by simp) hne)); have g2 := BX.out.cell 2; have HT3 := Lib.hid (takes_any (n := n') W2.out (by have := HS.out; omega) (by unfold maxLen; omega)); unfold Taking at HT3; rw [d3] at HT3; clear hb hw)
              | (go_at_call 34; (with_reducible refine HT3.out.mono ?_); rintro e w3 ⟨rfl, hb, hw⟩; have B3 := Lib.hid hb; have W3 := Lib.hid (hw H3.out); have BX3 := Lib.hid (BX.out.keep (hb.heap BX.out.lt hne)); have g3 := BX3.out.cell 2; clear hb hw))
            go_loopw [38] (fun i wq => ∃ k2 m2 : Nat, k2 ≤ n' ∧ i = .int .i64 k2 ∧ sumC valC (x.bag.take k2) + m2 = mk - textC x.name - n' ∧ Lf wq g m2 ∧ Only g wo wq) (fun i _ => n' - (intOf i).toNat)
            case atStart => exact ⟨0, mk - textC x.name - n', Nat.zero_le _, rfl, by rw [sumC_zero]; omega, W3.out, (Only.alloc _ _ _).trans (B2.out.trans B3.out)⟩
            case round =>
              obtain ⟨wq, hwq⟩ : ∃ wq, wq = wr := ⟨wr, rfl⟩
              subst hwq
              obtain ⟨k2, m2, hk2, rfl, hs, hlf, hb⟩ := hrel
              have HS2 := Lib.hid hs
              have HB2 := Lib.hid hb
              have HF2 := Lib.hid hlf
              clear hs hb hlf
              by_cases hlt2 : k2 < n'
              · obtain ⟨b2, o2, y, rfl, hRb2, hbl2, hy, hoky, ⟨f0, f1, f2⟩⟩ := (HIN.out.keep (HB2.out.kept HR.out) (fun _ h _ => h)).at_ hlt2
                have HY := Lib.hid hy
                have HSY := Lib.hid (sumC_le (f := valC) hy)
                have HEY : Hid (valC y = textC y.s) := rfl
                have HYT := Lib.hid (ktext_any y.s (HF2.out.alloc (.cells #[.int .i64 y.k, .int .i64 y.n, .string y.s] 57)) (by have := HS2.out; have := HS.out; omega) hoky.2.2)
                unfold Taking at HYT
                clear hy hoky
                by_cases h4 : textC y.s ≤ m2
                · rw [decide_eq_true h4] at HYT
                  have H4 := Lib.hid h4
                  clear h4
                  go_wp2_with (go_at_call 35; (with_reducible refine HYT.out.mono ?_); rintro e w4 ⟨rfl, hb, hw⟩; have B4 := Lib.hid hb; have W4 := Lib.hid (hw H4.out); clear hb hw)
                  go_roundw
                  case rel => exact ⟨k2 + 1, m2 - textC y.s, by omega, by go_num, by rw [sumC_take HY.out, HEY.out]; have := HS2.out; have := H4.out; omega, W4.out, HB2.out.trans ((Only.alloc _ _ _).trans B4.out)⟩
                  case measure => simp [intOf]; omega
                · rw [decide_eq_false h4] at HYT
                  have H4 := Lib.hid h4
                  clear h4
                  go_wp2_with (go_at_call 35; (with_reducible refine HYT.out.mono ?_); rintro e w4 ⟨rfl, hb, hw⟩; have B4 := Lib.hid hb; clear hb hw)
                  go_ret
                  have hbad : ¬ cc ≤ 1200 := by
                    have := HC.out; have := HS.out; have := H1.out; have := HSX.out; have := HEX.out; have := H2.out; have := H3.out; have := HS2.out; have := HSY.out; have := HEY.out; have := H4.out
                    omega
                  exact ⟨ret_bool (decide_eq_false hbad).symm, HG.out _ (HB.out.trans (HB2.out.trans ((Only.alloc _ _ _).trans B4.out)))⟩
              · obtain rfl : k2 = n' := by omega
                go_wp2
                go_roundw
                case rel => exact ⟨k + 1, m2, by omega, by go_num, by rw [sumC_take HX.out, HEX.out]; have := HS2.out; rw [sumC_all HL'.out] at this; have := HS.out; have := H2.out; have := H3.out; omega, HF2.out, HB.out.trans HB2.out⟩
                case measure => simp [intOf]; omega
          · have d3 := decide_eq_false h3
            have H3 := Lib.hid h3
            clear h3
            go_wp2_with (first
              | (go_at_call 35; (with_reducible refine HXT.out.mono ?_); rintro e w2 ⟨rfl, hb, hw⟩; have B2 := Lib.hid hb; have W2 := Lib.hid (hw H2.out); have BX := Lib.hid ((Ob.made wo 49 #[.int .i64 x.cat, .string x.name, .slice A' n' c']).keep (hb.heap (by simp) hne)); have g2 := BX.out.cell 2; have HT3 := Lib.hid (takes_any (n := n') W2.out (by have := HS.out; omega) (by unfold maxLen; omega)); unfold Taking at HT3; rw [d3] at HT3; clear hb hw)
              | (go_at_call 34; (with_reducible refine HT3.out.mono ?_); rintro e w3 ⟨rfl, hb, hw⟩; have B3 := Lib.hid hb; clear hb hw))
            go_ret
            have hbad : ¬ cc ≤ 1200 := by
              have := HC.out; have := HS.out; have := H1.out; have := HSX.out; have := HEX.out; have := H2.out; have := H3.out
              omega
            exact ⟨ret_bool (decide_eq_false hbad).symm, HG.out _ (HB.out.trans ((Only.alloc _ _ _).trans (B2.out.trans B3.out)))⟩
        · rw [decide_eq_false h2] at HXT
          have H2 := Lib.hid h2
          clear h2
          go_wp2_with (go_at_call 35; (with_reducible refine HXT.out.mono ?_); rintro e w2 ⟨rfl, hb, hw⟩; have B2 := Lib.hid hb; clear hb hw)
          go_ret
          have hbad : ¬ cc ≤ 1200 := by
            have := HC.out; have := HS.out; have := H1.out; have := HSX.out; have := HEX.out; have := H2.out
            omega
          exact ⟨ret_bool (decide_eq_false hbad).symm, HG.out _ (HB.out.trans ((Only.alloc _ _ _).trans B2.out))⟩
      · obtain rfl : k = n := by omega
        go_wp2
        go_ret
        have hs := HS.out
        rw [sumC_all HL.out] at hs
        have := HC.out
        have := H1.out
        exact ⟨ret_bool (decide_eq_true (by omega)).symm, HG.out _ HB.out⟩
  · rw [decide_eq_false h1] at HT
    have H1 := Lib.hid h1
    clear h1
    go_enter Try.func16, Try.ntmps16
    go_wp2_with (go_at_call 34; refine HT.out.mono ?_; rintro e w1 ⟨rfl, hb, hw⟩; have B1 := Lib.hid hb; clear hb hw)
    go_ret
    have hbad : ¬ cc ≤ 1200 := by have := HC.out; have := H1.out; omega
    exact ⟨ret_bool (decide_eq_false hbad).symm, HG.out _ B1.out⟩
end Go.Proofs.Ytincnopaclmppaa
/- bailiffkeep.Asks: a request in new memory. -/
namespace Go.Proofs.Ytincnopaclmppaa
set_option linter.unusedVariables false
open Go.RowKit

/-- A row of the call's own of attributes whose bags lie anywhere but in it. -/
def Og (w : World) (base : Nat) (A : Option Addr) (n c : Nat) (l : List Giv) : Prop := Ow 3 (GivAt w (Nb 0 (.slice A n c))) w base 49 A n c l ∧ base ≤ w.heap.size
theorem Og.of_gr {w : World} {base n c : Nat} {A : Option Addr} {l : List Giv} (h : Gr 3 GivAt w base 49 A n c l) : Og w base A n c l :=
  ⟨h.1.mapP fun vs x _ hp => hp.keep (Kept.refl _ _) (fun b hb _ => ⟨Nat.zero_le _, hb.2⟩), h.2⟩
theorem Og.below {w w' : World} {base n c : Nat} {A : Option Addr} {l : List Giv} (h : Og w base A n c l) (hb : Below w.heap.size w w') : Og w' base A n c l :=
  ⟨(h.1.mapP (fun vs x _ hp => hp.keep (Kept.all hb _) (fun _ h _ => h))).below hb, Nat.le_trans h.2 hb.size⟩
theorem Og.gvs {w : World} {base n c : Nat} {A : Option Addr} {l : List Giv} (h : Og w base A n c l) (hn : n ≤ 1000000) : Gvs w (fun _ => True) A n c l :=
  (h.1.mapP (fun vs x _ hp => hp.keep (Kept.refl _ _) (fun _ _ _ => trivial))).rw (by omega) (fun _ _ _ => trivial)
/-- One more, whose bag may lie anywhere. -/
theorem Og.push {w : World} {base n c : Nat} {A : Option Addr} {l : List Giv} {A1 : Option Addr} {n1 c1 : Nat} {g : Giv} (h : Og w base A n c l) (hok : g.ok) (hx : Vls w (Nb 0 (.slice A n c)) A1 n1 c1 g.bag) (hn : n < 1000000) :
    ∃ A' c' w', (Builtin.append_ #[47, 47] 47 #[.slice A n c, .slice (some ⟨w.heap.size, 0, none⟩) 1 1]).run Try.prog (w.alloc (.cells #[.int .i64 g.cat, .string g.name, .slice A1 n1 c1] 49)) = .ok (.slice A' (n + 1) c') w' ∧ Og w' base A' (n + 1) c' (l ++ [g]) ∧ Below base w w' := by
  obtain ⟨i, hi, hz, hs, hb⟩ := info_of givinfo
  have hbase := h.2
  have a1 : Below w.heap.size w (w.alloc (.cells #[.int .i64 g.cat, .string g.name, .slice A1 n1 c1] 49)) := (Below.refl _ _).alloc (Nat.le_refl _) _
  have h' := Og.below h a1
  have hlit : Rw 3 (GivAt (w.alloc (.cells #[.int .i64 g.cat, .string g.name, .slice A1 n1 c1] 49)) (Nb 0 (.slice A n c))) (w.alloc (.cells #[.int .i64 g.cat, .string g.name, .slice A1 n1 c1] 49)) (fun _ => True) (some ⟨w.heap.size, 0, none⟩) 1 1 [g] := by
    have := Rw.lit (P := GivAt (w.alloc (.cells #[.int .i64 g.cat, .string g.name, .slice A1 n1 c1] 49)) (Nb 0 (.slice A n c))) (R := fun _ => True) w 49 (fun _ => [.int .i64 g.cat, .string g.name, .slice A1 n1 c1]) [g] (n := 1) rfl (by omega) trivial (fun _ _ => rfl) (fun y hy => by simp at hy; subst hy; exact GivAt.keep ⟨A1, n1, c1, rfl, hok, hx⟩ (Kept.all a1 _) (fun _ h _ => h))
    simpa using this
  obtain ⟨A', c', w', hrun, hown, hbel, hg, hob⟩ := Ow.app (ty := 47) Try.underlying47 hi hz hs hb rfl (by omega) (by omega) h'.1 hlit (GivAt.one) (by omega) h'.2
  refine ⟨A', c', w', hrun, ⟨hown.mapP fun vs x _ hp => hp.keep ⟨hg.size, fun b hR hlt => hg.block b hlt hR.2⟩ (fun b hR hlt => ⟨hR.1, ?_⟩), Nat.le_trans h'.2 hbel.size⟩, (a1.mono hbase).trans hbel⟩
  rcases hob with e | e
  · rw [e]; exact hR.2
  · rw [e]
    intro he
    injection he with he
    omega

/-- Bags that aren't long. -/
def FewB (l : List Giv) : Prop := ∀ g ∈ l, g.bag.length ≤ 100000
set_option maxRecDepth 100000 in
set_option maxHeartbeats 1600000 in
theorem asks_any {w : World} {R : Nat → Prop} {A : Option Addr} {n c : Nat} {l : List Giv} (h : Gvs w R A n c l) (hf : FewB l) (hn : n ≤ 100000) :
    Calls Try.prog 17 #[.slice A n c] w fun e w' => ∃ A' c', e = .returned (.slice A' n c') ∧ Below w.heap.size w w' ∧ Gr 3 GivAt w' w.heap.size 49 A' n c' l := by
  have hle := Rw.le h
  have hcap := Rw.cap h
  have HL := Lib.hid (Rw.len h)
  unfold maxLen at hcap
  have H := Lib.hid h
  have HF := Lib.hid hf
  clear h hf
  go_enter Try.func17, Try.ntmps17
  go_wp2
  go_loopw [3, 8] (fun out i wr => ∃ (k : Nat) (A' : Option Addr) (c' : Nat), k ≤ n ∧ i = .int .i64 k ∧ out = .slice A' k c' ∧ Gr 3 GivAt wr w.heap.size 49 A' k c' (l.take k) ∧ Below w.heap.size w wr) (fun out i _ => n - (intOf i).toNat)
  case atStart => exact ⟨0, none, 0, Nat.zero_le _, rfl, rfl, Gr.nil _ _ (Nat.le_refl _), Below.refl _ _⟩
  case round =>
    obtain ⟨k, A', c', hk, rfl, rfl, ho, hb⟩ := hrel
    have HO := Lib.hid ho
    have HB := Lib.hid hb
    clear ho hb
    by_cases hlt : k < n
    · obtain ⟨b, o, x, Ax, nx, cx, rfl, hRb, hbl, hx, hok, ⟨x0, x1, x2⟩, hin⟩ := (H.out.keep (Kept.all HB.out R) (fun _ h _ => h)).at_ hlt
      have HX := Lib.hid hx
      have HK := Lib.hid hok
      have hlim : nx ≤ 100000 := by have := HF.out x (List.mem_of_getElem? hx); have := Rw.len hin; omega
      obtain ⟨xc, xn, xb⟩ := x
      simp only at x0 x1 x2 hin
      have D0 := (Below.refl wr.heap.size wr).alloc (Nat.le_refl _) (.cells #[.int .i64 xc, .string xn, .slice Ax nx cx] 49)
      obtain ⟨A5, c5, w5, r5, b5, v5⟩ := copy_bag (hin.keep (Kept.all D0 R) (fun _ h _ => h)) (by omega)
      rw [size_al] at r5 b5 v5
      have q1 := Ob.below (Ob.made wr 49 #[.int .i64 xc, .string xn, .slice Ax nx cx]) b5 (by omega)
      have q4 := q1.frozen 2
      have q5 := q1.put 2 (.slice A5 nx c5)
      have d1 : Below wr.heap.size wr (w5.setCell ⟨wr.heap.size, 2, none⟩ (.slice A5 nx c5)) := (D0.trans (b5.mono (by omega))).setCell (Nat.le_refl _) _
      have v6 : Vls (w5.setCell ⟨wr.heap.size, 2, none⟩ (.slice A5 nx c5)) (Nb w.heap.size (.slice A' k c')) A5 nx c5 xb :=
        v5.keep ⟨by simp [World.setCell], fun b hb _ => Below.heap_setCell _ _ _ _ (by have h1 : wr.heap.size + 1 ≤ b := hb; show b ≠ wr.heap.size; omega)⟩ (fun b hb _ => HO.out.apart b (by have h1 : wr.heap.size + 1 ≤ b := hb; omega))
      obtain ⟨A2, c2, w2, r2, o2, b2⟩ := push_giv (g := ⟨xc, xn, xb⟩) (Gr.below keeps_giv HO.out d1) HK.out v6 (by omega)
      have hz : (w5.setCell ⟨wr.heap.size, 2, none⟩ (.slice A5 nx c5)).heap.size = w5.heap.size := by simp [World.setCell]
      rw [hz] at r2
      simp only at r2
      have R5 := Lib.hid r5
      have R2 := Lib.hid r2
      have O2 := Lib.hid o2
      have B2 := Lib.hid (HB.out.trans ((d1.mono HB.out.size).trans b2))
      have Q5 := Lib.hid q5
      have z2 := q1.cell 2
      have z0 := q1.cell 0
      have z1 := q1.cell 1
      have HZ := Lib.hid hz
      clear hx hok hin D0 r5 b5 v5 q1 q5 d1 v6 hz r2 o2 b2
      go_wp2_with (first
        | (at_builtin; refine wpList_append_run (o := ⟨some 15, _, _, _, _, _⟩) rfl _ _ _ _ rfl rfl rfl R5.out ?_)
        | (at_builtin; refine wpList_append_run (o := ⟨some 20, _, _, _, _, _⟩) rfl _ _ _ _ rfl rfl rfl R2.out ?_))
      go_roundw
      case rel => exact ⟨k + 1, A2, c2, by omega, by go_num, rfl, by rw [take_one HX.out]; exact O2.out, B2.out⟩
      case measure => simp [intOf]; omega
    · obtain rfl : k = n := by omega
      go_wp2
      go_ret
      have ho := HO.out
      rw [List.take_of_length_le (by have := HL.out; omega)] at ho
      exact ⟨A', c', rfl, HB.out, ho⟩
end Go.Proofs.Ytincnopaclmppaa
/- A region that draws its order: its head, in whatever order, under a condition on the world (loads that it tells are taken first); and a forced tail, that may break the condition. -/
namespace Go.Proofs.Ytincnopaclmppaa
open Go Go.RowKit

section
variable {P : Program} {ops : Array Oper} {md : Region.Mode} {Q : Exit → Act → World → Prop} {S : World → Prop} {L : Array Bool → Act → World → Prop} {n : Nat}

/-- Whatever order is picked among the first n, till L; S holds behind each. -/
def HeadS (P : Program) (md : Region.Mode) (ops : Array Oper) (Q : Exit → Act → World → Prop) (S : World → Prop) (n : Nat) (L : Array Bool → Act → World → Prop) : Nat → Array Bool → Act → World → Prop
  | 0, listed, a, w => L listed a w
  | f + 1, listed, a, w => Region.ready md ops listed ≠ [] ∧ ∀ i ∈ Region.ready md ops listed, i < n ∧ wpOp P ops Q i (fun a' w' => S w' ∧ HeadS P md ops Q S n L f (listed.setIfInBounds i true) a' w') a w

theorem HeadS.any {g : Nat} (hL : ∀ listed a w, L listed a w → wpAny P md ops Q g listed a w) :
    ∀ (f : Nat) (listed : Array Bool) (a : Act) (w : World), HeadS P md ops Q S n L f listed a w → wpAny P md ops Q (f + g) listed a w
  | 0, _, _, _, h => by rw [Nat.zero_add]; exact hL _ _ _ h
  | f + 1, _, _, _, h => by
    rw [show f + 1 + g = (f + g) + 1 by omega]
    exact ⟨fun h0 => absurd h0 h.1, fun i hi => wpOp_mono (fun a' w' h' => HeadS.any hL f _ a' w' h'.2) (h.2 i hi).2⟩

theorem HeadS.first {i : Nat} {oi : Oper} {v : Value} (hi : ops[i]? = some oi) (hsel : ∀ (j : Nat) (o : Oper) cs b, ops[j]? = some o → o.op ≠ .select cs b)
    (hQ : ∀ c a w, Q (.panic c) (a.put oi.dst v) w → Q (.panic c) a w)
    (hs : Region.sinkB md ops n = true) (hc : Region.chainB md ops n = true) (hn : n < ops.size) (hin : i < n) (hdone : ∀ listed a w, L listed a w → ∀ j ∈ Region.ready md ops listed, n ≤ j) :
    ∀ (f : Nat) (listed : Array Bool) (a : Act) (w : World), HeadInv md ops n listed →
      (∀ j oj, ops[j]? = some oj → j ≠ i → listed.getD j true = false → (∀ e ∈ oj.after, Region.binds md e = true → e.on ≠ i) → oi.apart ops oj = true) →
      i ∈ Region.ready md ops listed → YieldsIf P ops S oi v a → S w → HeadS P md ops Q S n L f (listed.setIfInBounds i true) (a.put oi.dst v) w → HeadS P md ops Q S n L (f + 1) listed a w := by
  intro f
  induction f with
  | zero =>
    intro listed a w inv _ hr hy hS H
    refine ⟨fun h => (by rw [h] at hr; cases hr), fun j hj => ?_⟩
    have hjn : j < n := Nat.lt_of_not_le fun h => tail_waits hs hc hn inv _ i rfl hin (mem_ready.1 hr).1 j h hj
    refine ⟨hjn, ?_⟩
    by_cases hji : j = i
    · subst hji; exact hy.wpOp hi hS ⟨hS, H⟩
    · have := hdone _ _ _ H j (ready_mono hj hji)
      omega
  | succ f ih =>
    intro listed a w inv hfree hr hy hS H
    have hun := (mem_ready.1 hr).1
    refine ⟨fun h => (by rw [h] at hr; cases hr), fun j hj => ?_⟩
    have hjn : j < n := Nat.lt_of_not_le fun h => tail_waits hs hc hn inv _ i rfl hin hun j h hj
    refine ⟨hjn, ?_⟩
    by_cases hji : j = i
    · subst hji; exact hy.wpOp hi hS ⟨hS, H⟩
    · have h1 := (H.2 j (ready_mono hj hji)).2
      obtain ⟨hjun, oj, hoj, hall⟩ := mem_ready.1 hj
      have hnot : ∀ e ∈ oj.after, Region.binds md e = true → e.on ≠ i := fun e he hb heq => by
        have h1 := hall e he hb
        rw [heq, getD_both hun] at h1
        cases h1
      have h2 := wpOp_putIf hoj (hfree j oj hoj hji hjun hnot) (fun cs b => hsel i oi cs b hi) (fun cs b => hsel j oj cs b hoj) hQ hy h1
      have hfree' : ∀ k ok, ops[k]? = some ok → k ≠ i → (listed.setIfInBounds j true).getD k true = false →
          (∀ e ∈ ok.after, Region.binds md e = true → e.on ≠ i) → oi.apart ops ok = true := fun k ok hk hki hun' hno => by
        refine hfree k ok hk hki ?_ hno
        by_cases hjk : j = k
        · subst hjk; exact hjun
        · rw [getD_set_ne true hjk] at hun'; exact hun'
      refine wpOp_mono (fun a' w' h3 => ⟨h3.2.1, ih (listed.setIfInBounds j true) a' w' (inv.set hj hjn) hfree' (ready_mono hr (Ne.symm hji)) h3.1 h3.2.1 ?_⟩) h2
      rw [Array.setIfInBounds_comm _ _ hji]
      exact h3.2.2

/-- In a state that can be. -/
def HeadW (P : Program) (md : Region.Mode) (ops : Array Oper) (Q : Exit → Act → World → Prop) (S : World → Prop) (n : Nat) (L : Array Bool → Act → World → Prop) (f : Nat) (listed : Array Bool) (a : Act) (w : World) : Prop :=
  HeadInv md ops n listed → HeadS P md ops Q S n L f listed a w
/-- What is known of the region. -/
def HeadG (md : Region.Mode) (ops : Array Oper) (n : Nat) (L : Array Bool → Act → World → Prop) : Prop :=
  Region.noSelect ops = true ∧ Region.sinkB md ops n = true ∧ Region.chainB md ops n = true ∧ n < ops.size ∧ ∀ listed a w, L listed a w → ∀ j ∈ Region.ready md ops listed, n ≤ j

theorem HeadW_take {i : Nat} {oi : Oper} {v : Value} {f : Nat} {listed : Array Bool} {a : Act} {w : World} (G : HeadG md ops n L) (hi : ops[i]? = some oi)
    (hin : Nat.blt i n = true) (hf : Region.free md ops listed i = true) (hr : (Region.ready md ops listed).contains i = true)
    (hQ : ∀ c a w, Q (.panic c) (a.put oi.dst v) w → Q (.panic c) a w) (hy : YieldsIf P ops S oi v a) (hS : S w)
    (h : HeadW P md ops Q S n L f (listed.setIfInBounds i true) (a.put oi.dst v) w) : HeadW P md ops Q S n L (f + 1) listed a w := fun inv => by
  have hin' : i < n := by simpa using hin
  have hr' : i ∈ Region.ready md ops listed := by simpa using hr
  exact HeadS.first hi (Region.noSelect_spec G.1) hQ G.2.1 G.2.2.1 G.2.2.2.1 hin' G.2.2.2.2 f listed a w inv (Region.free_spec hi hf) hr' hy hS (h (inv.set hr' hin'))

/-- Each of these comes up next. -/
def AllW (P : Program) (md : Region.Mode) (ops : Array Oper) (Q : Exit → Act → World → Prop) (S : World → Prop) (n : Nat) (L : Array Bool → Act → World → Prop) (f : Nat) (listed : Array Bool) (a : Act) (w : World) (rs : List Nat) : Prop :=
  ∀ i ∈ rs, wpOp P ops Q i (fun a' w' => S w' ∧ HeadW P md ops Q S n L f (listed.setIfInBounds i true) a' w') a w
theorem AllW.nil {f : Nat} {listed : Array Bool} {a : Act} {w : World} : AllW P md ops Q S n L f listed a w [] := fun _ h => by cases h
theorem AllW.cons {f : Nat} {listed : Array Bool} {a : Act} {w : World} {i : Nat} {o : Oper} {rs : List Nat} (ho : ops[i]? = some o)
    (h : ∀ K' : Act → World → Prop, (∀ a w, S w → HeadW P md ops Q S n L f (listed.setIfInBounds i true) a w → K' a w) → if Region.wanted o (yielded ops a.tmps) = true then Oper.wp P o a w K' Q else K' (a.put o.dst undef) w)
    (hs : AllW P md ops Q S n L f listed a w rs) : AllW P md ops Q S n L f listed a w (i :: rs) := fun j hj => by
  rcases List.mem_cons.1 hj with rfl | hj
  · exact wpOp_step ho fun K' hK => h K' fun a w h1 h2 => hK a w ⟨h1, h2⟩
  · exact hs j hj
theorem HeadW_ready {rs : List Nat} {f : Nat} {listed : Array Bool} {a : Act} {w : World} (hr : Region.ready md ops listed = rs) (hne : rs.isEmpty = false) (hin : rs.all (fun i => Nat.blt i n) = true)
    (h : AllW P md ops Q S n L f listed a w rs) : HeadW P md ops Q S n L (f + 1) listed a w := fun inv => by
  subst hr
  refine ⟨fun h0 => (by rw [h0] at hne; cases hne), fun i hi => ?_⟩
  have hin' : i < n := by simpa using List.all_eq_true.1 hin i hi
  exact ⟨hin', wpOp_mono (fun a' w' h' => ⟨h'.1, h'.2 (inv.set hi hin')⟩) (h i hi)⟩

/-- What is left: the tail, one behind the other. -/
def TailL (P : Program) (ops : Array Oper) (Q : Exit → Act → World → Prop) (n g : Nat) (r : List Oper) (listed : Array Bool) (a : Act) (w : World) : Prop := Region.seqB .any ops g n listed = true ∧ wpList P ops Q r a w

theorem wp_region_held_tail {id : Nat} {a : Act} {w : World} {l : List Oper} (S : World → Prop) (n : Nat) (hm : P.follows .mixedOrders = true)
    (hB : (Region.noSelect l.toArray && Nat.blt n l.length && Region.sinkB .any l.toArray n && Region.chainB .any l.toArray n) = true)
    (h : HeadG .any l.toArray n (TailL P l.toArray Q n (l.length - n) (l.drop n)) → HeadW P .any l.toArray Q S n (TailL P l.toArray Q n (l.length - n) (l.drop n)) n (Array.replicate l.toArray.size false) a { w with drawn := w.drawn + 1 }) :
    (Code.region id l.toArray true).wp P Q a w := by
  simp only [Bool.and_eq_true] at hB
  obtain ⟨⟨⟨hsel, hn⟩, hs⟩, hc⟩ := hB
  have hn' : n < l.length := by simpa using hn
  have hdl : (l.drop n).length = l.toArray.size - n := by simp
  have inv0 : HeadInv .any l.toArray n (Array.replicate l.toArray.size false) :=
    ⟨by simp, fun j oj _ hl => (by rw [getD_replicate_false] at hl; cases hl), fun t _ ht => getD_in (by simpa using ht) (getD_replicate_false _ _)⟩
  have H := h ⟨hsel, hs, hc, by simpa using hn', fun listed a w hL => seqB_ready hL.1⟩ inv0
  refine wp_region_any hm ?_
  have := HeadS.any (g := l.toArray.size - n) (fun listed a' w' hL => by
    have := wpAny_of_seq (md := .any) (Q' := Q) (l.drop n) n listed a' w' (fun j => by simp [List.getElem?_drop]) (by rw [hdl]; simpa using hL.1) hL.2
    rwa [hdl] at this) _ _ _ _ H
  rw [show n + (l.toArray.size - n) = l.toArray.size by simp; omega] at this
  exact this
end
end Go.Proofs.Ytincnopaclmppaa
/- apart: the same attribute in memory of its own. -/
namespace Go.Proofs.Ytincnopaclmppaa
set_option linter.unusedVariables false
open Go.RowKit Go.Sort

theorem giv_ret {fn : Func} {p : Tmp} {tmps : Array Value} {w : World} {g : Nat} {k : Int} {s : ByteArray} {A : Option Addr} {n c : Nat} (h : fn.results = #[.cell p 49]) (hp : tmps.getD p undef = .pointer (some ⟨g, 0, none⟩)) (hg : Ob w g 49 #[.int .i64 k, .string s, .slice A n c]) :
    (results fn tmps).run Try.prog w = .ok (.agg #[.int .i64 k, .string s, .slice A n c]) w :=
  results_cell_row h tmps w g _ _ (0, 0) _ hp hg Try.underlying49 rfl (by kernel_rfl)
set_option maxRecDepth 100000 in
set_option maxHeartbeats 4000000 in
theorem apart_any {w : World} {R : Nat → Prop} {A : Option Addr} {n c : Nat} (g : Giv) (hs : g.name.size ≤ 1000000) (h : Vls w R A n c g.bag) (hsh : Shorts g.bag) (hn : n ≤ 100000) :
    Calls Try.prog 42 #[.agg #[.int .i64 g.cat, .string g.name, .slice A n c]] w fun e w' => ∃ A' c', e = .returned (.agg #[.int .i64 g.cat, .string g.name, .slice A' n c']) ∧ Below w.heap.size w w' ∧ Vls w' (fun b => w.heap.size ≤ b) A' n c' g.bag := by
  obtain ⟨gc, gn, gb⟩ := g
  simp only at hs h hsh ⊢
  have HCL := Lib.hid (fun W => clone_any gn W hs)
  have B0 := Lib.hid (((Below.refl w.heap.size w).alloc (Nat.le_refl _) (.cells #[.int .i64 gc, .string gn, .slice A n c] 49)).alloc (by rw [size_al]; omega) (.cells #[.int .i64 0, .string ⟨#[]⟩, .slice none 0 0] 49))
  have OB : Ob ((w.alloc (.cells #[.int .i64 gc, .string gn, .slice A n c] 49)).alloc (.cells #[.int .i64 0, .string ⟨#[]⟩, .slice none 0 0] 49)) w.heap.size 49 #[.int .i64 gc, .string gn, .slice A n c] := (Ob.made w _ _).keep (Below.heap_alloc _ _ _ (by rw [size_al]; omega))
  have OR : Ob ((w.alloc (.cells #[.int .i64 gc, .string gn, .slice A n c] 49)).alloc (.cells #[.int .i64 0, .string ⟨#[]⟩, .slice none 0 0] 49)) (w.heap.size + 1) 49 #[.int .i64 0, .string ⟨#[]⟩, .slice none 0 0] := by
    have := Ob.made (w.alloc (.cells #[.int .i64 gc, .string gn, .slice A n c] 49)) 49 #[.int .i64 0, .string ⟨#[]⟩, .slice none 0 0]
    rwa [size_al] at this
  have HSZ : Hid (((w.alloc (.cells #[.int .i64 gc, .string gn, .slice A n c] 49)).alloc (.cells #[.int .i64 0, .string ⟨#[]⟩, .slice none 0 0] 49)).heap.size = w.heap.size + 2) := by show _ = _; rw [size_al, size_al]
  have CP := Lib.hid (fun W (hW : Below w.heap.size w W) => copied_any (h.keep (Kept.all hW R) (fun _ h _ => h)) hsh hn)
  go_enter Try.func42, Try.ntmps42
  go_upto_region 1 with fail
  generalize (w.alloc (.cells #[.int .i64 gc, .string gn, .slice A n c] 49)).alloc (.cells #[.int .i64 0, .string ⟨#[]⟩, .slice none 0 0] 49) = W1 at *
  have KO : Hid (∀ W, Below W1.heap.size W1 W → W.cell? ⟨w.heap.size, 0, none⟩ = some (.int .i64 gc) ∧ W.cell? ⟨w.heap.size, 1, none⟩ = some (.string gn) ∧ W.cell? ⟨w.heap.size, 2, none⟩ = some (.slice A n c)) := by
    show ∀ W, _ → _
    intro W hb
    have o := OB.below hb (by have := HSZ.out; omega)
    exact ⟨o.cell 0, o.cell 1, o.cell 2⟩
  have HOR := Lib.hid OR
  clear OB OR h
  refine wp_region_held_tail (fun w' => Below W1.heap.size W1 w') 9 (by kernel_rfl) (by kernel_rfl) ?_
  intro G
  change HeadW _ _ _ _ _ _ _ _ _ _ (W1.drewN 1)
  have S0 := Lib.hid (below_drewN (Below.refl W1.heap.size W1) 1)
  generalize W1.drewN 1 = v0 at *
  refine HeadW_take (i := 0) (v := ?_) G rfl (by kernel_rfl) (by kernel_rfl) (by kernel_rfl) (fun _ _ _ h => h) (Or.inl ⟨by rfl, ?_⟩) S0.out ?_
  rotate_left
  · intro wz hS
    go_simp
    try with_reducible rfl
  refine HeadW_take (i := 1) (v := ?_) G rfl (by kernel_rfl) (by kernel_rfl) (by kernel_rfl) (fun _ _ _ h => h) (Or.inl ⟨by rfl, ?_⟩) S0.out ?_
  rotate_left
  · intro wz hS
    have hk1 := (KO.out _ hS).1
    go_simp
    try with_reducible rfl
  refine HeadW_take (i := 2) (v := ?_) G rfl (by kernel_rfl) (by kernel_rfl) (by kernel_rfl) (fun _ _ _ h => h) (Or.inl ⟨by rfl, ?_⟩) S0.out ?_
  rotate_left
  · intro wz hS
    go_simp
    try with_reducible rfl
  refine HeadW_take (i := 3) (v := ?_) G rfl (by kernel_rfl) (by kernel_rfl) (by kernel_rfl) (fun _ _ _ h => h) (Or.inl ⟨by rfl, ?_⟩) S0.out ?_
  rotate_left
  · intro wz hS
    have hk1 := (KO.out _ hS).2.1
    go_simp
    try with_reducible rfl
  refine HeadW_take (i := 5) (v := ?_) G rfl (by kernel_rfl) (by kernel_rfl) (by kernel_rfl) (fun _ _ _ h => h) (Or.inl ⟨by rfl, ?_⟩) S0.out ?_
  rotate_left
  · intro wz hS
    go_simp
    try with_reducible rfl
  refine HeadW_take (i := 6) (v := ?_) G rfl (by kernel_rfl) (by kernel_rfl) (by kernel_rfl) (fun _ _ _ h => h) (Or.inl ⟨by rfl, ?_⟩) S0.out ?_
  rotate_left
  · intro wz hS
    have hk1 := (KO.out _ hS).2.2
    go_simp
    try with_reducible rfl
  refine HeadW_ready (rs := [4]) (by kernel_rfl) rfl rfl ?_
  refine AllW.cons rfl (fun K hK => ?_) AllW.nil
  go_simp
  refine (HCL.out _).mono ?_
  rintro e v2 ⟨rfl, hb⟩
  have S2 := Lib.hid (S0.out.trans (hb.mono S0.out.size))
  refine hK _ _ S2.out ?_
  clear hK K hb
  refine HeadW_ready (rs := [7]) (by kernel_rfl) rfl rfl ?_
  refine AllW.cons rfl (fun K hK => ?_) AllW.nil
  go_simp
  refine (CP.out _ (B0.out.trans (S2.out.mono B0.out.size))).mono ?_
  rintro e v3 ⟨A3, c3, rfl, hb, hv⟩
  have S3 := Lib.hid (S2.out.trans (hb.mono S2.out.size))
  have V3 := Lib.hid hv
  have Z2 := Lib.hid S2.out.size
  refine hK _ _ S3.out ?_
  clear hK K hb hv
  refine HeadW_ready (rs := [8]) (by kernel_rfl) rfl rfl ?_
  refine AllW.cons rfl (fun K hK => ?_) AllW.nil
  go_simp
  refine hK _ _ S3.out ?_
  clear hK K
  intro _
  refine ⟨by kernel_rfl, ?_⟩
  simp only [List.drop_succ_cons, List.drop_zero]
  have OR3 := HOR.out.below S3.out (by have := HSZ.out; omega)
  have P1 := OR3.put 0 (.int .i64 gc)
  have P2 := P1.put 1 (.string gn)
  have P3 := Lib.hid (P2.put 2 (.slice A3 n c3))
  have f0 := OR3.frozen 0
  have f1 := P1.frozen 1
  have f2 := P2.frozen 2
  have z0 := OR3.cell 0
  have z1 := P1.cell 1
  have z2 := P2.cell 2
  clear OR3 P1 P2
  go_wp2_with fail
  refine bodyPost_ret (giv_ret rfl rfl (by simpa using P3.out)) rfl ?_
  have hsz := HSZ.out
  have hsz3 := S3.out.size
  have hlow : Below w.heap.size w v3 := B0.out.trans (S3.out.mono B0.out.size)
  refine ⟨A3, c3, rfl, ((hlow.setCell (p := ⟨w.heap.size + 1, 0, none⟩) (by show _ ≤ w.heap.size + 1; omega) _).setCell (p := ⟨w.heap.size + 1, 1, none⟩) (by show _ ≤ w.heap.size + 1; omega) _).setCell (p := ⟨w.heap.size + 1, 2, none⟩) (by show _ ≤ w.heap.size + 1; omega) _, ?_⟩
  refine V3.out.keep ⟨by simp [World.setCell], fun b hb _ => ?_⟩ (fun b hb _ => ?_)
  · have hb' : v2.heap.size ≤ b := hb
    have := Z2.out
    rw [Below.heap_setCell _ _ _ _ (by show b ≠ w.heap.size + 1; omega), Below.heap_setCell _ _ _ _ (by show b ≠ w.heap.size + 1; omega), Below.heap_setCell _ _ _ _ (by show b ≠ w.heap.size + 1; omega)]
  · have hb' : v2.heap.size ≤ b := hb
    have := Z2.out
    show w.heap.size ≤ b
    omega
end Go.Proofs.Ytincnopaclmppaa
/- A store of an attribute into a row of the call's own. -/
namespace Go.Proofs.Ytincnopaclmppaa
set_option linter.unusedVariables false
open Go.RowKit

theorem flatten_set3 {a b c : Value} : ∀ {raw : List (List Value)} {j : Nat}, (∀ y ∈ raw, y.length = 3) → j < raw.length → (raw.set j [a, b, c]).flatten = ((raw.flatten.set (j * 3) a).set (j * 3 + 1) b).set (j * 3 + 2) c
  | [], _, _, h => by simp at h
  | y :: raw, 0, hk, _ => by
    have := hk y (by simp)
    match y, this with
    | [y0, y1, y2], _ => rfl
  | y :: raw, j + 1, hk, h => by
    have hy := hk y (by simp)
    have ih := flatten_set3 (a := a) (b := b) (c := c) (raw := raw) (j := j) (fun z hz => hk z (by simp [hz])) (by simpa using h)
    match y, hy with
    | [y0, y1, y2], _ =>
      rw [List.set_cons_succ, List.flatten_cons, ih, List.flatten_cons, show (j + 1) * 3 = j * 3 + 1 + 1 + 1 by omega]
      rfl
/-- What lies from a higher block on lies from a lower one on. -/
theorem Gr.less {w : World} {base base' n c : Nat} {A : Option Addr} {l : List Giv} (h : Gr 3 GivAt w base 49 A n c l) (hb : base' ≤ base) : Gr 3 GivAt w base' 49 A n c l := by
  obtain ⟨⟨raw, ⟨h0, h1⟩, h2, h3, h4, h5⟩, hbs⟩ := h
  refine ⟨⟨raw, ⟨h0, ?_⟩, h2, h3, h4, fun j vs x a b => (h5 j vs x a b).keep (Kept.refl _ _) (fun k hk _ => ⟨Nat.le_trans hb hk.1, hk.2⟩)⟩, Nat.le_trans hb hbs⟩
  rcases h1 with h1 | ⟨g, cap, cur, a, b, r⟩
  · exact .inl h1
  · exact .inr ⟨g, cap, cur, a, Nat.le_trans hb b, r⟩
/-- Another attribute in the place of one. -/
theorem Gr.put_giv {w : World} {base n c : Nat} {A : Option Addr} {l : List Giv} {A1 : Option Addr} {n1 c1 j : Nat} {g : Giv} (h : Gr 3 GivAt w base 49 A n c l) (hj : j < n) (hok : g.ok) (hx : Vls w (Nb base (.slice A n c)) A1 n1 c1 g.bag) :
    ∃ b u0 u1 u2, A = some ⟨b, 0, none⟩ ∧ base ≤ b ∧ b < w.heap.size ∧ (w.cell? ⟨b, j * 3, none⟩ = some u0 ∧ (w.setCell ⟨b, j * 3, none⟩ (.int .i64 g.cat)).cell? ⟨b, j * 3 + 1, none⟩ = some u1 ∧ ((w.setCell ⟨b, j * 3, none⟩ (.int .i64 g.cat)).setCell ⟨b, j * 3 + 1, none⟩ (.string g.name)).cell? ⟨b, j * 3 + 2, none⟩ = some u2) ∧
      (w.frozen? ⟨b, j * 3, none⟩ = false ∧ (w.setCell ⟨b, j * 3, none⟩ (.int .i64 g.cat)).frozen? ⟨b, j * 3 + 1, none⟩ = false ∧ ((w.setCell ⟨b, j * 3, none⟩ (.int .i64 g.cat)).setCell ⟨b, j * 3 + 1, none⟩ (.string g.name)).frozen? ⟨b, j * 3 + 2, none⟩ = false) ∧
      Only b w (((w.setCell ⟨b, j * 3, none⟩ (.int .i64 g.cat)).setCell ⟨b, j * 3 + 1, none⟩ (.string g.name)).setCell ⟨b, j * 3 + 2, none⟩ (.slice A1 n1 c1)) ∧
      Gr 3 GivAt (((w.setCell ⟨b, j * 3, none⟩ (.int .i64 g.cat)).setCell ⟨b, j * 3 + 1, none⟩ (.string g.name)).setCell ⟨b, j * 3 + 2, none⟩ (.slice A1 n1 c1)) base 49 A n c (l.set j g) := by
  obtain ⟨⟨raw, h1, h2, h3, h4, h5⟩, hbs⟩ := h
  rcases h1.2 with ⟨hv, hn⟩ | ⟨b, cap, cur, hv, hb, hg, hnc, hcm, hcs, ht⟩
  · omega
  · injection hv with e1 e2 e3
    subst e1 e3
    have hlt : b < w.heap.size := by
      rcases Nat.lt_or_ge b w.heap.size with hlt | hge
      · exact hlt
      · rw [Array.getElem?_eq_none hge] at hg; cases hg
    have hr : raw[j]? = some raw[j] := List.getElem?_eq_getElem (by omega)
    have hlen := h4 _ (List.getElem_mem (show j < raw.length by omega))
    have hfl : raw.flatten.length = n * 3 := by rw [flatten_len h4, h2]
    have hob : Ob w b 49 cur := hg
    have hcu : ∀ i : Nat, i < n * 3 → i < cur.size := fun i hi => by
      have := h1.cells (g := b) rfl i _ (List.getElem?_eq_getElem (by rw [hfl]; exact hi))
      have add : (⟨b, 0, none⟩ : Addr).add i = ⟨b, i, none⟩ := by by_cases hi0 : i = 0 <;> simp [Addr.add, hi0]
      rw [add, hob.cell] at this
      exact (Array.getElem?_eq_some_iff.1 this).1
    obtain ⟨s1, t1⟩ := h1.stored (j * 3) (.int .i64 g.cat)
    obtain ⟨s2, t2⟩ := s1.stored (j * 3 + 1) (.string g.name)
    obtain ⟨s3, t3⟩ := s2.stored (j * 3 + 2) (.slice A1 n1 c1)
    have o1 := hob.put (j * 3) (.int .i64 g.cat)
    have o2 := o1.put (j * 3 + 1) (.string g.name)
    have hon : Only b w (((w.setCell ⟨b, j * 3, none⟩ (.int .i64 g.cat)).setCell ⟨b, j * 3 + 1, none⟩ (.string g.name)).setCell ⟨b, j * 3 + 2, none⟩ (.slice A1 n1 c1)) := ((Only.refl.setCell (p := ⟨b, j * 3, none⟩) rfl _).setCell (p := ⟨b, j * 3 + 1, none⟩) rfl _).setCell (p := ⟨b, j * 3 + 2, none⟩) rfl _
    have K : Kept (Nb base (.slice (some ⟨b, 0, none⟩) n c)) w (((w.setCell ⟨b, j * 3, none⟩ (.int .i64 g.cat)).setCell ⟨b, j * 3 + 1, none⟩ (.string g.name)).setCell ⟨b, j * 3 + 2, none⟩ (.slice A1 n1 c1)) :=
      ⟨hon.le, fun k hk hl => hon.heap hl (fun e => hk.2 (by rw [e]; rfl))⟩
    have c0 := hcu (j * 3) (by omega)
    have c1' := hcu (j * 3 + 1) (by omega)
    have c2' := hcu (j * 3 + 2) (by omega)
    refine ⟨b, cur[j * 3], _, _, rfl, hb, hlt, ⟨by rw [hob.cell]; exact Array.getElem?_eq_getElem c0, (o1.cell _).trans (Array.getElem?_eq_getElem (by simpa using c1')), (o2.cell _).trans (Array.getElem?_eq_getElem (by simpa using c2'))⟩, ⟨hob.frozen _, o1.frozen _, o2.frozen _⟩, hon, ⟨raw.set j [.int .i64 g.cat, .string g.name, .slice A1 n1 c1], ?_, by rw [List.length_set]; exact h2, by rw [List.length_set]; exact h3, fun z hz => ?_, fun i vs x a b' => ?_⟩, Nat.le_trans hbs hon.le⟩
    · rw [flatten_set3 h4 (by omega)]; exact s3
    · rcases List.mem_or_eq_of_mem_set hz with hz | hz
      · exact h4 z hz
      · rw [hz]; rfl
    · by_cases hij : j = i
      · subst hij
        rw [List.getElem?_set_self (by omega)] at a b'
        obtain rfl := Option.some.inj a
        obtain rfl := Option.some.inj b'
        exact ⟨A1, n1, c1, rfl, hok, hx.keep K (fun _ h _ => h)⟩
      · rw [List.getElem?_set_ne hij] at a b'
        exact (h5 i vs x a b').keep K (fun _ h _ => h)
end Go.Proofs.Ytincnopaclmppaa
/- With: a request with one more attribute, or another one in its place. -/
namespace Go.Proofs.Ytincnopaclmppaa
set_option linter.unusedVariables false
open Go.RowKit

/-- Names that aren't long. -/
def ShortN (l : List Giv) : Prop := ∀ g ∈ l, g.name.size ≤ 1000000
set_option maxRecDepth 100000 in
set_option maxHeartbeats 4000000 in
theorem awith_any {w : World} {R R1 : Nat → Prop} {A A1 : Option Addr} {n c n1 c1 : Nat} {l : List Giv} (g : Giv) (h : Gvs w R A n c l) (hs : ShortG l) (hm : ShortN l) (hn : n ≤ 100000) (hok : g.ok) (hg : Vls w R1 A1 n1 c1 g.bag) (hgs : Shorts g.bag) (hgn : n1 ≤ 100000) (hgm : g.name.size ≤ 1000000) :
    Calls Try.prog 24 #[.slice A n c, .agg #[.int .i64 g.cat, .string g.name, .slice A1 n1 c1]] w fun e w' => ∃ A' n' c', e = .returned (.slice A' n' c') ∧ Below w.heap.size w w' ∧ n' ≤ n + 1 ∧ Gr 3 GivAt w' w.heap.size 49 A' n' c' (withA l g) := by
  obtain ⟨gc, gn, gb⟩ := g
  have hle := Rw.le h
  have hcap := Rw.cap h
  have HL := Lib.hid (Rw.len h)
  unfold maxLen at hcap
  have HAL := Lib.hid ((Below.refl w.heap.size w).alloc (Nat.le_refl _) (.cells #[.int .i64 gc, .string gn, .slice A1 n1 c1] 49))
  have HOB := Lib.hid (Ob.made w 49 #[.int .i64 gc, .string gn, .slice A1 n1 c1])
  have HK := Lib.hid (fun W (hW : Below w.heap.size w W) => h.keep (Kept.all hW R) (fun _ h _ => h))
  have HP := Lib.hid (fun W (hW : Below w.heap.size w W) => place_any gc gn (h.keep (Kept.all hW R) (fun _ h _ => h)))
  have HA := Lib.hid (fun W (hW : Below w.heap.size w W) => apart_any (w := W) ⟨gc, gn, gb⟩ hgm (hg.keep (Kept.all hW R1) (fun _ h _ => h)) hgs hgn)
  have HOKG : Hid (Giv.ok ⟨gc, gn, gb⟩) := hok
  have HS := Lib.hid hs
  have HM := Lib.hid hm
  clear h hs hm hok hg hgs hgn hgm
  simp only at HA
  go_enter Try.func24, Try.ntmps24
  go_wp2
  go_loopw [5, 11] (fun out i wr => ∃ (k : Nat) (A' : Option Addr) (c' : Nat), k ≤ n ∧ i = .int .i64 k ∧ out = .slice A' k c' ∧ Gr 3 GivAt wr (w.heap.size + 1) 49 A' k c' (l.take k) ∧ Below (w.heap.size + 1) (w.alloc (.cells #[.int .i64 gc, .string gn, .slice A1 n1 c1] 49)) wr) (fun out i _ => n - (intOf i).toNat)
  case atStart => exact ⟨0, none, 0, Nat.zero_le _, rfl, rfl, Gr.nil _ _ (by rw [size_al]; omega), Below.refl _ _⟩
  case round =>
    obtain ⟨k, A', c', hk, rfl, rfl, ho, hb⟩ := hrel
    have HO := Lib.hid ho
    have HB := Lib.hid hb
    have HW := Lib.hid (HAL.out.trans (hb.mono (Nat.le_succ _)))
    have OBr := Lib.hid (HOB.out.below hb (Nat.lt_succ_self _))
    clear ho hb
    by_cases hlt : k < n
    · obtain ⟨b, o, x, Ax, nx, cx, rfl, hRb, hbl, hx, hok, ⟨x0, x1, x2⟩, hin⟩ := (HK.out wr HW.out).at_ hlt
      have HX := Lib.hid hx
      have HOK := Lib.hid hok
      obtain ⟨hsx, hbx⟩ := HS.out x (List.mem_of_getElem? hx)
      have hmx := HM.out x (List.mem_of_getElem? hx)
      have hlim : nx ≤ 100000 := by have := Rw.len hin; omega
      obtain ⟨xc, xn, xb⟩ := x
      simp only at x0 x1 x2 hin hmx hsx
      have D0 := Lib.hid ((Below.refl wr.heap.size wr).alloc (Nat.le_refl _) (.cells #[.int .i64 xc, .string xn, .slice Ax nx cx] 49))
      have AP := apart_any (w := wr.alloc (.cells #[.int .i64 xc, .string xn, .slice Ax nx cx] 49)) ⟨xc, xn, xb⟩ hmx (hin.keep (Kept.all D0.out R) (fun _ h _ => h)) hsx hlim
      simp only at AP
      have AP := Lib.hid AP
      clear hx hok hin hmx hsx hbx
      go_wp2_with (first
        | (go_at_call 42; refine AP.out.mono ?_; rintro e w1 ⟨A5, c5, rfl, hb1, hv1⟩
           have d1 := below_step D0.out hb1
           obtain ⟨A2, c2, w2, r2, o2, b2⟩ := push_giv (g := ⟨xc, xn, xb⟩) (Gr.below keeps_giv HO.out d1) HOK.out (hv1.keep (Kept.refl _ _) (fun b hb _ => HO.out.apart b (Nat.le_trans D0.out.size hb))) (by omega)
           simp only at r2
           have R2 := Lib.hid r2
           have O2 := Lib.hid o2
           have B2 := Lib.hid (HB.out.trans ((d1.mono (Nat.le_trans (by rw [size_al]; exact Nat.le_refl _) HB.out.size)).trans b2))
           clear hb1 hv1 d1 r2 o2 b2)
        | (at_builtin; refine wpList_append_run (o := ⟨some 19, _, _, _, _, _⟩) rfl _ _ _ _ rfl rfl rfl R2.out ?_))
      go_roundw
      case rel => exact ⟨k + 1, A2, c2, by omega, by go_num, rfl, by rw [take_one HX.out]; exact O2.out, B2.out⟩
      case measure => simp [intOf]; omega
    · obtain rfl : k = n := by omega
      have hg := HO.out
      rw [List.take_of_length_le (by have := HL.out; omega)] at hg
      have HGR := Lib.hid hg
      have b0 := OBr.out.cell 0
      have b1 := OBr.out.cell 1
      have b2 := OBr.out.cell 2
      clear hg
      by_cases hi : idxA l gc gn < l.length
      · have hp : placeI l gc gn = (idxA l gc gn : Int) := place_pos hi
        rw [hp] at HP
        have hin : idxA l gc gn < k := by have := HL.out; omega
        have HE : Hid (withA l ⟨gc, gn, gb⟩ = l.set (idxA l gc gn) ⟨gc, gn, gb⟩) := withA_pos hi
        obtain ⟨j, hj⟩ : ∃ j, j = idxA l gc gn := ⟨_, rfl⟩
        rw [← hj] at HP hin HE
        clear hj
        clear hp hi
        obtain ⟨bo, hbo⟩ : ∃ bo, A' = some ⟨bo, 0, none⟩ := by
          obtain ⟨bo, _, _, _, e, _⟩ := HGR.out.put_giv hin HOKG.out (A1 := none) (n1 := 0) (c1 := 0) (g := ⟨gc, gn, []⟩) (Rw.nil_ _ _ _ _)
          exact ⟨bo, e⟩
        subst hbo
        have hkc' : k ≤ c' := by
          have := Rw.le (Gr.rw keeps_giv HGR.out (by omega)); exact this
        go_wp2_with (first
          | (go_at_call 28; (with_reducible refine (HP.out _ HW.out).mono ?_); rintro e w1 ⟨rfl, hb1⟩
             have W1 := Lib.hid (HW.out.trans (hb1.mono HW.out.size))
             have OB1 := Lib.hid (OBr.out.below hb1 (Ob.lt OBr.out))
             have p0 := OB1.out.cell 0
             have p1 := OB1.out.cell 1
             have p2 := OB1.out.cell 2
             have G1 := Lib.hid (Gr.below keeps_giv HGR.out hb1)
             clear hb1)
          | (go_at_call 42; (with_reducible refine (HA.out _ W1.out).mono ?_); rintro e w2 ⟨A5, c5, rfl, hb2, hv2⟩
             have W2 := Lib.hid (W1.out.trans (hb2.mono W1.out.size))
             obtain ⟨b', u0, u1, u2, ha, hbb, hblt, ⟨t0, t1, t2⟩, ⟨f0, f1, f2⟩, hon, hset⟩ := (Gr.below keeps_giv G1.out hb2).put_giv hin HOKG.out (A1 := A5) (n1 := n1) (c1 := c5) (hv2.keep (Kept.refl _ _) (fun b hb _ => G1.out.apart b hb))
             injection ha with ha
             injection ha with ha
             subst ha
             simp only at t1 t2 f1 f2 hon hset
             have HON := Lib.hid hon
             have HSET := Lib.hid hset
             have HBB := Lib.hid hbb
             clear hb2 hv2 hon hset hbb))
        go_ret
        exact ⟨some ⟨bo, 0, none⟩, k, c', rfl, W2.out.trans (HON.out.below W2.out.size (by have := HBB.out; omega)), Nat.le_succ _, by rw [HE.out]; exact HSET.out.less (Nat.le_succ _)⟩
      · have hp : placeI l gc gn = -1 := place_neg hi
        rw [hp] at HP
        have HE : Hid (withA l ⟨gc, gn, gb⟩ = l ++ [⟨gc, gn, gb⟩]) := if_neg hi
        clear hp hi
        go_wp2_with (first
          | (go_at_call 28; (with_reducible refine (HP.out _ HW.out).mono ?_); rintro e w1 ⟨rfl, hb1⟩
             have W1 := Lib.hid (HW.out.trans (hb1.mono HW.out.size))
             have OB1 := Lib.hid (OBr.out.below hb1 (Ob.lt OBr.out))
             have p0 := OB1.out.cell 0
             have p1 := OB1.out.cell 1
             have p2 := OB1.out.cell 2
             have G1 := Lib.hid (Gr.below keeps_giv HGR.out hb1)
             clear hb1)
          | (go_at_call 42; (with_reducible refine (HA.out _ W1.out).mono ?_); rintro e w2 ⟨A5, c5, rfl, hb2, hv2⟩
             have W2 := Lib.hid (W1.out.trans (hb2.mono W1.out.size))
             obtain ⟨A6, c6, w6, r6, o6, b6⟩ := push_giv (g := ⟨gc, gn, gb⟩) (Gr.below keeps_giv G1.out hb2) HOKG.out (hv2.keep (Kept.refl _ _) (fun b hb _ => G1.out.apart b hb)) (by omega)
             simp only at r6
             have R6 := Lib.hid r6
             have O6 := Lib.hid o6
             have B6 := Lib.hid (W2.out.trans (b6.mono (Nat.le_succ _)))
             clear hb2 hv2 r6 o6 b6)
          | (at_builtin; refine wpList_append_run (o := ⟨some 33, _, _, _, _, _⟩) rfl _ _ _ _ rfl rfl rfl R6.out ?_))
        go_ret
        exact ⟨A6, k + 1, c6, rfl, B6.out, Nat.le_refl _, by rw [HE.out]; exact O6.out.less (Nat.le_succ _)⟩
end Go.Proofs.Ytincnopaclmppaa
/- Requests that may be gone through in a while: none of their parts is long. -/
namespace Go.Proofs.Ytincnopaclmppaa
set_option linter.unusedVariables false
open Go.RowKit

theorem few_short {l : List Giv} (h : fewC l ≤ 1200) : ShortG l := fun g hg => by
  obtain ⟨h1, h2, h3⟩ := few_each h hg
  exact ⟨fun v hv => by have := h3 v hv; omega, by omega⟩
theorem few_bags {l : List Giv} (h : fewC l ≤ 1200) : FewB l := fun g hg => by
  obtain ⟨h1, h2, h3⟩ := few_each h hg
  omega
theorem few_names {l : List Giv} (h : fewC l ≤ 1200) : ShortN l := fun g hg => by
  obtain ⟨h1, h2, h3⟩ := few_each h hg
  omega
/-- An attribute alone, laid as a literal. -/
theorem one_giv {w : World} {R : Nat → Prop} {A : Option Addr} {n c : Nat} (g : Giv) (hok : g.ok) (h : Vls w R A n c g.bag) : Gvs (w.alloc (.cells #[.int .i64 g.cat, .string g.name, .slice A n c] 49)) (fun _ => True) (some ⟨w.heap.size, 0, none⟩) 1 1 [g] := by
  have a1 : Below w.heap.size w (w.alloc (.cells #[.int .i64 g.cat, .string g.name, .slice A n c] 49)) := (Below.refl _ _).alloc (Nat.le_refl _) _
  have := Rw.lit (P := GivAt (w.alloc (.cells #[.int .i64 g.cat, .string g.name, .slice A n c] 49)) (fun _ => True)) (R := fun _ => True) w 49 (fun _ => [.int .i64 g.cat, .string g.name, .slice A n c]) [g] (n := 1) rfl (by omega) trivial (fun _ _ => rfl) (fun y hy => by simp at hy; subst hy; exact GivAt.keep ⟨A, n, c, rfl, hok, h⟩ (Kept.all a1 _) (fun _ _ _ => trivial))
  exact this
theorem Gr.gvs {w : World} {base n c : Nat} {A : Option Addr} {l : List Giv} (h : Gr 3 GivAt w base 49 A n c l) (hn : n ≤ 1000000) : Gvs w (fun b => base ≤ b) A n c l := Gr.rw keeps_giv h (by omega)
theorem with_short {l : List Giv} {g : Giv} (h : ShortG l) (hg : Shorts g.bag ∧ g.bag.length ≤ 100000) : ShortG (withA l g) := fun x hx => by
  rcases with_mem hx with rfl | hx
  · exact hg
  · exact h x hx
theorem with_names {l : List Giv} {g : Giv} (h : ShortN l) (hg : g.name.size ≤ 1000000) : ShortN (withA l g) := fun x hx => by
  rcases with_mem hx with rfl | hx
  · exact hg
  · exact h x hx
theorem right_one {g : Giv} (h : rightA [g] = 0) : attrB ⟨g.cat, g.name, false⟩ = true ∧ bagB g.bag = true := (right_iff.1 h).2.1 g (by simp)
theorem with_getE {l : List Giv} {g : Giv} {a : Atr} (h : ¬ (a.cat = g.cat ∧ a.name = g.name)) : getE (withA l g) a = getE l a := by
  unfold getE getB
  rw [with_other h]
theorem with_getR {l : List Giv} {g : Giv} {a : Atr} (h : ¬ (a.cat = g.cat ∧ a.name = g.name)) : getR (withA l g) a = getR l a := by
  unfold getR
  rw [with_getE h]
  unfold getB
  rw [with_other h]
theorem with_get {l : List Giv} {g : Giv} : getE (withA l g) ⟨g.cat, g.name, false⟩ = 0 ∧ getR (withA l g) ⟨g.cat, g.name, false⟩ = g.bag := by
  have e : getE (withA l g) ⟨g.cat, g.name, false⟩ = 0 := by unfold getE; simp
  refine ⟨e, ?_⟩
  unfold getR
  rw [if_pos e]
  exact with_idx.2.1
end Go.Proofs.Ytincnopaclmppaa
/- bailiffbook.Same over values: of a list and itself. -/
namespace Go.Proofs.Ytincnopaclmppaa
set_option linter.unusedVariables false
open Go.RowKit

set_option maxHeartbeats 800000 in
theorem vsame_any {w : World} {B B' n c c' : Nat} {A A' : Option Addr} {l : List Vl} (h : Vs w B A n c l) (h' : Vs w B' A' n c' l) :
    Calls Try.prog 21 #[.slice A n c, .slice A' n c'] w fun e w' => e = .returned (.bool true) ∧ ∃ k, w' = w.drewN k := by
  have hcap := h.2.2.1
  have hle := h.2.1
  have hle' := h'.2.1
  unfold maxLen at hcap
  have H := Lib.hid h
  have H' := Lib.hid h'
  clear h h'
  go_enter Try.func21, Try.ntmps21
  go_wp2
  go_loopw [5] (fun i wr => ∃ k : Nat, k ≤ n ∧ i = .int .i64 k ∧ ∃ q, wr = w.drewN q) (fun i _ => n - (intOf i).toNat)
  case atStart => exact ⟨0, Nat.zero_le _, rfl, 0, rfl⟩
  case round =>
    obtain ⟨k, hk, rfl, q, rfl⟩ := hrel
    by_cases hlt : k < n
    · obtain ⟨b, o, x, rfl, _, hx, _, x0, x1, x2⟩ := H.out.at_ hlt
      obtain ⟨b', o', y, rfl, _, hy, _, y0, y1, y2⟩ := H'.out.at_ hlt
      obtain rfl := Option.some.inj (hx.symm.trans hy)
      obtain ⟨kx, nx, sx⟩ := x
      have hve := val_eq kx nx kx nx sx sx
      rw [veq_true rfl] at hve
      clear hx hy
      go_wp2_with fail
      go_quiet (fail)
      go_wp2
      go_roundw
      case rel => exact ⟨k + 1, by omega, by go_num, _, rfl⟩
      case measure => simp [intOf]; omega
    · obtain rfl : k = n := by omega
      go_wp2
      go_ret
      exact ⟨rfl, _, rfl⟩
end Go.Proofs.Ytincnopaclmppaa
/- bailiffkeep.SameAsks, of two requests that say the same. -/
namespace Go.Proofs.Ytincnopaclmppaa
set_option linter.unusedVariables false
open Go.RowKit Go.Sort

/-- Same, of two rows that say the same. -/
theorem bsame_any {w : World} {R R' : Nat → Prop} {A A' : Option Addr} {n n' c c' : Nat} {l : List Vl} (h : Vls w R A n c l) (h' : Vls w R' A' n' c' l) :
    Calls Try.prog 21 #[.slice A n c, .slice A' n' c'] w fun e w' => e = .returned (.bool true) ∧ Below w.heap.size w w' := by
  obtain rfl : n = n' := by rw [← Rw.len h, ← Rw.len h']
  exact (vsame_any h.vs h'.vs).mono fun e w' ⟨he, k, hk⟩ => ⟨he, by rw [hk]; exact below_drewN (Below.refl _ _) k⟩

set_option maxRecDepth 100000 in
set_option maxHeartbeats 4000000 in
theorem same_asks {w : World} {R R' : Nat → Prop} {A A' : Option Addr} {n n' c c' : Nat} {l : List Giv} (h : Gvs w R A n c l) (h' : Gvs w R' A' n' c' l) :
    Calls Try.prog 23 #[.slice A n c, .slice A' n' c'] w fun e w' => e = .returned (.bool true) ∧ Below w.heap.size w w' := by
  obtain rfl : n = n' := by rw [← Rw.len h, ← Rw.len h']
  have hle := Rw.le h
  have hcap := Rw.cap h
  have hle' := Rw.le h'
  unfold maxLen at hcap
  have HL := Lib.hid (Rw.len h)
  have H := Lib.hid (fun W (hW : Below w.heap.size w W) => h.keep (Kept.all hW R) (fun _ h _ => h))
  have H' := Lib.hid (fun W (hW : Below w.heap.size w W) => h'.keep (Kept.all hW R') (fun _ h _ => h))
  clear h h'
  go_enter Try.func23, Try.ntmps23
  go_wp2
  go_loopw [13] (fun i wr => ∃ k : Nat, k ≤ n ∧ i = .int .i64 k ∧ Below w.heap.size w wr) (fun i _ => n - (intOf i).toNat)
  case atStart => exact ⟨0, Nat.zero_le _, rfl, Below.refl _ _⟩
  case round =>
    obtain ⟨k, hk, rfl, hb⟩ := hrel
    have HB := Lib.hid hb
    clear hb
    by_cases hlt : k < n
    · obtain ⟨b, o, x, Ax, nx, cx, rfl, _, _, hx, _, ⟨x0, x1, x2⟩, hin⟩ := (H.out wr HB.out).at_ hlt
      obtain ⟨b', o', y, Ay, ny, cy, rfl, _, _, hy, _, ⟨y0, y1, y2⟩, hin'⟩ := (H'.out wr HB.out).at_ hlt
      obtain rfl := Option.some.inj (hx.symm.trans hy)
      obtain ⟨xc, xn, xb⟩ := x
      simp only at x0 x1 x2 y0 y1 y2 hin hin'
      have I1 := Lib.hid hin
      have I2 := Lib.hid hin'
      have Q1 : Hid (∀ d os, Calls Try.prog 21 #[.slice Ax nx cx, .slice Ay ny cy] (grow (redrawn wr d) os) fun e w'' => e = .returned (.bool true) ∧ ∃ p : Regrown, w'' = grow (redrawn wr p.d) p.os) :=
        fun d os => Calls.regrown_of (bsame_any (I1.out.keep (Kept.all (below_regrown wr d os) R) (fun _ h _ => h)) (I2.out.keep (Kept.all (below_regrown wr d os) R') (fun _ h _ => h)))
      have x0' := fun d os => cell_regrown x0 d os
      have x1' := fun d os => cell_regrown x1 d os
      have x2' := fun d os => cell_regrown x2 d os
      have y0' := fun d os => cell_regrown y0 d os
      have y1' := fun d os => cell_regrown y1 d os
      have y2' := fun d os => cell_regrown y2 d os
      clear hx hy hin hin' x0 x1 x2 y0 y1 y2
      go_wp2_with fail
      refine wp_region_quiet_below (by kernel_rfl) (by kernel_rfl) ?_
      repeat (go_big_quiet_step ((go_at_call 21; exact Q1.out _ _)))
      refine wpQuiet_nil ?_
      intro _ hw'
      obtain ⟨⟨dq, osq⟩, hw''⟩ := hw'
      subst hw''
      have BQ := Lib.hid (HB.out.trans ((below_regrown wr dq osq).mono HB.out.size))
      clear x0' x1' x2' y0' y1' y2' Q1
      generalize grow (redrawn wr dq) osq = w5 at *
      go_wp2_with fail
      go_roundw
      case rel => exact ⟨k + 1, by omega, by go_num, BQ.out⟩
      case measure => simp [intOf]; omega
    · obtain rfl : k = n := by omega
      go_wp2
      go_ret
      exact ⟨rfl, HB.out⟩
end Go.Proofs.Ytincnopaclmppaa
/- bailiffbook.Within: a number brought between two bounds. -/
namespace Go.Proofs.Ytincnopaclmppaa
open Go.RowKit

def withinOf (n lo hi : Int) : Int := lo + n % (hi - lo + 1)
theorem within_le {n lo hi : Int} (h : lo ≤ hi) : lo ≤ withinOf n lo hi ∧ withinOf n lo hi ≤ hi := by
  unfold withinOf
  have h1 := Int.emod_nonneg n (b := hi - lo + 1) (by omega)
  have h2 := Int.emod_lt_of_pos n (b := hi - lo + 1) (by omega)
  omega

theorem tmod_emod {n m : Int} (hm : 0 < m) : -m ≤ n.tmod m ∧ n.tmod m < m ∧ ((n.tmod m < 0 ∧ n % m = n.tmod m + m) ∨ (0 ≤ n.tmod m ∧ n % m = n.tmod m)) := by
  have h1 := Int.emod_nonneg n (b := m) (by omega)
  have h2 := Int.emod_lt_of_pos n hm
  have e := Int.tmod_eq_emod (a := n) (b := m)
  split at e
  · omega
  · rw [Int.natAbs_of_nonneg (by omega)] at e
    omega

set_option maxHeartbeats 800000 in
theorem within_any {n lo hi : Int} {w : World} (h0 : 0 ≤ lo) (h1 : lo ≤ hi) (h2 : hi ≤ 4611686018427387904) :
    Calls Try.prog 10 #[.int .i64 n, .int .i64 lo, .int .i64 hi] w fun e w' => e = .returned (.int .i64 (withinOf n lo hi)) ∧ w = w' := by
  have hm := tmod_emod (n := n) (m := hi - lo + 1) (by omega)
  obtain ⟨hl, hb, hm⟩ := hm
  have HM := Lib.hid hm
  clear hm
  by_cases hneg : n.tmod (hi - lo + 1) < 0
  all_goals
    go_enter Try.func10, Try.ntmps10
    go_wp2_with fail
    go_ret
    refine ⟨ret_int ?_, rfl⟩
    have := HM.out
    unfold withinOf
    omega
end Go.Proofs.Ytincnopaclmppaa
/- Arguments that come in: a slice of bytes as Sl. -/
namespace Go.Proofs.Ytincnopaclmppaa
set_option linter.unusedVariables false
open Go.RowKit Go.ChangeShapes Go.WideShapes

theorem cell_lt {w : World} {p : Addr} {v : Value} (h : w.cell? p = some v) : p.block < w.heap.size := by
  rcases Nat.lt_or_ge p.block w.heap.size with hlt | hge
  · exact hlt
  · simp [World.cell?, Array.getElem?_eq_none hge] at h

theorem open_bytes {H : Type} {enc : TypeId × Value → H} {P : Program} {w : World} {base n c : Nat} {spare : Nat → Bool} {held : Bool} {t e : TypeId} {A : Option Addr} {d : DataW H} {p : List MemPlace}
    (ht : P.underlying t = some (.slice e)) (he : P.underlying e = some (.int .u8)) (hc : P.cellsOf e = 1) (h : DataW.Trod enc P w base spare held t (.slice A n c) d p) : ∃ l, Sl w w.heap.size A n c (bv l) := by
  obtain ⟨fuel, hf⟩ := h
  rcases open_ints ht he hc hf with ⟨hcs, _⟩ | ⟨a, len, cap, zs, hcs, _, hl, hm, hz, _, hcell, hwz⟩
  · simp [Value.cells] at hcs
    obtain ⟨rfl, rfl, rfl⟩ := hcs
    exact ⟨[], Sl.nil_ w _⟩
  · simp [Value.cells] at hcs
    obtain ⟨rfl, rfl, rfl⟩ := hcs
    have hzl : n ≤ zs.length := by rw [hz]; split <;> omega
    have hb : ∀ z ∈ zs, ((UInt8.ofNat z.toNat).toNat : Int) = z := by
      intro z hz'
      have := hwz z hz'
      simp only [Lit.wf, Bool.and_eq_true, decide_eq_true_eq] at this
      have h1 : (0 : Int) ≤ z := this.1
      have h2 : z ≤ 255 := this.2
      simp
      omega
    refine ⟨(zs.take n).map fun z => UInt8.ofNat z.toNat, by simp [bv]; omega, hl, hm, ?_⟩
    by_cases h0 : n = 0
    · exact .inl h0
    · right
      obtain ⟨b, o, spot⟩ := a
      have h00 := hcell 0 (by omega)
      have hspot : spot = none := by simpa [Addr.add] using World.cell?_spot h00
      subst hspot
      refine ⟨b, o, rfl, by have := cell_lt h00; simpa [Addr.add] using this, fun j u hj => ?_⟩
      have hjn : j < n := by
        rcases Nat.lt_or_ge j n with hlt | hge
        · exact hlt
        · rw [List.getElem?_eq_none (by simp [bv]; omega)] at hj; cases hj
      have hcj := hcell j (by omega)
      have ha : (⟨b, o, none⟩ : Addr).add j = ⟨b, o + j, none⟩ := by
        by_cases hj0 : j = 0 <;> simp [Addr.add, hj0]
      rw [ha] at hcj
      rw [hcj, ← hj]
      simp only [bv, List.map_map, List.getElem?_map, List.getElem?_take, hjn, if_true]
      rw [List.getElem?_eq_getElem (by omega : j < zs.length)]
      simp only [Option.map_some, Function.comp, List.getD, List.getElem?_eq_getElem (by omega : j < zs.length), Option.getD_some]
      rw [hb _ (List.getElem_mem _)]

theorem own_empty (w : World) (base e : Nat) (hb : base ≤ w.heap.size) : (w.alloc (.cells #[] e)).ownsRow base e 1 (.slice (some ⟨w.heap.size, 0, none⟩) 0 0) 0 [] :=
  ⟨rfl, .inr ⟨w.heap.size, 0, #[], rfl, hb, heap_alloc_new w _, Nat.le_refl _, by simp [maxLen], rfl, rfl⟩⟩

/-- An append whose run is known, under a guard that says yes. -/
theorem wpList_append_want {P : Program} {w w' : World} {ops : Array Oper} {rest : List Oper} {o : Oper} {a : Act} {Q : Exit → Act → World → Prop} (hgd : Region.wanted o (yielded ops a.tmps) = true) (s x : Operand) (t u : TypeId)
    (ho : o.op = .call { callee := .builtin .append, args := #[s, x], argTypes := #[t, u] }) {sv xv v' : Value} (hs : a.eval s = sv) (hx : a.eval x = xv)
    (hrun : (Builtin.append_ #[t, u] o.type #[sv, xv]).run P w = .ok v' w') (h : wpList P ops Q rest (a.put o.dst v') w') : wpList P ops Q (o :: rest) a w := by
  refine BigFrame.wpList_want hgd fun K hK => ?_
  unfold Oper.wp execOp
  simp only [ho, resolve, invoke, builtin, Sem.run_bind, Sem.run_pure, Result.andThen_ok, List.map_toArray, List.map_cons, List.map_nil, hs, hx, hrun]
  exact hK _ _ h
end Go.Proofs.Ytincnopaclmppaa
/- Rows of structs that come in: what any of them asks. -/
namespace Go.Proofs.Ytincnopaclmppaa
set_option linter.unusedVariables false
open Go.RowKit Go.ChangeShapes Go.WideShapes

section
variable {H : Type} {enc : TypeId × Value → H} {w : World} {base : Nat} {spare : Nat → Bool} {held : Bool}

/-- A datum whose strings, slices are no greater than may be. -/
def Wt (P : Program) (t : TypeId) (d : DataW H) : Prop := (d.weights P t).all (fun x => decide (x ≤ reachBytes)) = true
theorem wt_all {P : Program} {e : TypeId} : ∀ {l : List (DataW H)}, (DataW.weightsAll P e l).all (fun x => decide (x ≤ reachBytes)) = true → ∀ d ∈ l, Wt P e d
  | [], _, d, hd => by cases hd
  | x :: l, h, d, hd => by
    rw [DataW.weightsAll, List.all_append, Bool.and_eq_true] at h
    rcases List.mem_cons.1 hd with rfl | hd
    · exact h.1
    · exact wt_all h.2 d hd
theorem wt_slice {P : Program} {t e : TypeId} {a b : List (DataW H)} (ht : P.underlying t = some (.slice e)) (h : Wt P t (.slice a b)) : (a.length + b.length) * P.bytesOf e ≤ reachBytes ∧ ∀ d ∈ a, Wt P e d := by
  unfold Wt at h
  rw [DataW.weights] at h
  simp only [ht] at h
  rw [List.all_cons, List.all_append, Bool.and_eq_true, Bool.and_eq_true] at h
  exact ⟨by simpa using h.1, wt_all h.2.1⟩
theorem wt_each {P : Program} : ∀ {ts : List TypeId} {ds : List (DataW H)}, (DataW.weightsEach P ts ds).all (fun x => decide (x ≤ reachBytes)) = true → ∀ (i : Nat) t d, ts[i]? = some t → ds[i]? = some d → Wt P t d
  | [], _, _, _, _, _, ht, _ => by simp at ht
  | _ :: _, [], _, _, _, _, _, hd => by simp at hd
  | t :: ts, d :: ds, h, 0, t', d', ht, hd => by
    rw [DataW.weightsEach, List.all_append, Bool.and_eq_true] at h
    simp at ht hd
    subst ht hd
    exact h.1
  | t :: ts, d :: ds, h, i + 1, t', d', ht, hd => by
    rw [DataW.weightsEach, List.all_append, Bool.and_eq_true] at h
    exact wt_each h.2 i t' d' (by simpa using ht) (by simpa using hd)
theorem wt_struct {P : Program} {t : TypeId} {fs : Array Field} {parts : List (DataW H)} (ht : P.underlying t = some (.struct fs)) (h : Wt P t (.agg parts)) (i : Nat) (f : Field) (d : DataW H) (hf : fs[i]? = some f) (hd : parts[i]? = some d) : Wt P f.type d := by
  unfold Wt at h
  rw [DataW.weights] at h
  simp only [ht] at h
  exact wt_each h i f.type d (by simp [hf]) hd
theorem open_rows {P : Program} {α : Type} [Inhabited α] {e t : TypeId} {k fuel n c : Nat} {A : Option Addr} {x : DataW H × List MemPlace} {Pn : List Value → α → Prop} (ht : P.underlying t = some (.slice e)) (hC : P.cellsOf e = k) (hk : 0 < k)
    (hby : 0 < P.bytesOf e) (hel : ∀ m cs y, m < fuel → cs.length = k → Wt P e y.1 → DataW.trod enc P w base spare held m e cs = some y → ∃ z, Pn cs z) (hwt : Wt P t x.1) (h : DataW.trod enc P w base spare held fuel t [.slice A n c] = some x) : ∃ l, Rw k Pn w (fun _ => True) A n c l := by
  rcases DataW.trod_slice ht h with ⟨hcs, _⟩ | ⟨a, len, cap, elems, rest, m, hfu, hcs, hxe, hb, hl, hm, hlen, hx, _⟩
  · simp at hcs
    obtain ⟨rfl, rfl, rfl⟩ := hcs
    exact ⟨[], Rw.nil_ _ _ _ _⟩
  · simp at hcs
    obtain ⟨rfl, rfl, rfl⟩ := hcs
    subst hxe
    obtain ⟨hw1, hw2⟩ := wt_slice ht hwt
    have hbig : n ≤ 140737488351232 := by
      rw [List.length_map, List.length_map, hlen] at hw1
      have e1 : n * 1 ≤ (n + rest.length) * P.bytesOf e := Nat.mul_le_mul (by omega) hby
      have e2 : reachBytes = 140737488351232 := rfl
      omega
    have hall : ∀ i, i < n → ∃ z : α, ∃ cs : List Value, cs.length = k ∧ (∀ j, j < k → w.cell? ((a.add (i * k)).add j) = cs[j]?) ∧ Pn cs z := fun i hin => by
      have hi := hx i hin
      rw [hC, List.getElem?_eq_getElem (by omega)] at hi
      obtain ⟨cs, hc, hy⟩ := Option.bind_eq_some_iff.1 hi
      obtain ⟨_, hcl, hat⟩ := World.cells?_some hc
      obtain ⟨z, hz⟩ := hel m cs _ (by omega) hcl (hw2 _ (List.mem_map.2 ⟨_, List.getElem_mem (by omega), rfl⟩)) hy
      exact ⟨z, cs, hcl, hat, hz⟩
    obtain ⟨V, hV⟩ := Go.Deep.choose_lt hall
    refine ⟨(List.range n).map V, by simp, hl, ⟨hm, hbig⟩, ?_⟩
    by_cases h0 : n = 0
    · exact .inl h0
    · right
      obtain ⟨b, o, spot⟩ := a
      obtain ⟨cs0, hl0, hat0, _⟩ := hV 0 (by omega)
      have h00 := hat0 0 hk
      rw [List.getElem?_eq_getElem (by omega)] at h00
      have hspot : spot = none := by simpa [Addr.add] using World.cell?_spot h00
      subst hspot
      refine ⟨b, o, rfl, trivial, by have := cell_lt h00; simpa [Addr.add] using this, fun j x hj => ?_⟩
      rw [List.getElem?_map, Option.map_eq_some_iff] at hj
      obtain ⟨i, hi', rfl⟩ := hj
      have hjn : j < n := by have := (List.getElem?_eq_some_iff.1 hi').1; simpa using this
      have hij : i = j := by rw [List.getElem?_range hjn] at hi'; exact (Option.some.inj hi').symm
      subst hij
      obtain ⟨cs, hcl, hat, hz⟩ := hV i hjn
      refine ⟨cs, hcl, fun q v hq => ?_, hz⟩
      have hqk : q < k := by have := (List.getElem?_eq_some_iff.1 hq).1; omega
      have add : ∀ i k : Nat, ((⟨b, o, none⟩ : Addr).add i).add k = ⟨b, o + i + k, none⟩ := by
        intro i k
        by_cases hi0 : i = 0 <;> by_cases hk0 : k = 0 <;> simp [Addr.add, hi0, hk0]
      have := hat q hqk
      rw [add] at this
      rw [this, hq]

theorem len3 {α : Type} {cs : List α} (h : cs.length = 3) : ∃ v0 v1 v2, cs = [v0, v1, v2] := by
  match cs, h with
  | [v0, v1, v2], _ => exact ⟨v0, v1, v2, rfl⟩
theorem len5 {α : Type} {cs : List α} (h : cs.length = 5) : ∃ v0 v1 v2 v3 v4, cs = [v0, v1, v2, v3, v4] := by
  match cs, h with
  | [v0, v1, v2, v3, v4], _ => exact ⟨v0, v1, v2, v3, v4, rfl⟩
theorem len7 {α : Type} {cs : List α} (h : cs.length = 7) : ∃ v0 v1 v2 v3 v4 v5 v6, cs = [v0, v1, v2, v3, v4, v5, v6] := by
  match cs, h with
  | [v0, v1, v2, v3, v4, v5, v6], _ => exact ⟨v0, v1, v2, v3, v4, v5, v6, rfl⟩
theorem fields3 {P : Program} {e : TypeId} {f0 f1 f2 : Field} {fuel : Nat} {cs : List Value} {x : DataW H × List MemPlace} (he : P.underlying e = some (.struct #[f0, f1, f2])) (hwt : Wt P e x.1) (h : DataW.trod enc P w base spare held fuel e cs = some x) :
    ∃ m, fuel = m + 1 ∧ cs.length = P.cellsOf e ∧ ∃ y0 y1 y2, (Wt P f0.type y0.1 ∧ Wt P f1.type y1.1 ∧ Wt P f2.type y2.1) ∧ DataW.trod enc P w base spare held m f0.type ((cs.drop f0.offset).take (P.cellsOf f0.type)) = some y0 ∧ DataW.trod enc P w base spare held m f1.type ((cs.drop f1.offset).take (P.cellsOf f1.type)) = some y1 ∧ DataW.trod enc P w base spare held m f2.type ((cs.drop f2.offset).take (P.cellsOf f2.type)) = some y2 := by
  obtain ⟨ys, n', hn', hy, hlen, hyl, hf⟩ := DataW.trod_struct he h
  subst hy
  have hw := fun i f d => wt_struct he hwt i f d
  have ysn : ys.length = 3 := hyl
  match ys, ysn with
  | [y0, y1, y2], _ => exact ⟨n', hn', hlen, y0, y1, y2, ⟨hw 0 _ _ rfl rfl, hw 1 _ _ rfl rfl, hw 2 _ _ rfl rfl⟩, hf 0 _ rfl, hf 1 _ rfl, hf 2 _ rfl⟩
theorem fields5 {P : Program} {e : TypeId} {f0 f1 f2 f3 f4 : Field} {fuel : Nat} {cs : List Value} {x : DataW H × List MemPlace} (he : P.underlying e = some (.struct #[f0, f1, f2, f3, f4])) (hwt : Wt P e x.1) (h : DataW.trod enc P w base spare held fuel e cs = some x) :
    ∃ m, fuel = m + 1 ∧ cs.length = P.cellsOf e ∧ ∃ y0 y1 y2 y3 y4, (Wt P f0.type y0.1 ∧ Wt P f1.type y1.1 ∧ Wt P f2.type y2.1 ∧ Wt P f3.type y3.1 ∧ Wt P f4.type y4.1) ∧ DataW.trod enc P w base spare held m f0.type ((cs.drop f0.offset).take (P.cellsOf f0.type)) = some y0 ∧ DataW.trod enc P w base spare held m f1.type ((cs.drop f1.offset).take (P.cellsOf f1.type)) = some y1 ∧ DataW.trod enc P w base spare held m f2.type ((cs.drop f2.offset).take (P.cellsOf f2.type)) = some y2 ∧ DataW.trod enc P w base spare held m f3.type ((cs.drop f3.offset).take (P.cellsOf f3.type)) = some y3 ∧ DataW.trod enc P w base spare held m f4.type ((cs.drop f4.offset).take (P.cellsOf f4.type)) = some y4 := by
  obtain ⟨ys, n', hn', hy, hlen, hyl, hf⟩ := DataW.trod_struct he h
  subst hy
  have hw := fun i f d => wt_struct he hwt i f d
  have ysn : ys.length = 5 := hyl
  match ys, ysn with
  | [y0, y1, y2, y3, y4], _ => exact ⟨n', hn', hlen, y0, y1, y2, y3, y4, ⟨hw 0 _ _ rfl rfl, hw 1 _ _ rfl rfl, hw 2 _ _ rfl rfl, hw 3 _ _ rfl rfl, hw 4 _ _ rfl rfl⟩, hf 0 _ rfl, hf 1 _ rfl, hf 2 _ rfl, hf 3 _ rfl, hf 4 _ rfl⟩
theorem fields7 {P : Program} {e : TypeId} {f0 f1 f2 f3 f4 f5 f6 : Field} {fuel : Nat} {cs : List Value} {x : DataW H × List MemPlace} (he : P.underlying e = some (.struct #[f0, f1, f2, f3, f4, f5, f6])) (hwt : Wt P e x.1) (h : DataW.trod enc P w base spare held fuel e cs = some x) :
    ∃ m, fuel = m + 1 ∧ cs.length = P.cellsOf e ∧ ∃ y0 y1 y2 y3 y4 y5 y6, (Wt P f0.type y0.1 ∧ Wt P f1.type y1.1 ∧ Wt P f2.type y2.1 ∧ Wt P f3.type y3.1 ∧ Wt P f4.type y4.1 ∧ Wt P f5.type y5.1 ∧ Wt P f6.type y6.1) ∧ DataW.trod enc P w base spare held m f0.type ((cs.drop f0.offset).take (P.cellsOf f0.type)) = some y0 ∧ DataW.trod enc P w base spare held m f1.type ((cs.drop f1.offset).take (P.cellsOf f1.type)) = some y1 ∧ DataW.trod enc P w base spare held m f2.type ((cs.drop f2.offset).take (P.cellsOf f2.type)) = some y2 ∧ DataW.trod enc P w base spare held m f3.type ((cs.drop f3.offset).take (P.cellsOf f3.type)) = some y3 ∧ DataW.trod enc P w base spare held m f4.type ((cs.drop f4.offset).take (P.cellsOf f4.type)) = some y4 ∧ DataW.trod enc P w base spare held m f5.type ((cs.drop f5.offset).take (P.cellsOf f5.type)) = some y5 ∧ DataW.trod enc P w base spare held m f6.type ((cs.drop f6.offset).take (P.cellsOf f6.type)) = some y6 := by
  obtain ⟨ys, n', hn', hy, hlen, hyl, hf⟩ := DataW.trod_struct he h
  subst hy
  have hw := fun i f d => wt_struct he hwt i f d
  have ysn : ys.length = 7 := hyl
  match ys, ysn with
  | [y0, y1, y2, y3, y4, y5, y6], _ => exact ⟨n', hn', hlen, y0, y1, y2, y3, y4, y5, y6, ⟨hw 0 _ _ rfl rfl, hw 1 _ _ rfl rfl, hw 2 _ _ rfl rfl, hw 3 _ _ rfl rfl, hw 4 _ _ rfl rfl, hw 5 _ _ rfl rfl, hw 6 _ _ rfl rfl⟩, hf 0 _ rfl, hf 1 _ rfl, hf 2 _ rfl, hf 3 _ rfl, hf 4 _ rfl, hf 5 _ rfl, hf 6 _ rfl⟩
theorem slice_cells {P : Program} {t e : TypeId} {m : Nat} {v : Value} {y : DataW H × List MemPlace} (ht : P.underlying t = some (.slice e)) (h : DataW.trod enc P w base spare held m t [v] = some y) : ∃ A n c, v = .slice A n c := by
  rcases DataW.trod_slice ht h with ⟨hcs, _⟩ | ⟨a, len, cap, elems, rest, m, hfu, hcs, _⟩
  · exact ⟨none, 0, 0, by simpa using hcs⟩
  · exact ⟨some a, len, cap, by simpa using hcs⟩
theorem open_struct {P : Program} {t : TypeId} {fs : Array Field} {r : Reach} {b0 : Nat} {v : Value} {d : DataW H} {p : List MemPlace} (hs : P.underlying t = some (.struct fs)) (hv : Value.okWide P w r b0 t v) (h : DataW.Trod enc P w base spare held t v d p) :
    ∃ (cs : List Value) (m : Nat), v = .agg cs.toArray ∧ DataW.trod enc P w base spare held m t cs = some (d, p) := by
  obtain ⟨cs, rfl, hsz⟩ := WideShapes.okWide_struct hs hv
  obtain ⟨m, hm⟩ := h
  exact ⟨cs.toList, m, by simp, hm⟩
end
end Go.Proofs.Ytincnopaclmppaa
/- Values and attributes that come in. -/
namespace Go.Proofs.Ytincnopaclmppaa
set_option linter.unusedVariables false
open Go.RowKit Go.ChangeShapes Go.WideShapes

instance : Inhabited Atr := ⟨zeroA⟩
section
variable {H : Type} {enc : TypeId × Value → H} {w : World} {base : Nat} {spare : Nat → Bool} {held : Bool}

theorem open_atr_cells {m : Nat} {cs : List Value} {y : DataW H × List MemPlace} (hwt : Wt Try.prog 44 y.1) (h : DataW.trod enc Try.prog w base spare held m 44 cs = some y) : ∃ a : Atr, cs = a.cells ∧ a.ok := by
  obtain ⟨m', _, hlen, y0, y1, y2, ⟨q0, q1, q2⟩, g0, g1, g2⟩ := fields3 Try.underlying44 hwt h
  obtain ⟨v0, v1, v2, rfl⟩ := len3 (hlen.trans (show Try.prog.cellsOf 44 = 3 by kernel_rfl))
  have g0 : DataW.trod enc Try.prog w base spare held m' 3 (([v0, v1, v2] : List Value).drop 0 |>.take (Try.prog.cellsOf 3)) = some y0 := g0
  rw [show Try.prog.cellsOf 3 = 1 by kernel_rfl] at g0
  have g1 : DataW.trod enc Try.prog w base spare held m' 9 (([v0, v1, v2] : List Value).drop 1 |>.take (Try.prog.cellsOf 9)) = some y1 := g1
  rw [show Try.prog.cellsOf 9 = 1 by kernel_rfl] at g1
  have g2 : DataW.trod enc Try.prog w base spare held m' 4 (([v0, v1, v2] : List Value).drop 2 |>.take (Try.prog.cellsOf 4)) = some y2 := g2
  rw [show Try.prog.cellsOf 4 = 1 by kernel_rfl] at g2
  obtain ⟨x0, e0, _, w0⟩ := DataW.trod_int Try.underlying3 (show DataW.trod enc Try.prog w base spare held m' 3 [v0] = some y0 from g0)
  obtain ⟨x1, e1, _, w1⟩ := DataW.trod_string Try.underlying9 (show DataW.trod enc Try.prog w base spare held m' 9 [v1] = some y1 from g1)
  obtain ⟨x2, e2, _⟩ := DataW.trod_bool Try.underlying4 (show DataW.trod enc Try.prog w base spare held m' 4 [v2] = some y2 from g2)
  injection e0 with e0
  injection e1 with e1
  injection e2 with e2
  subst e0 e1 e2
  exact ⟨⟨x0, x1, x2⟩, rfl, wf_bounds w0, w1⟩
theorem open_vl_cells {m : Nat} {cs : List Value} {y : DataW H × List MemPlace} (hwt : Wt Try.prog 57 y.1) (h : DataW.trod enc Try.prog w base spare held m 57 cs = some y) : ∃ a : Vl, cs = a.cells ∧ a.ok := by
  obtain ⟨m', _, hlen, y0, y1, y2, ⟨q0, q1, q2⟩, g0, g1, g2⟩ := fields3 Try.underlying57 hwt h
  obtain ⟨v0, v1, v2, rfl⟩ := len3 (hlen.trans (show Try.prog.cellsOf 57 = 3 by kernel_rfl))
  have g0 : DataW.trod enc Try.prog w base spare held m' 3 (([v0, v1, v2] : List Value).drop 0 |>.take (Try.prog.cellsOf 3)) = some y0 := g0
  rw [show Try.prog.cellsOf 3 = 1 by kernel_rfl] at g0
  have g1 : DataW.trod enc Try.prog w base spare held m' 3 (([v0, v1, v2] : List Value).drop 1 |>.take (Try.prog.cellsOf 3)) = some y1 := g1
  rw [show Try.prog.cellsOf 3 = 1 by kernel_rfl] at g1
  have g2 : DataW.trod enc Try.prog w base spare held m' 9 (([v0, v1, v2] : List Value).drop 2 |>.take (Try.prog.cellsOf 9)) = some y2 := g2
  rw [show Try.prog.cellsOf 9 = 1 by kernel_rfl] at g2
  obtain ⟨x0, e0, _, w0⟩ := DataW.trod_int Try.underlying3 (show DataW.trod enc Try.prog w base spare held m' 3 [v0] = some y0 from g0)
  obtain ⟨x1, e1, _, w1⟩ := DataW.trod_int Try.underlying3 (show DataW.trod enc Try.prog w base spare held m' 3 [v1] = some y1 from g1)
  obtain ⟨x2, e2, _, w2⟩ := DataW.trod_string Try.underlying9 (show DataW.trod enc Try.prog w base spare held m' 9 [v2] = some y2 from g2)
  injection e0 with e0
  injection e1 with e1
  injection e2 with e2
  subst e0 e1 e2
  exact ⟨⟨x0, x1, x2⟩, rfl, wf_bounds w0, wf_bounds w1, w2⟩
set_option maxRecDepth 100000 in
theorem open_atr {r : Reach} {b0 : Nat} {v : Value} {d : DataW H} {p : List MemPlace} (hv : Value.okWide Try.prog w r b0 44 v) (hwt : Wt Try.prog 44 d) (h : DataW.Trod enc Try.prog w base spare held 44 v d p) : ∃ a : Atr, v = .agg #[.int .i64 a.cat, .string a.name, .bool a.must] ∧ a.ok := by
  obtain ⟨cs, m, rfl, hm⟩ := open_struct Try.underlying44 hv h
  obtain ⟨a, rfl, hok⟩ := open_atr_cells hwt hm
  exact ⟨a, rfl, hok⟩
end
end Go.Proofs.Ytincnopaclmppaa
/- Requests that come in. -/
namespace Go.Proofs.Ytincnopaclmppaa
set_option linter.unusedVariables false
open Go.RowKit Go.ChangeShapes Go.WideShapes

instance : Inhabited Vl := ⟨⟨0, 0, ByteArray.empty⟩⟩
section
variable {H : Type} {enc : TypeId × Value → H} {w : World} {base : Nat} {spare : Nat → Bool} {held : Bool}
theorem bytes_val : Try.prog.bytesOf 57 = 32 := by kernel_rfl
theorem bytes_giv : Try.prog.bytesOf 49 = 48 := by kernel_rfl
theorem open_vls_f {m n c : Nat} {A : Option Addr} {x : DataW H × List MemPlace} (hwt : Wt Try.prog 40 x.1) (h : DataW.trod enc Try.prog w base spare held m 40 [.slice A n c] = some x) : ∃ l, Vls w (fun _ => True) A n c l :=
  open_rows Try.underlying40 (by kernel_rfl) (by omega) (by rw [bytes_val]; omega) (fun m cs y _ _ q h => open_vl_cells q h) hwt h
theorem open_giv_cells {m : Nat} {cs : List Value} {y : DataW H × List MemPlace} (hwt : Wt Try.prog 49 y.1) (h : DataW.trod enc Try.prog w base spare held m 49 cs = some y) : ∃ g : Giv, GivAt w (fun _ => True) cs g := by
  obtain ⟨m', _, hlen, y0, y1, y2, ⟨q0, q1, q2⟩, g0, g1, g2⟩ := fields3 Try.underlying49 hwt h
  obtain ⟨v0, v1, v2, rfl⟩ := len3 (hlen.trans (show Try.prog.cellsOf 49 = 3 by kernel_rfl))
  have g0 : DataW.trod enc Try.prog w base spare held m' 3 (([v0, v1, v2] : List Value).drop 0 |>.take (Try.prog.cellsOf 3)) = some y0 := g0
  rw [show Try.prog.cellsOf 3 = 1 by kernel_rfl] at g0
  have g1 : DataW.trod enc Try.prog w base spare held m' 9 (([v0, v1, v2] : List Value).drop 1 |>.take (Try.prog.cellsOf 9)) = some y1 := g1
  rw [show Try.prog.cellsOf 9 = 1 by kernel_rfl] at g1
  have g2 : DataW.trod enc Try.prog w base spare held m' 40 (([v0, v1, v2] : List Value).drop 2 |>.take (Try.prog.cellsOf 40)) = some y2 := g2
  rw [show Try.prog.cellsOf 40 = 1 by kernel_rfl] at g2
  obtain ⟨x0, e0, _, w0⟩ := DataW.trod_int Try.underlying3 (show DataW.trod enc Try.prog w base spare held m' 3 [v0] = some y0 from g0)
  obtain ⟨x1, e1, _, w1⟩ := DataW.trod_string Try.underlying9 (show DataW.trod enc Try.prog w base spare held m' 9 [v1] = some y1 from g1)
  injection e0 with e0
  injection e1 with e1
  subst e0 e1
  have g2 : DataW.trod enc Try.prog w base spare held m' 40 [v2] = some y2 := g2
  obtain ⟨A2, n2, c2, rfl⟩ := slice_cells Try.underlying40 g2
  obtain ⟨l2, h2⟩ := open_vls_f q2 g2
  exact ⟨⟨x0, x1, l2⟩, A2, n2, c2, rfl, ⟨wf_bounds w0, w1⟩, h2⟩
theorem open_givs_f {m n c : Nat} {A : Option Addr} {x : DataW H × List MemPlace} (hwt : Wt Try.prog 47 x.1) (h : DataW.trod enc Try.prog w base spare held m 47 [.slice A n c] = some x) : ∃ l, Gvs w (fun _ => True) A n c l :=
  open_rows Try.underlying47 (by kernel_rfl) (by omega) (by rw [bytes_giv]; omega) (fun m cs y _ _ q h => open_giv_cells q h) hwt h
theorem open_givs {n c : Nat} {A : Option Addr} {d : DataW H} {p : List MemPlace} (hwt : Wt Try.prog 47 d) (h : DataW.Trod enc Try.prog w base spare held 47 (.slice A n c) d p) : ∃ l, Gvs w (fun _ => True) A n c l := by
  obtain ⟨m, hm⟩ := h
  exact open_givs_f hwt hm
set_option maxRecDepth 100000 in
theorem open_giv {r : Reach} {b0 : Nat} {v : Value} {d : DataW H} {p : List MemPlace} (hv : Value.okWide Try.prog w r b0 49 v) (hwt : Wt Try.prog 49 d) (h : DataW.Trod enc Try.prog w base spare held 49 v d p) :
    ∃ (g : Giv) (A : Option Addr) (n c : Nat), v = .agg #[.int .i64 g.cat, .string g.name, .slice A n c] ∧ g.ok ∧ Vls w (fun _ => True) A n c g.bag := by
  obtain ⟨cs, m, rfl, hm⟩ := open_struct Try.underlying49 hv h
  obtain ⟨g, A, n, c, rfl, hok, hb⟩ := open_giv_cells hwt hm
  exact ⟨g, A, n, c, rfl, hok, hb⟩
end
end Go.Proofs.Ytincnopaclmppaa
