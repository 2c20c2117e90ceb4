/- bailiffkeep: how much of a policy may be gone through: obls. -/
import Derived.Test.YtjpkemamfccfdaaGreatDoorKeepLeft
namespace Go.Proofs.YtjpkemamfccfdaaGreatDoor
set_option linter.unusedVariables false
open Go.RowKit

def dutC (o : Dut) : Nat := textC o.arg
def dutsC (l : List Dut) : Nat := l.length + sumC dutC l
def matC (m : Mat) : Nat := textC m.a.name + textC m.v.s
def allC (l : List Mat) : Nat := 1 + l.length + sumC matC l
def anyC (l : List (List Mat)) : Nat := 1 + l.length + sumC allC l
def tgC (t : Tgt) : Nat := 1 + t.length + sumC anyC t


set_option maxHeartbeats 1600000 in
theorem kobls_any {w : World} {R : Nat → Prop} {g m n c : Nat} {A : Option Addr} {l : List Dut} (hl : Lf w g m) (hm : m ≤ 3000) (hR : ∀ b, R b → b ≠ g) (h : Dus w R A n c l) :
    Taking 38 #[.pointer (some ⟨g, 0, none⟩), .slice A n c] w g m (dutsC l) := by
  have hle := Rw.le h
  have hcap := Rw.cap h
  have HL := Lib.hid (Rw.len h)
  have HT := Lib.hid (takes_any (n := n) hl hm (by omega))
  have H := Lib.hid h
  have HR := Lib.hid hR
  have HM := Lib.hid hm
  unfold maxLen at hcap
  unfold Taking at HT ⊢
  have HC : Hid (dutsC l = n + sumC dutC l) := by show dutsC l = _; unfold dutsC; rw [HL.out]
  generalize hcc : dutsC l = cc at *
  clear hcc h hl hR hm
  by_cases h1 : n ≤ m
  · rw [decide_eq_true h1] at HT
    have H1 := Lib.hid h1
    clear h1
    go_enter Tryz.func38, Tryz.ntmps38
    go_wp2_with (go_at_call 35; refine HT.out.mono ?_; rintro e w1 ⟨rfl, hb, hw⟩; have B1 := Lib.hid hb; have W1 := Lib.hid (hw H1.out); clear hb hw)
    go_loopw [14] (fun i wr => ∃ k mk : Nat, k ≤ n ∧ i = .int .i64 k ∧ sumC dutC (l.take k) + mk = m - n ∧ Lf wr g mk ∧ Only g w wr) (fun i _ => n - (intOf i).toNat)
    case atStart => exact ⟨0, m - n, Nat.zero_le _, rfl, by rw [sumC_zero]; omega, W1.out, B1.out⟩
    case round =>
      obtain ⟨k, mk, hk, rfl, hs, hlf, hb⟩ := hrel
      have HS := Lib.hid hs
      have HB := Lib.hid hb
      have HF := Lib.hid hlf
      clear hs hb hlf
      by_cases hlt : k < n
      · obtain ⟨b, o, x, rfl, hRb, hbl, hx, hok, c0, c1, c2⟩ := (H.out.keep (HB.out.kept HR.out) (fun _ h _ => h)).at_ hlt
        have HX := Lib.hid hx
        have HXT := Lib.hid (ktext_any x.arg (HF.out.alloc (.cells #[.int .i64 x.on, .int .i64 x.kind, .string x.arg] 56)) (by have := HS.out; have := HM.out; omega) hok.2.2)
        unfold Taking at HXT
        clear hx hok
        by_cases h2 : textC x.arg ≤ mk
        · rw [decide_eq_true h2] at HXT
          have H2 := Lib.hid h2
          clear h2
          go_wp2_with (go_at_call 36; refine HXT.out.mono ?_; rintro e w2 ⟨rfl, hb, hw⟩; have B2 := Lib.hid hb; have W2 := Lib.hid (hw H2.out); clear hb hw)
          go_roundw
          case rel => exact ⟨k + 1, mk - textC x.arg, by omega, by go_num, by rw [sumC_take HX.out]; have := HS.out; have := H2.out; show _ + textC x.arg + _ = _; omega, W2.out, HB.out.trans ((Only.alloc _ _ _).trans B2.out)⟩
          case measure => simp [intOf]; omega
        · rw [decide_eq_false h2] at HXT
          have H2 := Lib.hid h2
          clear h2
          go_wp2_with (go_at_call 36; refine HXT.out.mono ?_; rintro e w2 ⟨rfl, hb, hw⟩; have B2 := Lib.hid hb; clear hb hw)
          go_ret
          have hbad : ¬ cc ≤ m := by
            have := sumC_le (f := dutC) HX.out
            have := HC.out; have := HS.out; have := H1.out; have := H2.out
            have e : dutC x = textC x.arg := rfl
            omega
          exact ⟨ret_bool (decide_eq_false hbad).symm, HB.out.trans ((Only.alloc _ _ _).trans B2.out), fun h => absurd h hbad⟩
      · obtain rfl : k = n := by omega
        go_wp2
        go_ret
        have hs := HS.out
        rw [sumC_all HL.out] at hs
        have := HC.out
        have := H1.out
        exact ⟨ret_bool (decide_eq_true (by omega)).symm, HB.out, fun _ => by rw [show m - cc = mk by omega]; exact HF.out⟩
  · rw [decide_eq_false h1] at HT
    have H1 := Lib.hid h1
    clear h1
    go_enter Tryz.func38, Tryz.ntmps38
    go_wp2_with (go_at_call 35; refine HT.out.mono ?_; rintro e w1 ⟨rfl, hb, hw⟩; have B1 := Lib.hid hb; clear hb hw)
    go_ret
    have hbad : ¬ cc ≤ m := by have := HC.out; have := H1.out; omega
    exact ⟨ret_bool (decide_eq_false hbad).symm, B1.out, fun h => absurd h hbad⟩
end Go.Proofs.YtjpkemamfccfdaaGreatDoor
