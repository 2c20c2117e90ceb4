/- cmp.Or over errors; what a policy may have as what it is (the project's fits). -/
import Derived.Test.YtjpkemamfccfdaaGreatDoorPolWalk
namespace Go.Proofs.YtjpkemamfccfdaaGreatDoor
set_option linter.unusedVariables false
open Go.RowKit

def ev (l : List Int) : List Value := l.map (Value.int .i64)
theorem or2 (a b : Int) : firstE (fun x => x) [a, b] = orE a b := by
  unfold orE; simp only [firstE]
  by_cases ha : a = 0 <;> by_cases hb : b = 0 <;> simp [ha, hb]
theorem or3 (a b c : Int) : firstE (fun x => x) [a, b, c] = orE a (orE b c) := by
  unfold orE; simp only [firstE]
  by_cases ha : a = 0 <;> by_cases hb : b = 0 <;> by_cases hc : c = 0 <;> simp [ha, hb, hc]

set_option maxHeartbeats 800000 in
theorem or_any {w : World} {B n c : Nat} {A : Option Addr} {l : List Int} (h : Sl w B A n c (ev l)) (hn : n ≤ 1000) (hB : B ≤ w.heap.size) :
    Calls Tryz.prog 77 #[.slice A n c] w fun e w' => e = .returned (.int .i64 (firstE (fun x => x) l)) ∧ w' = w := by
  have HL : Hid (l.length = n) := by show l.length = n; have := h.1; simpa [ev] using this
  have hle := h.le
  have hcap := h.cap
  unfold maxLen at hcap
  have H := Lib.hid h
  clear h
  go_enter Tryz.func77, Tryz.ntmps77
  go_wp2
  go_loop [8] (fun i => ∃ k : Nat, k ≤ n ∧ i = .int .i64 k ∧ FineTo (fun x : Int => x) l k) (fun i => n - (intOf i).toNat)
  case atStart => exact ⟨0, Nat.zero_le _, rfl, FineTo.zero _ _⟩
  case round =>
    obtain ⟨k, hk, rfl, hf⟩ := hrel
    have HF := Lib.hid hf
    clear hf
    by_cases hlt : k < n
    · obtain ⟨b, o, u, rfl, hb, hu, hc⟩ := H.out.at_ hlt
      have hkl : k < l.length := by have := HL.out; omega
      have hx : l[k]? = some l[k] := List.getElem?_eq_getElem hkl
      have hu' : u = .int .i64 l[k] := by
        have : (ev l)[k]? = some (.int .i64 l[k]) := by simp [ev, hkl]
        rw [this] at hu
        exact (Option.some.inj hu).symm
      subst hu'
      have HX := Lib.hid hx
      generalize l[k] = x at *
      clear hu hx
      by_cases hz : x = 0
      · subst hz
        go_wp2_with fail
        go_round
        case rel => exact ⟨k + 1, by omega, by go_num, HF.out.step HX.out rfl⟩
        case measure => simp [intOf]; omega
      · have HZ := Lib.hid hz
        have hne : (x != 0) = true := by simpa using hz
        clear hz
        go_wp2_with fail
        go_ret
        exact ⟨ret_int (HF.out.err (f := fun x : Int => x) HX.out HZ.out).symm, rfl⟩
    · obtain rfl : k = n := by omega
      go_wp2
      go_ret
      exact ⟨ret_int (HF.out.all HL.out).symm, rfl⟩

def fitsN (set : Bool) (alg : Int) (nr nk : Nat) : Bool := decide (1 ≤ alg) && decide (alg ≤ 6) && if set = true then decide (nr = 0) else decide (nk = 0) && decide (alg ≠ 4)
theorem fits_eq (p : Pol) : fitsB p = fitsN p.set p.alg p.rules.length p.kids.length := rfl
set_option maxHeartbeats 800000 in
theorem fits_any (id : ByteArray) (set : Bool) (alg : Int) (A1 A2 A3 A4 : Option Addr) (n1 n2 n3 n4 c1 c2 c3 c4 : Nat) (w : World) :
    Calls Tryz.prog 76 #[.agg #[.string id, .bool set, .int .i64 alg, .slice A1 n1 c1, .slice A2 n2 c2, .slice A3 n3 c3, .slice A4 n4 c4]] w fun e w' => e = .returned (.bool (fitsN set alg n2 n3)) ∧ Below w.heap.size w w' := by
  have HE : Hid (fitsN set alg n2 n3 = (decide (1 ≤ alg) && decide (alg ≤ 6) && if set = true then decide (n2 = 0) else decide (n3 = 0) && decide (alg ≠ 4))) := rfl
  generalize fitsN set alg n2 n3 = r at *
  cases set
  all_goals
    go_enter Tryz.func76, Tryz.ntmps76
    go_wp2_with fail
    all_goals
      go_ret
      refine ⟨ret_bool ?_, (Below.refl _ _).alloc (Nat.le_refl _) _⟩
      rw [HE.out]
      clear HE
      rw [Bool.eq_iff_iff]
      simp only [Bool.and_eq_true, decide_eq_true_eq, beq_iff_eq, bne_iff_ne, if_true, if_false, Bool.false_eq_true, ne_eq]
      first | omega | (simp only [false_iff]; omega)
end Go.Proofs.YtjpkemamfccfdaaGreatDoor
