/- Rows of numbers. -/
import Derived.Test.YtipeefehhaffkaaMem
namespace Go.Proofs.Ytipeefehhaffkaa
set_option linter.unusedVariables false
open Go.RowKit

def nv (l : List Int) : List Value := l.map fun n => Value.int .i64 n
theorem nv_get {l : List Int} {k : Nat} {x : Int} (h : l[k]? = some x) : (nv l)[k]? = some (.int .i64 x) := by simp [nv, h]
theorem Sl.nlen {w : World} {B n c : Nat} {A : Option Addr} {l : List Int} (h : Sl w B A n c (nv l)) : l.length = n := by have := h.1; simpa [nv] using this
theorem Sl.num {w : World} {B n c : Nat} {A : Option Addr} {l : List Int} (h : Sl w B A n c (nv l)) {k : Nat} (hk : k < n) : ∃ b o x, A = some ⟨b, o, none⟩ ∧ b < B ∧ l[k]? = some x ∧ w.cell? ⟨b, o + k, none⟩ = some (.int .i64 x) := by
  obtain ⟨b, o, u, e, hb, hx, hc⟩ := h.at_ hk
  have hl : k < l.length := by rw [h.nlen]; exact hk
  have hg := List.getElem?_eq_getElem hl
  rw [nv_get hg] at hx
  injection hx with hx
  subst hx
  exact ⟨b, o, l[k], e, hb, hg, hc⟩
end Go.Proofs.Ytipeefehhaffkaa
