/- Rows of the six, gone through one by one (plain). -/
import Derived.Test.YtjkigjgpdbedmaaMkLaws
namespace Go.Proofs.Ytjkigjgpdbedmaa

def hasM (m : Mk) (l : List Mk) : Bool := decide (m ∈ l)
theorem hasM_step {l : List Mk} {k : Nat} {m : Mk} (h : l[k]? = some m) (x : Mk) : hasM x (l.take (k + 1)) = (hasM x (l.take k) || decide (x = m)) := by
  obtain ⟨hk, e⟩ := List.getElem?_eq_some_iff.1 h
  unfold hasM
  rw [List.take_succ_eq_append_getElem hk, e]
  simp
theorem anyU_step {l : List Mk} {k : Nat} {m : Mk} (h : l[k]? = some m) : anyU (l.take (k + 1)) = (anyU (l.take k) || !sureB m) := by
  obtain ⟨hk, e⟩ := List.getElem?_eq_some_iff.1 h
  unfold anyU
  rw [List.take_succ_eq_append_getElem hk, e, List.any_append]
  simp
theorem cnt_step {l : List Mk} {k : Nat} {m : Mk} (h : l[k]? = some m) : cnt (l.take (k + 1)) = cnt (l.take k) + if m = (0, 0) then 0 else 1 := by
  obtain ⟨hk, e⟩ := List.getElem?_eq_some_iff.1 h
  unfold cnt
  rw [List.take_succ_eq_append_getElem hk, e, List.countP_append]
  by_cases h : m = (0, 0) <;> simp [h]
theorem cnt_le (l : List Mk) : cnt l ≤ l.length := List.countP_le_length
theorem make_fold {a : Fin 6} {l : List Mk} {m k : Mk} (h : foldM a l = m) (e : decideM a m = k) : makeM a l = k := by rw [← e, ← h]; rfl
end Go.Proofs.Ytjkigjgpdbedmaa
