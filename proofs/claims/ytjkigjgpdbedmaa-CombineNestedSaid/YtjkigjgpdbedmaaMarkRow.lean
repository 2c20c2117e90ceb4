/- Rows of marks: cells, and what a slice of them reads as. -/
import Derived.Test.YtjkigjgpdbedmaaMk
import Derived.Test.YtjkigjgpdbedmaaCells
namespace Go.Proofs.Ytjkigjgpdbedmaa
set_option linter.unusedVariables false
open Go.RowKit

def mcell (m : Mk) : Value := .complex .f64 (fl m.1) (fl m.2)
def mv (l : List Mk) : List Value := l.map mcell
theorem mv_len (l : List Mk) : (mv l).length = l.length := by simp [mv]
theorem mv_app (l m : List Mk) : mv (l ++ m) = mv l ++ mv m := by simp [mv]
theorem mv_take (l : List Mk) (k : Nat) : mv (l.take k) = (mv l).take k := by simp [mv, List.map_take]
theorem mv_drop (l : List Mk) (k : Nat) : mv (l.drop k) = (mv l).drop k := by simp [mv, List.map_drop]
theorem mv_get {l : List Mk} {k : Nat} {m : Mk} (h : l[k]? = some m) : (mv l)[k]? = some (mcell m) := by simp [mv, h]
theorem one_mv {l : List Mk} : ∀ v ∈ mv l, v.oneCell' = true := by
  intro v hv
  obtain ⟨c, _, rfl⟩ := List.mem_map.1 hv
  rfl
theorem Sl.mlen {w : World} {B n c : Nat} {A : Option Addr} {l : List Mk} (h : Sl w B A n c (mv l)) : l.length = n := by rw [← mv_len]; exact h.1
theorem Sl.mark {w : World} {B n c : Nat} {A : Option Addr} {l : List Mk} (h : Sl w B A n c (mv l)) {k : Nat} (hk : k < n) : ∃ b o p d, A = some ⟨b, o, none⟩ ∧ b < B ∧ l[k]? = some (p, d) ∧ w.cell? ⟨b, o + k, none⟩ = some (.complex .f64 (fl p) (fl d)) := by
  obtain ⟨b, o, u, e, hb, hx, hc⟩ := h.at_ hk
  have hl : k < l.length := by rw [h.mlen]; exact hk
  have hg := List.getElem?_eq_getElem hl
  rw [mv_get hg] at hx
  injection hx with hx
  subst hx
  exact ⟨b, o, l[k].1, l[k].2, e, hb, hg, hc⟩
theorem markinfo : (Try.prog.info? 23).map (fun i => (i.zero, i.size, i.bytes)) = some (some (.complex .f64 0 0), 1, 16) := by kernel_rfl
/-- append(out, m): one mark, behind a row of the call's own. -/
theorem append_mark {w : World} {base n c ty : Nat} {A : Option Addr} {l : List Mk} (p d : Fin 5) (h : w.ownsRow base 23 1 (.slice A n c) n (mv l)) (hn : n ≤ 1000000) (hbase : base ≤ w.heap.size) :
    ∃ A' c' w', (Builtin.append_ #[27, 27] ty #[.slice A n c, .slice (some ⟨w.heap.size, 0, none⟩) 1 1]).run Try.prog (w.alloc (.cells #[.complex .f64 (fl p) (fl d)] 23)) = .ok (.slice A' (n + 1) c') w' ∧
      w'.ownsRow base 23 1 (.slice A' (n + 1) c') (n + 1) (mv (l ++ [(p, d)])) ∧ Below base w w' := by
  obtain ⟨i, hi, hz0, hz1, hz2⟩ := info_parts markinfo
  rw [mv_app]
  exact append_cell (x := mcell (p, d)) Try.underlying27 hi hz0 rfl hz1 hz2 (by decide) rfl h hn hbase
end Go.Proofs.Ytjkigjgpdbedmaa
