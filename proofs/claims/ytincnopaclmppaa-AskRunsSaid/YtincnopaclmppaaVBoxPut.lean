/- A value stored over another one in its block. -/
import Derived.Test.YtincnopaclmppaaVBox
namespace Go.Proofs.Ytincnopaclmppaa
open Go.RowKit

/-- A value stored over another one, cell by cell. -/
theorem Bx.put {w : World} {g : Nat} {k n : Int} {s : ByteArray} (h : Bx w g k n s) (k' n' : Int) (s' : ByteArray) : Bx (((w.setCell ⟨g, 0, none⟩ (.int .i64 k')).setCell ⟨g, 1, none⟩ (.int .i64 n')).setCell ⟨g, 2, none⟩ (.string s')) g k' n' s' := by
  unfold Bx
  simpa using ((Ob.put h 0 (.int .i64 k')).put 1 (.int .i64 n')).put 2 (.string s')
theorem Bx.past {w : World} {g g' : Nat} {k n : Int} {s : ByteArray} (h : Bx w g k n s) (hne : g ≠ g') (a b c : Value) : Bx (((w.setCell ⟨g', 0, none⟩ a).setCell ⟨g', 1, none⟩ b).setCell ⟨g', 2, none⟩ c) g k n s :=
  h.only (((Only.refl.setCell (p := ⟨g', 0, none⟩) rfl a).setCell (p := ⟨g', 1, none⟩) rfl b).setCell (p := ⟨g', 2, none⟩) rfl c) hne
theorem below_put {w0 w : World} {g B : Nat} (h : Below B w0 w) (hg : B ≤ g) (a b c : Value) : Below B w0 (((w.setCell ⟨g, 0, none⟩ a).setCell ⟨g, 1, none⟩ b).setCell ⟨g, 2, none⟩ c) :=
  ((h.setCell (p := ⟨g, 0, none⟩) hg a).setCell (p := ⟨g, 1, none⟩) hg b).setCell (p := ⟨g, 2, none⟩) hg c
end Go.Proofs.Ytincnopaclmppaa
