/- A value in its block, in worlds that have but grown. -/
import Derived.Test.YtincnopaclmppaaVBox
import Derived.Test.YtincnopaclmppaaQTail
namespace Go.Proofs.Ytincnopaclmppaa
open Go.RowKit Go.Sort

/-- A value in a block of its own, known in all worlds that have but grown. -/
theorem Bx.grown {w : World} {g : Nat} {k n : Int} {s : ByteArray} (h : Bx w g k n s) : (∀ d os, (grow (redrawn w d) os).cell? ⟨g, 0, none⟩ = some (.int .i64 k)) ∧ (∀ d os, (grow (redrawn w d) os).cell? ⟨g, 1, none⟩ = some (.int .i64 n)) ∧ ∀ d os, (grow (redrawn w d) os).cell? ⟨g, 2, none⟩ = some (.string s) :=
  ⟨fun d os => cell_regrown h.c3.1 d os, fun d os => cell_regrown h.c3.2.1 d os, fun d os => cell_regrown h.c3.2.2 d os⟩
end Go.Proofs.Ytincnopaclmppaa
