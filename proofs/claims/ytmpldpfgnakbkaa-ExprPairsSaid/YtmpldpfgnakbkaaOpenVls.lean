/- Lists of values that come in, as rows in blocks that R lets in. -/
import Derived.Test.YtmpldpfgnakbkaaExpC
namespace Go.Proofs.Ytmpldpfgnakbkaa
set_option linter.unusedVariables false
open Go.RowKit Go.ChangeShapes Go.WideShapes
theorem open_vls {H : Type} {enc : TypeId × Value → H} {w : World} {base : Nat} {spare : Nat → Bool} {held : Bool} {n c : Nat} {A : Option Addr} {d : DataW H} {p : List MemPlace} (hwt : Wt Try.prog 25 d) (h : DataW.Trod enc Try.prog w base spare held 25 (.slice A n c) d p) : ∃ l, Vls w (fun _ => True) A n c l := by
  obtain ⟨m, hm⟩ := h
  exact open_vls_f hwt hm
end Go.Proofs.Ytmpldpfgnakbkaa
