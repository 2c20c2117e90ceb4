/-
  DERIVED. GIVEN WITH THE SEED: THE CARDS: each row of YtmoglaknmlhpgaaGreatDoorRows.lean that lists a variable, with what it lists TIED to the program's text (the seventh form; the later family's looks); each row that meets fmt, with fmt's text TOLD by the authors' own Lean function (tested against real Go, not proved from fmt's source: count such statements apart). THE CARD IS WHAT COUNTS. Prove the row's statement (the work); the ties are given (YtmoglaknmlhpgaaGreatDoorTie.lean); close each card by the builder's one call (the guide's Derived/Test/ToyasCard.lean, 'card_holds'). Laid BY PROGRAM, IN A SANDBOX (cutbox-door.mjs). By AI agents, Wed Nov 11 2026. No macro, syntax, notation, axiom, sorry.
-/
import Derived.Test.YtmoglaknmlhpgaaGreatDoorRows
import GoSem.ClaimSeven
namespace Go.Proofs.YtmoglaknmlhpgaaGreatDoor
namespace Rows

/-- THE TIED CARD OF 'bailifflaw14.EvalOnly'. -/
def evalOnlyCard : Claim7 := { stood := { row := evalOnlyRow, standIns := [], harness := (true, "da6bc42060423c187d2191807fdc75bc1e275fb02dfa6379768e24a3cf08bae0"), looks := false }, kinds := [], alts := [], laidByText := true, laidKinds := [.data, .data, .data, .data, .data, .data, .data, .data], laidTests := true, laidLooks := .later }
def EvalOnlyCardSaid : Prop := Claim7.holds Tryz.pinned (.plain (OpenSpec.ofChange evalOnlySpec)) evalOnlyCard

/-- THE SECOND FORM's CARD OF 'bailifflaw14.EvalOnly'. -/
def evalOnlyUptoCard : Claim7 := { stood := { row := evalOnlyUptoRow, standIns := [], harness := (true, "da6bc42060423c187d2191807fdc75bc1e275fb02dfa6379768e24a3cf08bae0"), looks := false }, kinds := [], alts := [], laidByText := true, laidKinds := [.data, .data, .data, .data, .data, .data, .data, .data], laidTests := true, laidLooks := .later }
def EvalOnlyUptoCardSaid : Prop := Claim7.holds Tryz.pinned (.plain (OpenSpec.upto evalOnlySpec)) evalOnlyUptoCard
end Rows
end Go.Proofs.YtmoglaknmlhpgaaGreatDoor
