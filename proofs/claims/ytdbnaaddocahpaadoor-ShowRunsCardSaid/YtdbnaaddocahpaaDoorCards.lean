/-
  DERIVED. GIVEN WITH THE SEED: THE CARDS: each row of YtdbnaaddocahpaaDoorRows.lean that lists a variable, with what it lists TIED to the program's text (the seventh form; the later family's looks); each row that meets fmt, with fmt's text TOLD by the authors' own Lean function (tested against real Go, not proved from fmt's source: count such statements apart). THE CARD IS WHAT COUNTS. Prove the row's statement (the work); the ties are given (YtdbnaaddocahpaaDoorTie.lean); close each card by the builder's one call (the guide's Derived/Test/ToyasCard.lean, 'card_holds'). Laid BY PROGRAM, IN A SANDBOX (cutbox-door.mjs). By AI agents, Wed Nov 11 2026. No macro, syntax, notation, axiom, sorry.
-/
import Derived.Test.YtdbnaaddocahpaaDoorRows
import GoSem.ClaimSeven
namespace Go.Proofs.YtdbnaaddocahpaaDoor
namespace Rows

/-- THE TIED CARD OF 'bailifflaw10.ShowRuns'. -/
def showRunsCard : Claim7 := { stood := { row := showRunsRow, standIns := [], harness := (true, "4ea9e343cc44e05a937f7ef4d50db2c8b1e800b1bf8bdbe83a3f591ff4842819"), looks := false }, kinds := [], alts := [], laidByText := true, laidKinds := [.data, .data, .data, .data, .data, .data, .data, .data], laidTests := true, laidLooks := .later }
def ShowRunsCardSaid : Prop := Claim7.holds Tryd.pinned (.plain (OpenSpec.ofChange showRunsSpec)) showRunsCard

/-- THE TIED CARD OF 'bailifflaw10.ShowApart'. -/
def showApartCard : Claim7 := { stood := { row := showApartRow, standIns := [], harness := (true, "4ea9e343cc44e05a937f7ef4d50db2c8b1e800b1bf8bdbe83a3f591ff4842819"), looks := false }, kinds := [], alts := [], laidByText := true, laidKinds := [.data, .data, .data, .data, .data, .data, .data, .data], laidTests := true, laidLooks := .later }
def ShowApartCardSaid : Prop := Claim7.holds Tryd.pinned (.plain (OpenSpec.ofChange showApartSpec)) showApartCard

/-- THE SECOND FORM's CARD OF 'bailifflaw10.ShowRuns'. -/
def showRunsUptoCard : Claim7 := { stood := { row := showRunsUptoRow, standIns := [], harness := (true, "4ea9e343cc44e05a937f7ef4d50db2c8b1e800b1bf8bdbe83a3f591ff4842819"), looks := false }, kinds := [], alts := [], laidByText := true, laidKinds := [.data, .data, .data, .data, .data, .data, .data, .data], laidTests := true, laidLooks := .later }
def ShowRunsUptoCardSaid : Prop := Claim7.holds Tryd.pinned (.plain (OpenSpec.upto showRunsSpec)) showRunsUptoCard

/-- THE SECOND FORM's CARD OF 'bailifflaw10.ShowApart'. -/
def showApartUptoCard : Claim7 := { stood := { row := showApartUptoRow, standIns := [], harness := (true, "4ea9e343cc44e05a937f7ef4d50db2c8b1e800b1bf8bdbe83a3f591ff4842819"), looks := false }, kinds := [], alts := [], laidByText := true, laidKinds := [.data, .data, .data, .data, .data, .data, .data, .data], laidTests := true, laidLooks := .later }
def ShowApartUptoCardSaid : Prop := Claim7.holds Tryd.pinned (.plain (OpenSpec.upto showApartSpec)) showApartUptoCard
end Rows
end Go.Proofs.YtdbnaaddocahpaaDoor
