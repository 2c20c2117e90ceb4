/-
  No cell of these rows narrows 'for every input' (looked for: loops, veiled, ifaces, maps, wideKeys, modest, calm, conditions, laid).
  DERIVED. THE GIVEN ROWS OF THIS SEAT. 8 by the template 'for every input the law returns true; each argument reads behind the call as it read before'; 0 by the template 'total and deterministic' (their statements: YtjpkemamfccfdaaTotals.lean).
  GIVEN WITH THE SEED: the statements are not yours to turn. If you find one false, say at which input.
  Laid BY PROGRAM, IN A SANDBOX (cutbox-rows.mjs): the forced cells as the released guide's own fill.sh prints them over the translation 3f8081e70bf06f19… (all of the seat's roots in one cut). By AI agents, Wed Nov 11 2026. No macro, syntax, notation, axiom, sorry.
-/
import Derived.Test.YtjpkemamfccfdaaChecked
import GoSem.Claim
import GoSem.ClaimJoined
import GoSem.ClaimMapViews
import Derived.JoinedTies
import Derived.KernelRfl
namespace Go.Proofs.Ytjpkemamfccfdaa
/- THE CELL 'sum', in the pinned program and in every row, IS THE sha256 OF THE DUMP (.gsa) THAT YtjpkemamfccfdaaProg.lean LOADS. Nothing in Lean hashes anything: it is a label: what it is worth is what the hold of that sum in a sandbox is worth. -/
noncomputable def Try.pinned : Pinned := { name := "ytjpkemamfccfdaa", sum := "3f8081e70bf06f19eed39cb9d1a22450c49ee5a5324f9632cb6b392b99b5be65", checked := Try.checked }
namespace Rows
def none {H : Type} : Left H := { results := [], args := [] }

/-- 'bailifflaw13.TargetRuns': WHATEVER THE INPUT: true; the input reads as it did. -/
def targetRunsSpec : ChangeSpec := { name := "targetRuns", fn := fun _ => fun
  | [] => { results := [.lit (.bool true)], args := [] }
  | _ => none }
def targetRunsRow : OpenClaim := { program := "ytjpkemamfccfdaa", sum := "3f8081e70bf06f19eed39cb9d1a22450c49ee5a5324f9632cb6b392b99b5be65", func := "bailiff/bailifflaw13.TargetRuns", spec := "targetRuns", unfollowed := true, recurses := true, apart := false }
def TargetRunsSaid : Prop := targetRunsRow.holds Try.pinned (OpenSpec.ofChange targetRunsSpec)

/-- ITS FALSE NEIGHBOUR: 'it returns false'. Refute it at one input. -/
def targetRunsWrong : ChangeSpec := { name := "targetRuns", fn := fun _ => fun
  | [] => { results := [.lit (.bool false)], args := [] }
  | _ => none }
def TargetRunsWrongFalsely : Prop := targetRunsRow.holds Try.pinned (OpenSpec.ofChange targetRunsWrong)

/-- 'bailifflaw13.TargetTells': WHATEVER THE INPUT: true; the input reads as it did. -/
def targetTellsSpec : ChangeSpec := { name := "targetTells", fn := fun _ => fun
  | [d1, d2, d3] => { results := [.lit (.bool true)], args := [d1, d2, d3] }
  | _ => none }
def targetTellsRow : OpenClaim := { program := "ytjpkemamfccfdaa", sum := "3f8081e70bf06f19eed39cb9d1a22450c49ee5a5324f9632cb6b392b99b5be65", func := "bailiff/bailifflaw13.TargetTells", spec := "targetTells", unfollowed := true, recurses := true, apart := false }
def TargetTellsSaid : Prop := targetTellsRow.holds Try.pinned (OpenSpec.ofChange targetTellsSpec)

/-- ITS FALSE NEIGHBOUR: 'it returns false'. Refute it at one input. -/
def targetTellsWrong : ChangeSpec := { name := "targetTells", fn := fun _ => fun
  | [d1, d2, d3] => { results := [.lit (.bool false)], args := [d1, d2, d3] }
  | _ => none }
def TargetTellsWrongFalsely : Prop := targetTellsRow.holds Try.pinned (OpenSpec.ofChange targetTellsWrong)

/-- 'bailifflaw13.TargetGrows': WHATEVER THE INPUT: true; the input reads as it did. -/
def targetGrowsSpec : ChangeSpec := { name := "targetGrows", fn := fun _ => fun
  | [d1, d2, d3] => { results := [.lit (.bool true)], args := [d1, d2, d3] }
  | _ => none }
def targetGrowsRow : OpenClaim := { program := "ytjpkemamfccfdaa", sum := "3f8081e70bf06f19eed39cb9d1a22450c49ee5a5324f9632cb6b392b99b5be65", func := "bailiff/bailifflaw13.TargetGrows", spec := "targetGrows", unfollowed := true, recurses := true, apart := false }
def TargetGrowsSaid : Prop := targetGrowsRow.holds Try.pinned (OpenSpec.ofChange targetGrowsSpec)

/-- ITS FALSE NEIGHBOUR: 'it returns false'. Refute it at one input. -/
def targetGrowsWrong : ChangeSpec := { name := "targetGrows", fn := fun _ => fun
  | [d1, d2, d3] => { results := [.lit (.bool false)], args := [d1, d2, d3] }
  | _ => none }
def TargetGrowsWrongFalsely : Prop := targetGrowsRow.holds Try.pinned (OpenSpec.ofChange targetGrowsWrong)

/-- 'bailifflaw13.TargetSides': WHATEVER THE INPUT: true; the input reads as it did. -/
def targetSidesSpec : ChangeSpec := { name := "targetSides", fn := fun _ => fun
  | [d1, d2, d3] => { results := [.lit (.bool true)], args := [d1, d2, d3] }
  | _ => none }
def targetSidesRow : OpenClaim := { program := "ytjpkemamfccfdaa", sum := "3f8081e70bf06f19eed39cb9d1a22450c49ee5a5324f9632cb6b392b99b5be65", func := "bailiff/bailifflaw13.TargetSides", spec := "targetSides", unfollowed := true, recurses := true, apart := false }
def TargetSidesSaid : Prop := targetSidesRow.holds Try.pinned (OpenSpec.ofChange targetSidesSpec)

/-- ITS FALSE NEIGHBOUR: 'it returns false'. Refute it at one input. -/
def targetSidesWrong : ChangeSpec := { name := "targetSides", fn := fun _ => fun
  | [d1, d2, d3] => { results := [.lit (.bool false)], args := [d1, d2, d3] }
  | _ => none }
def TargetSidesWrongFalsely : Prop := targetSidesRow.holds Try.pinned (OpenSpec.ofChange targetSidesWrong)

/-- 'bailifflaw13.TargetOnly': WHATEVER THE INPUT: true; the input reads as it did. -/
def targetOnlySpec : ChangeSpec := { name := "targetOnly", fn := fun _ => fun
  | [d1, d2, d3] => { results := [.lit (.bool true)], args := [d1, d2, d3] }
  | _ => none }
def targetOnlyRow : OpenClaim := { program := "ytjpkemamfccfdaa", sum := "3f8081e70bf06f19eed39cb9d1a22450c49ee5a5324f9632cb6b392b99b5be65", func := "bailiff/bailifflaw13.TargetOnly", spec := "targetOnly", unfollowed := true, recurses := true, apart := false }
def TargetOnlySaid : Prop := targetOnlyRow.holds Try.pinned (OpenSpec.ofChange targetOnlySpec)

/-- ITS FALSE NEIGHBOUR: 'it returns false'. Refute it at one input. -/
def targetOnlyWrong : ChangeSpec := { name := "targetOnly", fn := fun _ => fun
  | [d1, d2, d3] => { results := [.lit (.bool false)], args := [d1, d2, d3] }
  | _ => none }
def TargetOnlyWrongFalsely : Prop := targetOnlyRow.holds Try.pinned (OpenSpec.ofChange targetOnlyWrong)

/-- 'bailifflaw13.TargetOrder': WHATEVER THE INPUT: true; the input reads as it did. -/
def targetOrderSpec : ChangeSpec := { name := "targetOrder", fn := fun _ => fun
  | [d1, d2] => { results := [.lit (.bool true)], args := [d1, d2] }
  | _ => none }
def targetOrderRow : OpenClaim := { program := "ytjpkemamfccfdaa", sum := "3f8081e70bf06f19eed39cb9d1a22450c49ee5a5324f9632cb6b392b99b5be65", func := "bailiff/bailifflaw13.TargetOrder", spec := "targetOrder", unfollowed := true, recurses := true, apart := false }
def TargetOrderSaid : Prop := targetOrderRow.holds Try.pinned (OpenSpec.ofChange targetOrderSpec)

/-- ITS FALSE NEIGHBOUR: 'it returns false'. Refute it at one input. -/
def targetOrderWrong : ChangeSpec := { name := "targetOrder", fn := fun _ => fun
  | [d1, d2] => { results := [.lit (.bool false)], args := [d1, d2] }
  | _ => none }
def TargetOrderWrongFalsely : Prop := targetOrderRow.holds Try.pinned (OpenSpec.ofChange targetOrderWrong)

/-- 'bailifflaw11.AskTells': WHATEVER THE INPUT: true; the input reads as it did. -/
def askTellsSpec : ChangeSpec := { name := "askTells", fn := fun _ => fun
  | [d1, d2, d3] => { results := [.lit (.bool true)], args := [d1, d2, d3] }
  | _ => none }
def askTellsRow : OpenClaim := { program := "ytjpkemamfccfdaa", sum := "3f8081e70bf06f19eed39cb9d1a22450c49ee5a5324f9632cb6b392b99b5be65", func := "bailiff/bailifflaw11.AskTells", spec := "askTells", unfollowed := true, recurses := true, apart := false }
def AskTellsSaid : Prop := askTellsRow.holds Try.pinned (OpenSpec.ofChange askTellsSpec)

/-- ITS FALSE NEIGHBOUR: 'it returns false'. Refute it at one input. -/
def askTellsWrong : ChangeSpec := { name := "askTells", fn := fun _ => fun
  | [d1, d2, d3] => { results := [.lit (.bool false)], args := [d1, d2, d3] }
  | _ => none }
def AskTellsWrongFalsely : Prop := askTellsRow.holds Try.pinned (OpenSpec.ofChange askTellsWrong)

/-- 'bailifflaw11.AskBytes': WHATEVER THE INPUT: true; the input reads as it did. -/
def askBytesSpec : ChangeSpec := { name := "askBytes", fn := fun _ => fun
  | [d1, d2, d3, d4] => { results := [.lit (.bool true)], args := [d1, d2, d3, d4] }
  | _ => none }
def askBytesRow : OpenClaim := { program := "ytjpkemamfccfdaa", sum := "3f8081e70bf06f19eed39cb9d1a22450c49ee5a5324f9632cb6b392b99b5be65", func := "bailiff/bailifflaw11.AskBytes", spec := "askBytes", unfollowed := true, recurses := true, apart := false }
def AskBytesSaid : Prop := askBytesRow.holds Try.pinned (OpenSpec.ofChange askBytesSpec)

/-- ITS FALSE NEIGHBOUR: 'it returns false'. Refute it at one input. -/
def askBytesWrong : ChangeSpec := { name := "askBytes", fn := fun _ => fun
  | [d1, d2, d3, d4] => { results := [.lit (.bool false)], args := [d1, d2, d3, d4] }
  | _ => none }
def AskBytesWrongFalsely : Prop := askBytesRow.holds Try.pinned (OpenSpec.ofChange askBytesWrong)

/- THE SECOND FORM. 'bulk': how many values and letters a reading holds, each counted each time it is reached (what is shared counts as often as it is met; a slice's spare places count too). A statement '..UptoSaid' is the law's where the arguments, and the package variables that the reading takes, are together of bulk at most 1048576: NARROWER than '..Said'. Prove '..Said' where nothing that the law and all that it calls make is longer than what came in: it says more and counts as full. Else prove '..UptoSaid'. A law counts once. -/
mutual
def uptoBulk {H : Type} : DataW H → Nat
  | .lit (.string bytes) => bytes.length + 1
  | .lit _ => 1
  | .nil => 1
  | .ptr d => uptoBulk d + 1
  | .slice elems spare => uptoBulkAll elems + uptoBulkAll spare + 1
  | .agg parts => uptoBulkAll parts + 1
  | .iface _ d => uptoBulk d + 1
  | .map entries => uptoBulkEntries entries + 1
  | .held _ => 1
def uptoBulkAll {H : Type} : List (DataW H) → Nat
  | [] => 0
  | d :: r => uptoBulk d + uptoBulkAll r
def uptoBulkEntries {H : Type} : List (Lit × DataW H) → Nat
  | [] => 0
  | x :: r => uptoBulkEntry x + uptoBulkEntries r
def uptoBulkEntry {H : Type} : Lit × DataW H → Nat
  | (.string bytes, d) => bytes.length + uptoBulk d + 1
  | (_, d) => uptoBulk d + 1
 end
def uptoSmall : (H : Type) → List (DataW H) → Bool := fun _ ds => decide (uptoBulkAll ds ≤ 1048576)
def OpenSpec.upto (s : _root_.Go.ChangeSpec) : _root_.Go.OpenSpec := { _root_.Go.OpenSpec.ofChange s with cond := some uptoSmall }

/-- 'bailifflaw13.TargetRuns', WHERE WHAT IT READS IS OF BULK AT MOST 1048576: true; the input reads as it did. -/
def targetRunsUptoRow : OpenClaim := { program := "ytjpkemamfccfdaa", sum := "3f8081e70bf06f19eed39cb9d1a22450c49ee5a5324f9632cb6b392b99b5be65", func := "bailiff/bailifflaw13.TargetRuns", spec := "targetRuns", unfollowed := true, recurses := true, apart := false, narrowed := true }
def TargetRunsUptoSaid : Prop := targetRunsUptoRow.holds Try.pinned (OpenSpec.upto targetRunsSpec)

/-- 'bailifflaw13.TargetTells', WHERE WHAT IT READS IS OF BULK AT MOST 1048576: true; the input reads as it did. -/
def targetTellsUptoRow : OpenClaim := { program := "ytjpkemamfccfdaa", sum := "3f8081e70bf06f19eed39cb9d1a22450c49ee5a5324f9632cb6b392b99b5be65", func := "bailiff/bailifflaw13.TargetTells", spec := "targetTells", unfollowed := true, recurses := true, apart := false, narrowed := true }
def TargetTellsUptoSaid : Prop := targetTellsUptoRow.holds Try.pinned (OpenSpec.upto targetTellsSpec)

/-- 'bailifflaw13.TargetGrows', WHERE WHAT IT READS IS OF BULK AT MOST 1048576: true; the input reads as it did. -/
def targetGrowsUptoRow : OpenClaim := { program := "ytjpkemamfccfdaa", sum := "3f8081e70bf06f19eed39cb9d1a22450c49ee5a5324f9632cb6b392b99b5be65", func := "bailiff/bailifflaw13.TargetGrows", spec := "targetGrows", unfollowed := true, recurses := true, apart := false, narrowed := true }
def TargetGrowsUptoSaid : Prop := targetGrowsUptoRow.holds Try.pinned (OpenSpec.upto targetGrowsSpec)

/-- 'bailifflaw13.TargetSides', WHERE WHAT IT READS IS OF BULK AT MOST 1048576: true; the input reads as it did. -/
def targetSidesUptoRow : OpenClaim := { program := "ytjpkemamfccfdaa", sum := "3f8081e70bf06f19eed39cb9d1a22450c49ee5a5324f9632cb6b392b99b5be65", func := "bailiff/bailifflaw13.TargetSides", spec := "targetSides", unfollowed := true, recurses := true, apart := false, narrowed := true }
def TargetSidesUptoSaid : Prop := targetSidesUptoRow.holds Try.pinned (OpenSpec.upto targetSidesSpec)

/-- 'bailifflaw13.TargetOnly', WHERE WHAT IT READS IS OF BULK AT MOST 1048576: true; the input reads as it did. -/
def targetOnlyUptoRow : OpenClaim := { program := "ytjpkemamfccfdaa", sum := "3f8081e70bf06f19eed39cb9d1a22450c49ee5a5324f9632cb6b392b99b5be65", func := "bailiff/bailifflaw13.TargetOnly", spec := "targetOnly", unfollowed := true, recurses := true, apart := false, narrowed := true }
def TargetOnlyUptoSaid : Prop := targetOnlyUptoRow.holds Try.pinned (OpenSpec.upto targetOnlySpec)

/-- 'bailifflaw13.TargetOrder', WHERE WHAT IT READS IS OF BULK AT MOST 1048576: true; the input reads as it did. -/
def targetOrderUptoRow : OpenClaim := { program := "ytjpkemamfccfdaa", sum := "3f8081e70bf06f19eed39cb9d1a22450c49ee5a5324f9632cb6b392b99b5be65", func := "bailiff/bailifflaw13.TargetOrder", spec := "targetOrder", unfollowed := true, recurses := true, apart := false, narrowed := true }
def TargetOrderUptoSaid : Prop := targetOrderUptoRow.holds Try.pinned (OpenSpec.upto targetOrderSpec)

/-- 'bailifflaw11.AskTells', WHERE WHAT IT READS IS OF BULK AT MOST 1048576: true; the input reads as it did. -/
def askTellsUptoRow : OpenClaim := { program := "ytjpkemamfccfdaa", sum := "3f8081e70bf06f19eed39cb9d1a22450c49ee5a5324f9632cb6b392b99b5be65", func := "bailiff/bailifflaw11.AskTells", spec := "askTells", unfollowed := true, recurses := true, apart := false, narrowed := true }
def AskTellsUptoSaid : Prop := askTellsUptoRow.holds Try.pinned (OpenSpec.upto askTellsSpec)

/-- 'bailifflaw11.AskBytes', WHERE WHAT IT READS IS OF BULK AT MOST 1048576: true; the input reads as it did. -/
def askBytesUptoRow : OpenClaim := { program := "ytjpkemamfccfdaa", sum := "3f8081e70bf06f19eed39cb9d1a22450c49ee5a5324f9632cb6b392b99b5be65", func := "bailiff/bailifflaw11.AskBytes", spec := "askBytes", unfollowed := true, recurses := true, apart := false, narrowed := true }
def AskBytesUptoSaid : Prop := askBytesUptoRow.holds Try.pinned (OpenSpec.upto askBytesSpec)

end Rows
end Go.Proofs.Ytjpkemamfccfdaa
