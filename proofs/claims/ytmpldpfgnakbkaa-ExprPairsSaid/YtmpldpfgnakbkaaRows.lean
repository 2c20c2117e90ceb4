/-
  No cell of these rows narrows 'for every input' (looked for: loops, veiled, ifaces, maps, wideKeys, modest, calm, conditions, laid).
  DERIVED. THE GIVEN ROWS OF THIS SEAT. 9 by the template 'for every input the law returns true; each argument reads behind the call as it read before'; 0 by the template 'total and deterministic' (their statements: YtmpldpfgnakbkaaTotals.lean).
  GIVEN WITH THE SEED: the statements are not yours to turn. If you find one false, say at which input.
  Laid BY PROGRAM, IN A SANDBOX (cutbox-rows.mjs): the forced cells as the released guide's own fill.sh prints them over the translation 9cf86215316b63b6… (all of the seat's roots in one cut). By AI agents, Wed Nov 11 2026. No macro, syntax, notation, axiom, sorry.
-/
import Derived.Test.YtmpldpfgnakbkaaChecked
import GoSem.Claim
import GoSem.ClaimJoined
import GoSem.ClaimMapViews
import Derived.JoinedTies
import Derived.KernelRfl
namespace Go.Proofs.Ytmpldpfgnakbkaa
/- THE CELL 'sum', in the pinned program and in every row, IS THE sha256 OF THE DUMP (.gsa) THAT YtmpldpfgnakbkaaProg.lean LOADS. Nothing in Lean hashes anything: it is a label: what it is worth is what the hold of that sum in a sandbox is worth. -/
noncomputable def Try.pinned : Pinned := { name := "ytmpldpfgnakbkaa", sum := "9cf86215316b63b6d8a5c6a49cef5376bd094c16285b955ebed673455b0cdb30", checked := Try.checked }
namespace Rows
def none {H : Type} : Left H := { results := [], args := [] }

/-- 'bailifflaw11.AskTells': WHATEVER THE INPUT: true; the input reads as it did. -/
def askTellsSpec : ChangeSpec := { name := "askTells", fn := fun _ => fun
  | [d1, d2, d3] => { results := [.lit (.bool true)], args := [d1, d2, d3] }
  | _ => none }
def askTellsRow : OpenClaim := { program := "ytmpldpfgnakbkaa", sum := "9cf86215316b63b6d8a5c6a49cef5376bd094c16285b955ebed673455b0cdb30", func := "bailiff/bailifflaw11.AskTells", spec := "askTells", unfollowed := true, recurses := true, apart := false }
def AskTellsSaid : Prop := askTellsRow.holds Try.pinned (OpenSpec.ofChange askTellsSpec)

/-- ITS FALSE NEIGHBOUR: 'it returns false'. Refute it at one input. -/
def askTellsWrong : ChangeSpec := { name := "askTells", fn := fun _ => fun
  | [d1, d2, d3] => { results := [.lit (.bool false)], args := [d1, d2, d3] }
  | _ => none }
def AskTellsWrongFalsely : Prop := askTellsRow.holds Try.pinned (OpenSpec.ofChange askTellsWrong)

/-- 'bailifflaw11.AskBytes': WHATEVER THE INPUT: true; the input reads as it did. -/
def askBytesSpec : ChangeSpec := { name := "askBytes", fn := fun _ => fun
  | [d1, d2, d3, d4] => { results := [.lit (.bool true)], args := [d1, d2, d3, d4] }
  | _ => none }
def askBytesRow : OpenClaim := { program := "ytmpldpfgnakbkaa", sum := "9cf86215316b63b6d8a5c6a49cef5376bd094c16285b955ebed673455b0cdb30", func := "bailiff/bailifflaw11.AskBytes", spec := "askBytes", unfollowed := true, recurses := true, apart := false }
def AskBytesSaid : Prop := askBytesRow.holds Try.pinned (OpenSpec.ofChange askBytesSpec)

/-- ITS FALSE NEIGHBOUR: 'it returns false'. Refute it at one input. -/
def askBytesWrong : ChangeSpec := { name := "askBytes", fn := fun _ => fun
  | [d1, d2, d3, d4] => { results := [.lit (.bool false)], args := [d1, d2, d3, d4] }
  | _ => none }
def AskBytesWrongFalsely : Prop := askBytesRow.holds Try.pinned (OpenSpec.ofChange askBytesWrong)

/-- 'bailifflaw12.ExprRuns': WHATEVER THE INPUT: true; the input reads as it did. -/
def exprRunsSpec : ChangeSpec := { name := "exprRuns", fn := fun _ => fun
  | [] => { results := [.lit (.bool true)], args := [] }
  | _ => none }
def exprRunsRow : OpenClaim := { program := "ytmpldpfgnakbkaa", sum := "9cf86215316b63b6d8a5c6a49cef5376bd094c16285b955ebed673455b0cdb30", func := "bailiff/bailifflaw12.ExprRuns", spec := "exprRuns", unfollowed := true, recurses := true, apart := false }
def ExprRunsSaid : Prop := exprRunsRow.holds Try.pinned (OpenSpec.ofChange exprRunsSpec)

/-- ITS FALSE NEIGHBOUR: 'it returns false'. Refute it at one input. -/
def exprRunsWrong : ChangeSpec := { name := "exprRuns", fn := fun _ => fun
  | [] => { results := [.lit (.bool false)], args := [] }
  | _ => none }
def ExprRunsWrongFalsely : Prop := exprRunsRow.holds Try.pinned (OpenSpec.ofChange exprRunsWrong)

/-- 'bailifflaw12.ExprTruths': WHATEVER THE INPUT: true; the input reads as it did. -/
def exprTruthsSpec : ChangeSpec := { name := "exprTruths", fn := fun _ => fun
  | [d1, d2, d3] => { results := [.lit (.bool true)], args := [d1, d2, d3] }
  | _ => none }
def exprTruthsRow : OpenClaim := { program := "ytmpldpfgnakbkaa", sum := "9cf86215316b63b6d8a5c6a49cef5376bd094c16285b955ebed673455b0cdb30", func := "bailiff/bailifflaw12.ExprTruths", spec := "exprTruths", unfollowed := true, recurses := true, apart := false }
def ExprTruthsSaid : Prop := exprTruthsRow.holds Try.pinned (OpenSpec.ofChange exprTruthsSpec)

/-- ITS FALSE NEIGHBOUR: 'it returns false'. Refute it at one input. -/
def exprTruthsWrong : ChangeSpec := { name := "exprTruths", fn := fun _ => fun
  | [d1, d2, d3] => { results := [.lit (.bool false)], args := [d1, d2, d3] }
  | _ => none }
def ExprTruthsWrongFalsely : Prop := exprTruthsRow.holds Try.pinned (OpenSpec.ofChange exprTruthsWrong)

/-- 'bailifflaw12.ExprOnly': WHATEVER THE INPUT: true; the input reads as it did. -/
def exprOnlySpec : ChangeSpec := { name := "exprOnly", fn := fun _ => fun
  | [d1, d2, d3] => { results := [.lit (.bool true)], args := [d1, d2, d3] }
  | _ => none }
def exprOnlyRow : OpenClaim := { program := "ytmpldpfgnakbkaa", sum := "9cf86215316b63b6d8a5c6a49cef5376bd094c16285b955ebed673455b0cdb30", func := "bailiff/bailifflaw12.ExprOnly", spec := "exprOnly", unfollowed := true, recurses := true, apart := false }
def ExprOnlySaid : Prop := exprOnlyRow.holds Try.pinned (OpenSpec.ofChange exprOnlySpec)

/-- ITS FALSE NEIGHBOUR: 'it returns false'. Refute it at one input. -/
def exprOnlyWrong : ChangeSpec := { name := "exprOnly", fn := fun _ => fun
  | [d1, d2, d3] => { results := [.lit (.bool false)], args := [d1, d2, d3] }
  | _ => none }
def ExprOnlyWrongFalsely : Prop := exprOnlyRow.holds Try.pinned (OpenSpec.ofChange exprOnlyWrong)

/-- 'bailifflaw12.ExprSums': WHATEVER THE INPUT: true; the input reads as it did. -/
def exprSumsSpec : ChangeSpec := { name := "exprSums", fn := fun _ => fun
  | [d1, d2, d3] => { results := [.lit (.bool true)], args := [d1, d2, d3] }
  | _ => none }
def exprSumsRow : OpenClaim := { program := "ytmpldpfgnakbkaa", sum := "9cf86215316b63b6d8a5c6a49cef5376bd094c16285b955ebed673455b0cdb30", func := "bailiff/bailifflaw12.ExprSums", spec := "exprSums", unfollowed := true, recurses := true, apart := false }
def ExprSumsSaid : Prop := exprSumsRow.holds Try.pinned (OpenSpec.ofChange exprSumsSpec)

/-- ITS FALSE NEIGHBOUR: 'it returns false'. Refute it at one input. -/
def exprSumsWrong : ChangeSpec := { name := "exprSums", fn := fun _ => fun
  | [d1, d2, d3] => { results := [.lit (.bool false)], args := [d1, d2, d3] }
  | _ => none }
def ExprSumsWrongFalsely : Prop := exprSumsRow.holds Try.pinned (OpenSpec.ofChange exprSumsWrong)

/-- 'bailifflaw12.ExprBags': WHATEVER THE INPUT: true; the input reads as it did. -/
def exprBagsSpec : ChangeSpec := { name := "exprBags", fn := fun _ => fun
  | [d1, d2] => { results := [.lit (.bool true)], args := [d1, d2] }
  | _ => none }
def exprBagsRow : OpenClaim := { program := "ytmpldpfgnakbkaa", sum := "9cf86215316b63b6d8a5c6a49cef5376bd094c16285b955ebed673455b0cdb30", func := "bailiff/bailifflaw12.ExprBags", spec := "exprBags", unfollowed := true, recurses := true, apart := false }
def ExprBagsSaid : Prop := exprBagsRow.holds Try.pinned (OpenSpec.ofChange exprBagsSpec)

/-- ITS FALSE NEIGHBOUR: 'it returns false'. Refute it at one input. -/
def exprBagsWrong : ChangeSpec := { name := "exprBags", fn := fun _ => fun
  | [d1, d2] => { results := [.lit (.bool false)], args := [d1, d2] }
  | _ => none }
def ExprBagsWrongFalsely : Prop := exprBagsRow.holds Try.pinned (OpenSpec.ofChange exprBagsWrong)

/-- 'bailifflaw12.ExprPlain': WHATEVER THE INPUT: true; the input reads as it did. -/
def exprPlainSpec : ChangeSpec := { name := "exprPlain", fn := fun _ => fun
  | [d1, d2] => { results := [.lit (.bool true)], args := [d1, d2] }
  | _ => none }
def exprPlainRow : OpenClaim := { program := "ytmpldpfgnakbkaa", sum := "9cf86215316b63b6d8a5c6a49cef5376bd094c16285b955ebed673455b0cdb30", func := "bailiff/bailifflaw12.ExprPlain", spec := "exprPlain", unfollowed := true, recurses := true, apart := false }
def ExprPlainSaid : Prop := exprPlainRow.holds Try.pinned (OpenSpec.ofChange exprPlainSpec)

/-- ITS FALSE NEIGHBOUR: 'it returns false'. Refute it at one input. -/
def exprPlainWrong : ChangeSpec := { name := "exprPlain", fn := fun _ => fun
  | [d1, d2] => { results := [.lit (.bool false)], args := [d1, d2] }
  | _ => none }
def ExprPlainWrongFalsely : Prop := exprPlainRow.holds Try.pinned (OpenSpec.ofChange exprPlainWrong)

/-- 'bailifflaw12.ExprPairs': WHATEVER THE INPUT: true; the input reads as it did. -/
def exprPairsSpec : ChangeSpec := { name := "exprPairs", fn := fun _ => fun
  | [d1, d2] => { results := [.lit (.bool true)], args := [d1, d2] }
  | _ => none }
def exprPairsRow : OpenClaim := { program := "ytmpldpfgnakbkaa", sum := "9cf86215316b63b6d8a5c6a49cef5376bd094c16285b955ebed673455b0cdb30", func := "bailiff/bailifflaw12.ExprPairs", spec := "exprPairs", unfollowed := true, recurses := true, apart := false }
def ExprPairsSaid : Prop := exprPairsRow.holds Try.pinned (OpenSpec.ofChange exprPairsSpec)

/-- ITS FALSE NEIGHBOUR: 'it returns false'. Refute it at one input. -/
def exprPairsWrong : ChangeSpec := { name := "exprPairs", fn := fun _ => fun
  | [d1, d2] => { results := [.lit (.bool false)], args := [d1, d2] }
  | _ => none }
def ExprPairsWrongFalsely : Prop := exprPairsRow.holds Try.pinned (OpenSpec.ofChange exprPairsWrong)

/- THE SECOND FORM. 'bulk': how many values and letters a reading holds, each counted each time it is reached (what is shared counts as often as it is met; a slice's spare places count too). A statement '..UptoSaid' is the law's where the arguments, and the package variables that the reading takes, are together of bulk at most 1048576: NARROWER than '..Said'. Prove '..Said' where nothing that the law and all that it calls make is longer than what came in: it says more and counts as full. Else prove '..UptoSaid'. A law counts once. -/
mutual
def uptoBulk {H : Type} : DataW H → Nat
  | .lit (.string bytes) => bytes.length + 1
  | .lit _ => 1
  | .nil => 1
  | .ptr d => uptoBulk d + 1
  | .slice elems spare => uptoBulkAll elems + uptoBulkAll spare + 1
  | .agg parts => uptoBulkAll parts + 1
  | .iface _ d => uptoBulk d + 1
  | .map entries => uptoBulkEntries entries + 1
  | .held _ => 1
def uptoBulkAll {H : Type} : List (DataW H) → Nat
  | [] => 0
  | d :: r => uptoBulk d + uptoBulkAll r
def uptoBulkEntries {H : Type} : List (Lit × DataW H) → Nat
  | [] => 0
  | x :: r => uptoBulkEntry x + uptoBulkEntries r
def uptoBulkEntry {H : Type} : Lit × DataW H → Nat
  | (.string bytes, d) => bytes.length + uptoBulk d + 1
  | (_, d) => uptoBulk d + 1
 end
def uptoSmall : (H : Type) → List (DataW H) → Bool := fun _ ds => decide (uptoBulkAll ds ≤ 1048576)
def OpenSpec.upto (s : _root_.Go.ChangeSpec) : _root_.Go.OpenSpec := { _root_.Go.OpenSpec.ofChange s with cond := some uptoSmall }

/-- 'bailifflaw11.AskTells', WHERE WHAT IT READS IS OF BULK AT MOST 1048576: true; the input reads as it did. -/
def askTellsUptoRow : OpenClaim := { program := "ytmpldpfgnakbkaa", sum := "9cf86215316b63b6d8a5c6a49cef5376bd094c16285b955ebed673455b0cdb30", func := "bailiff/bailifflaw11.AskTells", spec := "askTells", unfollowed := true, recurses := true, apart := false, narrowed := true }
def AskTellsUptoSaid : Prop := askTellsUptoRow.holds Try.pinned (OpenSpec.upto askTellsSpec)

/-- 'bailifflaw11.AskBytes', WHERE WHAT IT READS IS OF BULK AT MOST 1048576: true; the input reads as it did. -/
def askBytesUptoRow : OpenClaim := { program := "ytmpldpfgnakbkaa", sum := "9cf86215316b63b6d8a5c6a49cef5376bd094c16285b955ebed673455b0cdb30", func := "bailiff/bailifflaw11.AskBytes", spec := "askBytes", unfollowed := true, recurses := true, apart := false, narrowed := true }
def AskBytesUptoSaid : Prop := askBytesUptoRow.holds Try.pinned (OpenSpec.upto askBytesSpec)

/-- 'bailifflaw12.ExprRuns', WHERE WHAT IT READS IS OF BULK AT MOST 1048576: true; the input reads as it did. -/
def exprRunsUptoRow : OpenClaim := { program := "ytmpldpfgnakbkaa", sum := "9cf86215316b63b6d8a5c6a49cef5376bd094c16285b955ebed673455b0cdb30", func := "bailiff/bailifflaw12.ExprRuns", spec := "exprRuns", unfollowed := true, recurses := true, apart := false, narrowed := true }
def ExprRunsUptoSaid : Prop := exprRunsUptoRow.holds Try.pinned (OpenSpec.upto exprRunsSpec)

/-- 'bailifflaw12.ExprTruths', WHERE WHAT IT READS IS OF BULK AT MOST 1048576: true; the input reads as it did. -/
def exprTruthsUptoRow : OpenClaim := { program := "ytmpldpfgnakbkaa", sum := "9cf86215316b63b6d8a5c6a49cef5376bd094c16285b955ebed673455b0cdb30", func := "bailiff/bailifflaw12.ExprTruths", spec := "exprTruths", unfollowed := true, recurses := true, apart := false, narrowed := true }
def ExprTruthsUptoSaid : Prop := exprTruthsUptoRow.holds Try.pinned (OpenSpec.upto exprTruthsSpec)

/-- 'bailifflaw12.ExprOnly', WHERE WHAT IT READS IS OF BULK AT MOST 1048576: true; the input reads as it did. -/
def exprOnlyUptoRow : OpenClaim := { program := "ytmpldpfgnakbkaa", sum := "9cf86215316b63b6d8a5c6a49cef5376bd094c16285b955ebed673455b0cdb30", func := "bailiff/bailifflaw12.ExprOnly", spec := "exprOnly", unfollowed := true, recurses := true, apart := false, narrowed := true }
def ExprOnlyUptoSaid : Prop := exprOnlyUptoRow.holds Try.pinned (OpenSpec.upto exprOnlySpec)

/-- 'bailifflaw12.ExprSums', WHERE WHAT IT READS IS OF BULK AT MOST 1048576: true; the input reads as it did. -/
def exprSumsUptoRow : OpenClaim := { program := "ytmpldpfgnakbkaa", sum := "9cf86215316b63b6d8a5c6a49cef5376bd094c16285b955ebed673455b0cdb30", func := "bailiff/bailifflaw12.ExprSums", spec := "exprSums", unfollowed := true, recurses := true, apart := false, narrowed := true }
def ExprSumsUptoSaid : Prop := exprSumsUptoRow.holds Try.pinned (OpenSpec.upto exprSumsSpec)

/-- 'bailifflaw12.ExprBags', WHERE WHAT IT READS IS OF BULK AT MOST 1048576: true; the input reads as it did. -/
def exprBagsUptoRow : OpenClaim := { program := "ytmpldpfgnakbkaa", sum := "9cf86215316b63b6d8a5c6a49cef5376bd094c16285b955ebed673455b0cdb30", func := "bailiff/bailifflaw12.ExprBags", spec := "exprBags", unfollowed := true, recurses := true, apart := false, narrowed := true }
def ExprBagsUptoSaid : Prop := exprBagsUptoRow.holds Try.pinned (OpenSpec.upto exprBagsSpec)

/-- 'bailifflaw12.ExprPlain', WHERE WHAT IT READS IS OF BULK AT MOST 1048576: true; the input reads as it did. -/
def exprPlainUptoRow : OpenClaim := { program := "ytmpldpfgnakbkaa", sum := "9cf86215316b63b6d8a5c6a49cef5376bd094c16285b955ebed673455b0cdb30", func := "bailiff/bailifflaw12.ExprPlain", spec := "exprPlain", unfollowed := true, recurses := true, apart := false, narrowed := true }
def ExprPlainUptoSaid : Prop := exprPlainUptoRow.holds Try.pinned (OpenSpec.upto exprPlainSpec)

/-- 'bailifflaw12.ExprPairs', WHERE WHAT IT READS IS OF BULK AT MOST 1048576: true; the input reads as it did. -/
def exprPairsUptoRow : OpenClaim := { program := "ytmpldpfgnakbkaa", sum := "9cf86215316b63b6d8a5c6a49cef5376bd094c16285b955ebed673455b0cdb30", func := "bailiff/bailifflaw12.ExprPairs", spec := "exprPairs", unfollowed := true, recurses := true, apart := false, narrowed := true }
def ExprPairsUptoSaid : Prop := exprPairsUptoRow.holds Try.pinned (OpenSpec.upto exprPairsSpec)

end Rows
end Go.Proofs.Ytmpldpfgnakbkaa
