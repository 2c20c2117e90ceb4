/-
  NARROWER THAN 'FOR EVERY INPUT', by the rows' own cells (each row's printed sentence says how): VarsAll: loops.
  DERIVED. THE GIVEN ROWS OF THIS SEAT. 2 by the template 'for every input the law returns true; each argument reads behind the call as it read before'; 0 by the template 'total and deterministic' (their statements: YtadjfkgnoklmiaaGreatTotals.lean).
  GIVEN WITH THE SEED: the statements are not yours to turn. If you find one false, say at which input.
  Laid BY PROGRAM, IN A SANDBOX (cutbox-rows.mjs): the forced cells as the released guide's own fill.sh prints them over the translation ce303e6de70deceb… (all of the seat's roots in one cut). By AI agents, Wed Nov 11 2026. No macro, syntax, notation, axiom, sorry.
-/
import Derived.Test.YtadjfkgnoklmiaaGreatChecked
import GoSem.Claim
import GoSem.ClaimJoined
import GoSem.ClaimMapViews
import Derived.JoinedTies
import Derived.KernelRfl
namespace Go.Proofs.YtadjfkgnoklmiaaGreat
/- THE CELL 'sum', in the pinned program and in every row, IS THE sha256 OF THE DUMP (.gsa) THAT YtadjfkgnoklmiaaGreatProg.lean LOADS. Nothing in Lean hashes anything: it is a label: what it is worth is what the hold of that sum in a sandbox is worth. -/
noncomputable def Tryz.pinned : Pinned := { name := "ytadjfkgnoklmiaagreat", sum := "ce303e6de70deceb7cdff5dada4ecdaf46a547762290ed2749f1c4770d3f4575", checked := Tryz.checked }
namespace Rows
def none {H : Type} : Left H := { results := [], args := [] }

/-- 'bailifflaw15.VarsAll': WHATEVER THE INPUT: true; the input reads as it did. -/
def varsAllSpec : ChangeSpec := { name := "varsAll", fn := fun _ => fun
  | [d1, d2, d3] => { results := [.lit (.bool true)], args := [d1, d2, d3] }
  | _ => none }
def varsAllRow : OpenClaim := { program := "ytadjfkgnoklmiaagreat", sum := "ce303e6de70deceb7cdff5dada4ecdaf46a547762290ed2749f1c4770d3f4575", func := "bailiff/bailifflaw15.VarsAll", spec := "varsAll", unfollowed := true, recurses := true, loops := true, apart := false }
def VarsAllSaid : Prop := varsAllRow.holds Tryz.pinned (OpenSpec.ofChange varsAllSpec)

/-- ITS FALSE NEIGHBOUR: 'it returns false'. Refute it at one input. -/
def varsAllWrong : ChangeSpec := { name := "varsAll", fn := fun _ => fun
  | [d1, d2, d3] => { results := [.lit (.bool false)], args := [d1, d2, d3] }
  | _ => none }
def VarsAllWrongFalsely : Prop := varsAllRow.holds Tryz.pinned (OpenSpec.ofChange varsAllWrong)

/-- 'bailifflaw15.VarsAsks': WHATEVER THE INPUT: true; the input reads as it did. -/
def varsAsksSpec : ChangeSpec := { name := "varsAsks", fn := fun _ => fun
  | [d1, d2, d3] => { results := [.lit (.bool true)], args := [d1, d2, d3] }
  | _ => none }
def varsAsksRow : OpenClaim := { program := "ytadjfkgnoklmiaagreat", sum := "ce303e6de70deceb7cdff5dada4ecdaf46a547762290ed2749f1c4770d3f4575", func := "bailiff/bailifflaw15.VarsAsks", spec := "varsAsks", unfollowed := true, recurses := true, apart := false }
def VarsAsksSaid : Prop := varsAsksRow.holds Tryz.pinned (OpenSpec.ofChange varsAsksSpec)

/-- ITS FALSE NEIGHBOUR: 'it returns false'. Refute it at one input. -/
def varsAsksWrong : ChangeSpec := { name := "varsAsks", fn := fun _ => fun
  | [d1, d2, d3] => { results := [.lit (.bool false)], args := [d1, d2, d3] }
  | _ => none }
def VarsAsksWrongFalsely : Prop := varsAsksRow.holds Tryz.pinned (OpenSpec.ofChange varsAsksWrong)

/- THE SECOND FORM. 'bulk': how many values and letters a reading holds, each counted each time it is reached (what is shared counts as often as it is met; a slice's spare places count too). A statement '..UptoSaid' is the law's where the arguments, and the package variables that the reading takes, are together of bulk at most 1048576: NARROWER than '..Said'. Prove '..Said' where nothing that the law and all that it calls make is longer than what came in: it says more and counts as full. Else prove '..UptoSaid'. A law counts once. -/
mutual
def uptoBulk {H : Type} : DataW H → Nat
  | .lit (.string bytes) => bytes.length + 1
  | .lit _ => 1
  | .nil => 1
  | .ptr d => uptoBulk d + 1
  | .slice elems spare => uptoBulkAll elems + uptoBulkAll spare + 1
  | .agg parts => uptoBulkAll parts + 1
  | .iface _ d => uptoBulk d + 1
  | .map entries => uptoBulkEntries entries + 1
  | .held _ => 1
def uptoBulkAll {H : Type} : List (DataW H) → Nat
  | [] => 0
  | d :: r => uptoBulk d + uptoBulkAll r
def uptoBulkEntries {H : Type} : List (Lit × DataW H) → Nat
  | [] => 0
  | x :: r => uptoBulkEntry x + uptoBulkEntries r
def uptoBulkEntry {H : Type} : Lit × DataW H → Nat
  | (.string bytes, d) => bytes.length + uptoBulk d + 1
  | (_, d) => uptoBulk d + 1
 end
def uptoSmall : (H : Type) → List (DataW H) → Bool := fun _ ds => decide (uptoBulkAll ds ≤ 1048576)
def OpenSpec.upto (s : _root_.Go.ChangeSpec) : _root_.Go.OpenSpec := { _root_.Go.OpenSpec.ofChange s with cond := some uptoSmall }

/-- 'bailifflaw15.VarsAll', WHERE WHAT IT READS IS OF BULK AT MOST 1048576: true; the input reads as it did. -/
def varsAllUptoRow : OpenClaim := { program := "ytadjfkgnoklmiaagreat", sum := "ce303e6de70deceb7cdff5dada4ecdaf46a547762290ed2749f1c4770d3f4575", func := "bailiff/bailifflaw15.VarsAll", spec := "varsAll", unfollowed := true, recurses := true, loops := true, apart := false, narrowed := true }
def VarsAllUptoSaid : Prop := varsAllUptoRow.holds Tryz.pinned (OpenSpec.upto varsAllSpec)

/-- 'bailifflaw15.VarsAsks', WHERE WHAT IT READS IS OF BULK AT MOST 1048576: true; the input reads as it did. -/
def varsAsksUptoRow : OpenClaim := { program := "ytadjfkgnoklmiaagreat", sum := "ce303e6de70deceb7cdff5dada4ecdaf46a547762290ed2749f1c4770d3f4575", func := "bailiff/bailifflaw15.VarsAsks", spec := "varsAsks", unfollowed := true, recurses := true, apart := false, narrowed := true }
def VarsAsksUptoSaid : Prop := varsAsksUptoRow.holds Tryz.pinned (OpenSpec.upto varsAsksSpec)

end Rows
end Go.Proofs.YtadjfkgnoklmiaaGreat
