/-
  NARROWER THAN 'FOR EVERY INPUT', by the rows' own cells (each row's printed sentence says how): EvalSure: loops · EvalSets: loops · EvalFirst: loops · EvalTargets: loops · EvalUnless: loops.
  DERIVED. THE GIVEN ROWS OF THIS SEAT. 7 by the template 'for every input the law returns true; each argument reads behind the call as it read before'; 0 by the template 'total and deterministic' (their statements: YtmoglaknmlhpgaaGreatTotals.lean).
  GIVEN WITH THE SEED: the statements are not yours to turn. If you find one false, say at which input.
  Laid BY PROGRAM, IN A SANDBOX (cutbox-rows.mjs): the forced cells as the released guide's own fill.sh prints them over the translation 01cda65d5146177a… (all of the seat's roots in one cut). By AI agents, Wed Nov 11 2026. No macro, syntax, notation, axiom, sorry.
-/
import Derived.Test.YtmoglaknmlhpgaaGreatChecked
import GoSem.Claim
import GoSem.ClaimJoined
import GoSem.ClaimMapViews
import Derived.JoinedTies
import Derived.KernelRfl
namespace Go.Proofs.YtmoglaknmlhpgaaGreat
/- THE CELL 'sum', in the pinned program and in every row, IS THE sha256 OF THE DUMP (.gsa) THAT YtmoglaknmlhpgaaGreatProg.lean LOADS. Nothing in Lean hashes anything: it is a label: what it is worth is what the hold of that sum in a sandbox is worth. -/
noncomputable def Tryz.pinned : Pinned := { name := "ytmoglaknmlhpgaagreat", sum := "01cda65d5146177ad09dcb608c1880fbd5177577a046fb8c182f51c3df364ca0", checked := Tryz.checked }
namespace Rows
def none {H : Type} : Left H := { results := [], args := [] }

/-- 'bailifflaw14.EvalRuns': WHATEVER THE INPUT: true; the input reads as it did. -/
def evalRunsSpec : ChangeSpec := { name := "evalRuns", fn := fun _ => fun
  | [] => { results := [.lit (.bool true)], args := [] }
  | _ => none }
def evalRunsRow : OpenClaim := { program := "ytmoglaknmlhpgaagreat", sum := "01cda65d5146177ad09dcb608c1880fbd5177577a046fb8c182f51c3df364ca0", func := "bailiff/bailifflaw14.EvalRuns", spec := "evalRuns", unfollowed := true, recurses := true, apart := false }
def EvalRunsSaid : Prop := evalRunsRow.holds Tryz.pinned (OpenSpec.ofChange evalRunsSpec)

/-- ITS FALSE NEIGHBOUR: 'it returns false'. Refute it at one input. -/
def evalRunsWrong : ChangeSpec := { name := "evalRuns", fn := fun _ => fun
  | [] => { results := [.lit (.bool false)], args := [] }
  | _ => none }
def EvalRunsWrongFalsely : Prop := evalRunsRow.holds Tryz.pinned (OpenSpec.ofChange evalRunsWrong)

/-- 'bailifflaw14.EvalSure': WHATEVER THE INPUT: true; the input reads as it did. -/
def evalSureSpec : ChangeSpec := { name := "evalSure", fn := fun _ => fun
  | [d1, d2] => { results := [.lit (.bool true)], args := [d1, d2] }
  | _ => none }
def evalSureRow : OpenClaim := { program := "ytmoglaknmlhpgaagreat", sum := "01cda65d5146177ad09dcb608c1880fbd5177577a046fb8c182f51c3df364ca0", func := "bailiff/bailifflaw14.EvalSure", spec := "evalSure", unfollowed := true, recurses := true, loops := true, apart := false }
def EvalSureSaid : Prop := evalSureRow.holds Tryz.pinned (OpenSpec.ofChange evalSureSpec)

/-- ITS FALSE NEIGHBOUR: 'it returns false'. Refute it at one input. -/
def evalSureWrong : ChangeSpec := { name := "evalSure", fn := fun _ => fun
  | [d1, d2] => { results := [.lit (.bool false)], args := [d1, d2] }
  | _ => none }
def EvalSureWrongFalsely : Prop := evalSureRow.holds Tryz.pinned (OpenSpec.ofChange evalSureWrong)

/-- 'bailifflaw14.EvalSets': WHATEVER THE INPUT: true; the input reads as it did. -/
def evalSetsSpec : ChangeSpec := { name := "evalSets", fn := fun _ => fun
  | [d1, d2, d3] => { results := [.lit (.bool true)], args := [d1, d2, d3] }
  | _ => none }
def evalSetsRow : OpenClaim := { program := "ytmoglaknmlhpgaagreat", sum := "01cda65d5146177ad09dcb608c1880fbd5177577a046fb8c182f51c3df364ca0", func := "bailiff/bailifflaw14.EvalSets", spec := "evalSets", unfollowed := true, recurses := true, loops := true, apart := false }
def EvalSetsSaid : Prop := evalSetsRow.holds Tryz.pinned (OpenSpec.ofChange evalSetsSpec)

/-- ITS FALSE NEIGHBOUR: 'it returns false'. Refute it at one input. -/
def evalSetsWrong : ChangeSpec := { name := "evalSets", fn := fun _ => fun
  | [d1, d2, d3] => { results := [.lit (.bool false)], args := [d1, d2, d3] }
  | _ => none }
def EvalSetsWrongFalsely : Prop := evalSetsRow.holds Tryz.pinned (OpenSpec.ofChange evalSetsWrong)

/-- 'bailifflaw14.EvalRules': WHATEVER THE INPUT: true; the input reads as it did. -/
def evalRulesSpec : ChangeSpec := { name := "evalRules", fn := fun _ => fun
  | [d1, d2, d3, d4] => { results := [.lit (.bool true)], args := [d1, d2, d3, d4] }
  | _ => none }
def evalRulesRow : OpenClaim := { program := "ytmoglaknmlhpgaagreat", sum := "01cda65d5146177ad09dcb608c1880fbd5177577a046fb8c182f51c3df364ca0", func := "bailiff/bailifflaw14.EvalRules", spec := "evalRules", unfollowed := true, recurses := true, apart := false }
def EvalRulesSaid : Prop := evalRulesRow.holds Tryz.pinned (OpenSpec.ofChange evalRulesSpec)

/-- ITS FALSE NEIGHBOUR: 'it returns false'. Refute it at one input. -/
def evalRulesWrong : ChangeSpec := { name := "evalRules", fn := fun _ => fun
  | [d1, d2, d3, d4] => { results := [.lit (.bool false)], args := [d1, d2, d3, d4] }
  | _ => none }
def EvalRulesWrongFalsely : Prop := evalRulesRow.holds Tryz.pinned (OpenSpec.ofChange evalRulesWrong)

/-- 'bailifflaw14.EvalFirst': WHATEVER THE INPUT: true; the input reads as it did. -/
def evalFirstSpec : ChangeSpec := { name := "evalFirst", fn := fun _ => fun
  | [d1, d2, d3, d4] => { results := [.lit (.bool true)], args := [d1, d2, d3, d4] }
  | _ => none }
def evalFirstRow : OpenClaim := { program := "ytmoglaknmlhpgaagreat", sum := "01cda65d5146177ad09dcb608c1880fbd5177577a046fb8c182f51c3df364ca0", func := "bailiff/bailifflaw14.EvalFirst", spec := "evalFirst", unfollowed := true, recurses := true, loops := true, apart := false }
def EvalFirstSaid : Prop := evalFirstRow.holds Tryz.pinned (OpenSpec.ofChange evalFirstSpec)

/-- ITS FALSE NEIGHBOUR: 'it returns false'. Refute it at one input. -/
def evalFirstWrong : ChangeSpec := { name := "evalFirst", fn := fun _ => fun
  | [d1, d2, d3, d4] => { results := [.lit (.bool false)], args := [d1, d2, d3, d4] }
  | _ => none }
def EvalFirstWrongFalsely : Prop := evalFirstRow.holds Tryz.pinned (OpenSpec.ofChange evalFirstWrong)

/-- 'bailifflaw14.EvalTargets': WHATEVER THE INPUT: true; the input reads as it did. -/
def evalTargetsSpec : ChangeSpec := { name := "evalTargets", fn := fun _ => fun
  | [d1, d2] => { results := [.lit (.bool true)], args := [d1, d2] }
  | _ => none }
def evalTargetsRow : OpenClaim := { program := "ytmoglaknmlhpgaagreat", sum := "01cda65d5146177ad09dcb608c1880fbd5177577a046fb8c182f51c3df364ca0", func := "bailiff/bailifflaw14.EvalTargets", spec := "evalTargets", unfollowed := true, recurses := true, loops := true, apart := false }
def EvalTargetsSaid : Prop := evalTargetsRow.holds Tryz.pinned (OpenSpec.ofChange evalTargetsSpec)

/-- ITS FALSE NEIGHBOUR: 'it returns false'. Refute it at one input. -/
def evalTargetsWrong : ChangeSpec := { name := "evalTargets", fn := fun _ => fun
  | [d1, d2] => { results := [.lit (.bool false)], args := [d1, d2] }
  | _ => none }
def EvalTargetsWrongFalsely : Prop := evalTargetsRow.holds Tryz.pinned (OpenSpec.ofChange evalTargetsWrong)

/-- 'bailifflaw14.EvalUnless': WHATEVER THE INPUT: true; the input reads as it did. -/
def evalUnlessSpec : ChangeSpec := { name := "evalUnless", fn := fun _ => fun
  | [d1, d2, d3] => { results := [.lit (.bool true)], args := [d1, d2, d3] }
  | _ => none }
def evalUnlessRow : OpenClaim := { program := "ytmoglaknmlhpgaagreat", sum := "01cda65d5146177ad09dcb608c1880fbd5177577a046fb8c182f51c3df364ca0", func := "bailiff/bailifflaw14.EvalUnless", spec := "evalUnless", unfollowed := true, recurses := true, loops := true, apart := false }
def EvalUnlessSaid : Prop := evalUnlessRow.holds Tryz.pinned (OpenSpec.ofChange evalUnlessSpec)

/-- ITS FALSE NEIGHBOUR: 'it returns false'. Refute it at one input. -/
def evalUnlessWrong : ChangeSpec := { name := "evalUnless", fn := fun _ => fun
  | [d1, d2, d3] => { results := [.lit (.bool false)], args := [d1, d2, d3] }
  | _ => none }
def EvalUnlessWrongFalsely : Prop := evalUnlessRow.holds Tryz.pinned (OpenSpec.ofChange evalUnlessWrong)

/- THE SECOND FORM. 'bulk': how many values and letters a reading holds, each counted each time it is reached (what is shared counts as often as it is met; a slice's spare places count too). A statement '..UptoSaid' is the law's where the arguments, and the package variables that the reading takes, are together of bulk at most 1048576: NARROWER than '..Said'. Prove '..Said' where nothing that the law and all that it calls make is longer than what came in: it says more and counts as full. Else prove '..UptoSaid'. A law counts once. -/
mutual
def uptoBulk {H : Type} : DataW H → Nat
  | .lit (.string bytes) => bytes.length + 1
  | .lit _ => 1
  | .nil => 1
  | .ptr d => uptoBulk d + 1
  | .slice elems spare => uptoBulkAll elems + uptoBulkAll spare + 1
  | .agg parts => uptoBulkAll parts + 1
  | .iface _ d => uptoBulk d + 1
  | .map entries => uptoBulkEntries entries + 1
  | .held _ => 1
def uptoBulkAll {H : Type} : List (DataW H) → Nat
  | [] => 0
  | d :: r => uptoBulk d + uptoBulkAll r
def uptoBulkEntries {H : Type} : List (Lit × DataW H) → Nat
  | [] => 0
  | x :: r => uptoBulkEntry x + uptoBulkEntries r
def uptoBulkEntry {H : Type} : Lit × DataW H → Nat
  | (.string bytes, d) => bytes.length + uptoBulk d + 1
  | (_, d) => uptoBulk d + 1
 end
def uptoSmall : (H : Type) → List (DataW H) → Bool := fun _ ds => decide (uptoBulkAll ds ≤ 1048576)
def OpenSpec.upto (s : _root_.Go.ChangeSpec) : _root_.Go.OpenSpec := { _root_.Go.OpenSpec.ofChange s with cond := some uptoSmall }

/-- 'bailifflaw14.EvalRuns', WHERE WHAT IT READS IS OF BULK AT MOST 1048576: true; the input reads as it did. -/
def evalRunsUptoRow : OpenClaim := { program := "ytmoglaknmlhpgaagreat", sum := "01cda65d5146177ad09dcb608c1880fbd5177577a046fb8c182f51c3df364ca0", func := "bailiff/bailifflaw14.EvalRuns", spec := "evalRuns", unfollowed := true, recurses := true, apart := false, narrowed := true }
def EvalRunsUptoSaid : Prop := evalRunsUptoRow.holds Tryz.pinned (OpenSpec.upto evalRunsSpec)

/-- 'bailifflaw14.EvalSure', WHERE WHAT IT READS IS OF BULK AT MOST 1048576: true; the input reads as it did. -/
def evalSureUptoRow : OpenClaim := { program := "ytmoglaknmlhpgaagreat", sum := "01cda65d5146177ad09dcb608c1880fbd5177577a046fb8c182f51c3df364ca0", func := "bailiff/bailifflaw14.EvalSure", spec := "evalSure", unfollowed := true, recurses := true, loops := true, apart := false, narrowed := true }
def EvalSureUptoSaid : Prop := evalSureUptoRow.holds Tryz.pinned (OpenSpec.upto evalSureSpec)

/-- 'bailifflaw14.EvalSets', WHERE WHAT IT READS IS OF BULK AT MOST 1048576: true; the input reads as it did. -/
def evalSetsUptoRow : OpenClaim := { program := "ytmoglaknmlhpgaagreat", sum := "01cda65d5146177ad09dcb608c1880fbd5177577a046fb8c182f51c3df364ca0", func := "bailiff/bailifflaw14.EvalSets", spec := "evalSets", unfollowed := true, recurses := true, loops := true, apart := false, narrowed := true }
def EvalSetsUptoSaid : Prop := evalSetsUptoRow.holds Tryz.pinned (OpenSpec.upto evalSetsSpec)

/-- 'bailifflaw14.EvalRules', WHERE WHAT IT READS IS OF BULK AT MOST 1048576: true; the input reads as it did. -/
def evalRulesUptoRow : OpenClaim := { program := "ytmoglaknmlhpgaagreat", sum := "01cda65d5146177ad09dcb608c1880fbd5177577a046fb8c182f51c3df364ca0", func := "bailiff/bailifflaw14.EvalRules", spec := "evalRules", unfollowed := true, recurses := true, apart := false, narrowed := true }
def EvalRulesUptoSaid : Prop := evalRulesUptoRow.holds Tryz.pinned (OpenSpec.upto evalRulesSpec)

/-- 'bailifflaw14.EvalFirst', WHERE WHAT IT READS IS OF BULK AT MOST 1048576: true; the input reads as it did. -/
def evalFirstUptoRow : OpenClaim := { program := "ytmoglaknmlhpgaagreat", sum := "01cda65d5146177ad09dcb608c1880fbd5177577a046fb8c182f51c3df364ca0", func := "bailiff/bailifflaw14.EvalFirst", spec := "evalFirst", unfollowed := true, recurses := true, loops := true, apart := false, narrowed := true }
def EvalFirstUptoSaid : Prop := evalFirstUptoRow.holds Tryz.pinned (OpenSpec.upto evalFirstSpec)

/-- 'bailifflaw14.EvalTargets', WHERE WHAT IT READS IS OF BULK AT MOST 1048576: true; the input reads as it did. -/
def evalTargetsUptoRow : OpenClaim := { program := "ytmoglaknmlhpgaagreat", sum := "01cda65d5146177ad09dcb608c1880fbd5177577a046fb8c182f51c3df364ca0", func := "bailiff/bailifflaw14.EvalTargets", spec := "evalTargets", unfollowed := true, recurses := true, loops := true, apart := false, narrowed := true }
def EvalTargetsUptoSaid : Prop := evalTargetsUptoRow.holds Tryz.pinned (OpenSpec.upto evalTargetsSpec)

/-- 'bailifflaw14.EvalUnless', WHERE WHAT IT READS IS OF BULK AT MOST 1048576: true; the input reads as it did. -/
def evalUnlessUptoRow : OpenClaim := { program := "ytmoglaknmlhpgaagreat", sum := "01cda65d5146177ad09dcb608c1880fbd5177577a046fb8c182f51c3df364ca0", func := "bailiff/bailifflaw14.EvalUnless", spec := "evalUnless", unfollowed := true, recurses := true, loops := true, apart := false, narrowed := true }
def EvalUnlessUptoSaid : Prop := evalUnlessUptoRow.holds Tryz.pinned (OpenSpec.upto evalUnlessSpec)

end Rows
end Go.Proofs.YtmoglaknmlhpgaaGreat
