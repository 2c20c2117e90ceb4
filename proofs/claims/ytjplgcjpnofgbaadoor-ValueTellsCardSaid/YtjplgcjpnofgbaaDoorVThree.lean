/- Three values in boxes, cut: how the laws begin. -/
import Derived.Test.YtjplgcjpnofgbaaDoorVFew
import Derived.Test.YtjplgcjpnofgbaaDoorVEq
import Derived.Test.YtjplgcjpnofgbaaDoorVGrown
import Derived.Test.YtjplgcjpnofgbaaDoorVBoxPut
import Derived.Test.YtjplgcjpnofgbaaDoorVRuns
namespace Go.Proofs.YtjplgcjpnofgbaaDoor
set_option linter.unusedVariables false
open Go.RowKit Go.Sort

theorem few_grown (k n : Int) (s t : ByteArray) (ht : fewV ⟨k, n, s⟩ = ⟨k, n, t⟩) (hs : s.size ≤ maxLen) (w : World) (d : Nat) (os : Array Obj) :
    Calls Tryd.prog 14 #[.agg #[.int .i64 k, .int .i64 n, .string s]] (grow (redrawn w d) os) fun e w'' => e = .returned (.agg #[.int .i64 k, .int .i64 n, .string t]) ∧ ∃ p : Regrown, w'' = grow (redrawn w p.d) p.os :=
  Calls.regrown_of (by have := few_any k n s hs (grow (redrawn w d) os); rw [ht] at this; exact this)
end Go.Proofs.YtjplgcjpnofgbaaDoor
