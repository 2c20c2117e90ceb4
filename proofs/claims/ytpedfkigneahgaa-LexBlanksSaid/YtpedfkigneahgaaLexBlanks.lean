/- LexBlanks: the walk. -/
import Derived.Test.YtpedfkigneahgaaLexBlanksPB
import Derived.Test.YtpedfkigneahgaaLexBlanksPG
import Derived.Test.YtpedfkigneahgaaLexBlanksQB
import Derived.Test.YtpedfkigneahgaaLexBlanksQG
namespace Go.Proofs.Ytpedfkigneahgaa
open Go.RowKit

theorem lexBlanks_walk (s0 : ByteArray) (hs0 : s0.size ≤ maxLen) (n : Int) (hn : (Lit.int .i64 n).wf = true) (b0 : Int) (hb0 : (Lit.int .u8 b0).wf = true) (w : World) : Calls Try.prog 5 #[.string s0, .int .i64 n, .int .u8 b0] w fun e w' => e = .returned (.bool true) ∧ Below w.heap.size w w' := by
  by_cases h : 200 < s0.size
  · cases hx : lexB (s0.extract 0 200).data.toList 0 with
    | error i => exact lexBlanks_pos_bad s0 hs0 h i hx n hn b0 hb0 w
    | ok ts => exact lexBlanks_pos_ok s0 hs0 h ts hx n hn b0 hb0 w
  · cases hx : lexB s0.data.toList 0 with
    | error i => exact lexBlanks_neg_bad s0 hs0 h i hx n hn b0 hb0 w
    | ok ts => exact lexBlanks_neg_ok s0 hs0 h ts hx n hn b0 hb0 w
end Go.Proofs.Ytpedfkigneahgaa
