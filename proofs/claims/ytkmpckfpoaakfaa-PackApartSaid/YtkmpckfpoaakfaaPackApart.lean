/- PackApart: the walk, out of its four cases. -/
import Derived.Test.YtkmpckfpoaakfaaPackApartTT
import Derived.Test.YtkmpckfpoaakfaaPackApartTF
import Derived.Test.YtkmpckfpoaakfaaPackApartFT
import Derived.Test.YtkmpckfpoaakfaaPackApartFF
namespace Go.Proofs.Ytkmpckfpoaakfaa
set_option linter.unusedVariables false
open Go.RowKit
theorem packApart_walk (m : Int) (hm : (Lit.int .i64 m).wf = true) (n : Int) (hn : (Lit.int .i64 n).wf = true) (s : ByteArray) (hs : s.size ≤ maxLen) (t : ByteArray) (ht : t.size ≤ maxLen) (w : World) :
    Calls Try.prog 7 #[.int .i64 m, .int .i64 n, .string s, .string t] w fun e w' => e = .returned (.bool true) ∧ Below w.heap.size w w' := by
  obtain ⟨m1, m2⟩ := wf_bounds hm
  obtain ⟨n1, n2⟩ := wf_bounds hn
  by_cases h1 : m = n
  · by_cases h2 : cut100 s = cut100 t
    · exact packApart_TT m m1 m2 n n1 n2 s hs t ht w h1 h2
    · exact packApart_TF m m1 m2 n n1 n2 s hs t ht w h1 h2
  · by_cases h2 : cut100 s = cut100 t
    · exact packApart_FT m m1 m2 n n1 n2 s hs t ht w h1 h2
    · exact packApart_FF m m1 m2 n n1 n2 s hs t ht w h1 h2
end Go.Proofs.Ytkmpckfpoaakfaa
