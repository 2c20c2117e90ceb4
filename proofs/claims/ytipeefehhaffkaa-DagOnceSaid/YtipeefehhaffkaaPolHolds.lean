/- What a node is of, what it makes, and what it may have beside its Op. -/
import Derived.Test.YtipeefehhaffkaaPolCut
import Derived.Test.YtipeefehhaffkaaPolEq
namespace Go.Proofs.Ytipeefehhaffkaa
set_option linter.unusedVariables false
open Go.RowKit

def ofT (op : Int) : ByteArray := lf ((patX op).getD [])
def makesT (op : Int) : ByteArray := match patX op with | none => lf [] | some _ => lf [makesX op]
theorem empty_iff (s : ByteArray) : (s = ByteArray.empty) = (s.toList = []) := propext ⟨fun h => by rw [h, ByteArray.toList_eq]; rfl, fun h => text_eq (by show s.data.toList = []; rw [← ByteArray.toList_eq]; exact h)⟩
theorem zeroA_iff (c : Int) (nm : ByteArray) (mu : Bool) : decide ((⟨c, nm, mu⟩ : Atr) = zeroA) = (decide (c = 0) && decide (nm.toList = []) && decide (mu = false)) := by
  rw [Bool.eq_iff_iff]
  simp only [Bool.and_eq_true, decide_eq_true_eq, ← empty_iff, zeroA, Atr.mk.injEq, and_assoc]
theorem zeroV_iff (k n : Int) (s : ByteArray) : decide ((⟨k, n, s⟩ : Vl) = zeroV) = (decide (k = 0) && decide (n = 0) && decide (s.toList = [])) := by
  rw [Bool.eq_iff_iff]
  simp only [Bool.and_eq_true, decide_eq_true_eq, ← empty_iff, zeroV, Vl.mk.injEq, and_assoc]

end Go.Proofs.Ytipeefehhaffkaa
