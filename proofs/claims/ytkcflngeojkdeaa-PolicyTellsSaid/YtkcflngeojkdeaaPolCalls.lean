/- Calls of Right and Small, in any later world. -/
import Derived.Test.YtkcflngeojkdeaaOpenPol
import Derived.Test.YtkcflngeojkdeaaKeepIs
import Derived.Test.YtkcflngeojkdeaaPolRuns
import Derived.Test.YtkcflngeojkdeaaPolCountsM
namespace Go.Proofs.Ytkcflngeojkdeaa
set_option linter.unusedVariables false
open Go.RowKit

section
variable {w : World} {R : Nat → Prop} {p : Pol} {A1 A2 A3 A4 : Option Addr} {n1 k1 n2 k2 n3 k3 n4 k4 : Nat}
theorem call_right {r : Int} (hr : rightE p = r) (h : PolIn w R p A1 n1 k1 A2 n2 k2 A3 n3 k3 A4 n4 k4) (V : World) (hV : Below w.heap.size w V) :
    Calls Try.prog 8 #[.agg #[.string p.id, .bool p.set, .int .i64 p.alg, .slice A1 n1 k1, .slice A2 n2 k2, .slice A3 n3 k3, .slice A4 n4 k4]] V fun e w' => e = .returned (.int .i64 r) ∧ Below V.heap.size V w' := by
  have := right_pol (h.then_ hV)
  rwa [hr] at this
/-- Is it small? Whatever it is, it is so of the policy alone, and then its rows are short. -/
theorem call_small (h : PolIn w R p A1 n1 k1 A2 n2 k2 A3 n3 k3 A4 n4 k4) : ∃ d, (∃ m, d = m + 1 ∧ Pls w R m A3 n3 k3 p.kids) ∧ ∀ V, Below w.heap.size w V →
    Calls Try.prog 5 #[.agg #[.string p.id, .bool p.set, .int .i64 p.alg, .slice A1 n1 k1, .slice A2 n2 k2, .slice A3 n3 k3, .slice A4 n4 k4]] V fun e w' => e = .returned (.bool (decide (polC d p ≤ 3000))) ∧ Below V.heap.size V w' := by
  obtain ⟨h0, h1, h2, ⟨m, h3⟩, h4⟩ := h
  refine ⟨m + 1, ⟨m, rfl, h3⟩, fun V hV => ?_⟩
  have hk := Kept.all hV R
  exact small_pol h0.1 (h1.keep hk (fun _ h _ => h)) (h2.keep hk (fun _ h _ => h)) (h3.keep hk (fun _ h _ => h)) (h4.keep hk (fun _ h _ => h))
end
theorem sum_part {α : Type} {f : α → Nat} {l : List α} (k : Nat) : sumC f (l.take k) ≤ sumC f l := by
  have := sumC_app f (l.take k) (l.drop k)
  rw [List.take_append_drop] at this
  omega

end Go.Proofs.Ytkcflngeojkdeaa
