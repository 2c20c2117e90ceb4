/- A result's box is written, others stay: what the walks of stage 14's laws take. -/
import Derived.Test.YtmoglaknmlhpgaaGreatFifH
import Derived.Test.YtmoglaknmlhpgaaGreatFifG
namespace Go.Proofs.YtmoglaknmlhpgaaGreat
set_option linter.unusedVariables false
open Go.RowKit

theorem Dus.set2low {w : World} {g B : Nat} {A : Option Addr} {n c : Nat} {l : List Dut} (h : Dus w (fun b => b < B) A n c l) (hg : B ≤ g) (u v : Value) : Dus ((w.setCell ⟨g, 0, none⟩ u).setCell ⟨g, 1, none⟩ v) (fun _ => True) A n c l :=
  Dus.set2x (h.keep (Kept.refl _ _) (fun b hb _ => by have h1 : b < B := hb; omega)) u v
theorem Ob.set2k {w : World} {g g' : Nat} {t : TypeId} {cs : Array Value} (h : Ob w g t cs) (hg : g ≠ g') (u v : Value) : Ob ((w.setCell ⟨g', 0, none⟩ u).setCell ⟨g', 1, none⟩ v) g t cs :=
  (h.keep (Below.heap_setCell _ _ _ _ hg)).keep (Below.heap_setCell _ _ _ _ hg)
theorem Ob.c2e {w : World} {g : Nat} {t : TypeId} {a b : Value} (H : Ob w g t #[a, b]) : w.cell? ⟨g, 0, none⟩ = some a ∧ w.cell? ⟨g, 1, none⟩ = some b := ⟨H.cell 0, H.cell 1⟩
theorem Ob.f2e {w : World} {g : Nat} {t : TypeId} {a b : Value} (H : Ob w g t #[a, b]) : w.frozen? ⟨g, 0, none⟩ = false ∧ w.frozen? ⟨g, 1, none⟩ = false := ⟨H.frozen 0, H.frozen 1⟩
theorem set2_size (w : World) (g : Nat) (u v : Value) : ((w.setCell ⟨g, 0, none⟩ u).setCell ⟨g, 1, none⟩ v).heap.size = w.heap.size := by simp [World.setCell]
end Go.Proofs.YtmoglaknmlhpgaaGreat
