/- The law EvalRules, plainly: one rule, its condition, what comes of it. -/
import Derived.Test.YtmoglaknmlhpgaaGreatEvalSet
namespace Go.Proofs.YtmoglaknmlhpgaaGreat
set_option linter.unusedVariables false

def eroA : Dut := ⟨1, 1, ⟨#[97]⟩⟩
def eroB : Dut := ⟨2, 1, ⟨#[98]⟩⟩
def ernT (n : Int) : Nod := ⟨1, ⟨1, n, ⟨#[]⟩⟩, ⟨0, ⟨#[]⟩, false⟩⟩
def ernX : Nod := ⟨2, ⟨0, 0, ⟨#[]⟩⟩, ⟨3, ⟨#[120]⟩, false⟩⟩
def ernO : Nod := ⟨3, ⟨0, 0, ⟨#[]⟩⟩, ⟨0, ⟨#[]⟩, false⟩⟩
def erCond (c : Nat) : List Nod := if c = 1 then [ernT 1] else if c = 2 then [ernT 0] else if c = 3 then [ernX, ernO] else []
def erRul (b : Bool) (c : Nat) : Rul := ⟨⟨#[114]⟩, b, [], erCond c, [eroA, eroB]⟩
def erWant (b : Bool) (c : Nat) : Res := if c = 2 then noRes else if c = 3 then ⟨indM (effM b), []⟩ else ⟨effM b, if b = true then [eroB] else [eroA]⟩
def erMat (u : Bool) : Mat := ⟨⟨4, ⟨#[121]⟩, u⟩, 1, ⟨2, 0, ⟨#[]⟩⟩⟩
def erPol (k : Int) (t : Tgt) (b : Bool) (c : Nat) : Pol := .mk ⟨#[112]⟩ false k t [erRul b c] [] []
def erThree (k : Int) : Prop := k = 1 ∨ k = 2 ∨ k = 3
theorem er_dec {k : Int} (hk : erThree k) (b : Bool) {c : Nat} (hc : c ≤ 3) : evV [] (erPol k [] b c) = erWant b c := by
  rcases hk with rfl | rfl | rfl <;> rcases (show c = 0 ∨ c = 1 ∨ c = 2 ∨ c = 3 by omega) with rfl | rfl | rfl | rfl <;> cases b <;> kernel_rfl
theorem er_dec2 {k : Int} (hk : erThree k) (u b : Bool) {c : Nat} (hc : c ≤ 3) : evV [] (erPol k [[[erMat u]]] b c) = if u = true then ⟨indM (erWant b c).m, []⟩ else noRes := by
  rcases hk with rfl | rfl | rfl <;> rcases (show c = 0 ∨ c = 1 ∨ c = 2 ∨ c = 3 by omega) with rfl | rfl | rfl | rfl <;> cases b <;> cases u <;> kernel_rfl
theorem er_right {k : Int} (hk : erThree k) (b : Bool) {c : Nat} (hc : c ≤ 3) : rightE (erPol k [] b c) = 0 := by
  rcases hk with rfl | rfl | rfl <;> rcases (show c = 0 ∨ c = 1 ∨ c = 2 ∨ c = 3 by omega) with rfl | rfl | rfl | rfl <;> cases b <;> kernel_rfl
theorem er_right2 {k : Int} (hk : erThree k) (u b : Bool) {c : Nat} (hc : c ≤ 3) : rightE (erPol k [[[erMat u]]] b c) = 0 := by
  rcases hk with rfl | rfl | rfl <;> rcases (show c = 0 ∨ c = 1 ∨ c = 2 ∨ c = 3 by omega) with rfl | rfl | rfl | rfl <;> cases b <;> cases u <;> kernel_rfl
theorem ero_okA : eroA.ok := by decide +kernel
theorem ero_okB : eroB.ok := by decide +kernel
theorem ern_ok (c : Nat) : ∀ x ∈ erCond c, x.ok := by
  unfold erCond
  split
  · intro x hx; simp at hx; subst hx; decide +kernel
  · split
    · intro x hx; simp at hx; subst hx; decide +kernel
    · split
      · intro x hx; simp at hx; rcases hx with rfl | rfl <;> decide +kernel
      · intro x hx; simp at hx
theorem erm_ok (u : Bool) : (erMat u).ok := by cases u <;> decide +kernel
end Go.Proofs.YtmoglaknmlhpgaaGreat
