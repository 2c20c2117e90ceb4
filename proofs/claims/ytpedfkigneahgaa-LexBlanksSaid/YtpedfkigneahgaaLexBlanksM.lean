/- LexBlanks: what the walk asks, plainly. -/
import Derived.Test.YtpedfkigneahgaaLexJoins
import Derived.Test.YtpedfkigneahgaaWithin
namespace Go.Proofs.Ytpedfkigneahgaa
set_option linter.unusedVariables false
open Go.RowKit

def aheadB : ByteArray := ⟨#[10, 32, 10, 32, 32]⟩
def aheadL (k : Nat) : List UInt8 := [10, 32, 10, 32, 32].take k
theorem aheadL_blk {k : Nat} : ∀ c ∈ aheadL k, blk c = true := by
  intro c hc
  have := List.mem_of_mem_take hc
  simp at this
  rcases this with rfl | rfl | rfl | rfl | rfl <;> decide
theorem aheadL_len {k : Nat} (h : k ≤ 5) : (aheadL k).length = k := by unfold aheadL; rw [List.length_take]; show min k 5 = k; omega
theorem ahead_ext (k : Nat) : (aheadB.extract 0 k).data.toList = aheadL k := by rw [ext_mid]; rfl
/-- Which bytes begin no token, as the law has them. -/
def oddB (b : UInt8) : Bool := decide (65 ≤ b.toNat) && decide (b.toNat ≤ 90) || decide (126 < b.toNat) || decide (b.toNat < 32) && decide (b.toNat ≠ 10) || decide (b.toNat = 36) || decide (b.toNat = 47) || decide (b.toNat = 95) || decide (b.toNat = 91)
set_option maxRecDepth 100000 in
theorem odd_all : ∀ x : Fin 256, oddB (UInt8.ofNat x.val) = true → blk (UInt8.ofNat x.val) = false ∧ tokB [UInt8.ofNat x.val, 120] = none := by decide +kernel
theorem odd_tok {b : UInt8} (h : oddB b = true) : blk b = false ∧ tokB [b, 120] = none := by
  have := odd_all ⟨b.toNat, b.toNat_lt⟩
  simp only [UInt8.ofNat_toNat] at this
  exact this h
/-- A text's tokens between blanks. -/
def blankT (ts : List Tk) (k n : Nat) : List Tk := ts.dropLast.map (shT k) ++ [⟨7, ((k + n + 2 : Nat) : Int), 0, ⟨#[]⟩⟩]
theorem blanks_ok {l : List UInt8} {ts : List Tk} {k : Nat} (hk : k ≤ 5) (h : lexB l 0 = .ok ts) : lexB (aheadL k ++ (l ++ [10, 32])) 0 = .ok (blankT ts k l.length) := by
  rw [lexB_ahead _ _ _ aheadL_blk, Nat.zero_add, aheadL_len hk]
  have h2 : lexB l k = .ok (ts.map (shT k)) := by rw [lexB_from, h]; rfl
  rw [show l ++ [10, 32] = l ++ 10 :: [32] from rfl, lexB_join (.inr rfl) h2, lexB_blank (by decide), lexB_nil]
  unfold blankT cat
  rw [List.map_dropLast]
theorem blanks_bad {l : List UInt8} {k e : Nat} (hk : k ≤ 5) (h : lexB l 0 = .error e) : lexB (aheadL k ++ (l ++ [10, 32])) 0 = .error (e + k) := by
  rw [lexB_ahead _ _ _ aheadL_blk, Nat.zero_add, aheadL_len hk]
  exact lexB_nl _ l [32] k _ (Nat.le_refl _) (by rw [lexB_from, h]; rfl)
theorem odd_lex {k : Nat} (hk : k ≤ 5) {b : UInt8} (h : oddB b = true) : lexB (aheadL k ++ [b, 120]) 0 = .error k := by
  rw [lexB_ahead _ _ _ aheadL_blk, Nat.zero_add, aheadL_len hk]
  exact lexB_bad (odd_tok h).1 (odd_tok h).2
theorem blankT_len {ts : List Tk} {k n : Nat} (h : 1 ≤ ts.length) : (blankT ts k n).length = ts.length := by simp [blankT]; omega
theorem blankT_lo {ts : List Tk} {k n i : Nat} {t : Tk} (hi : i < ts.length - 1) (h : ts[i]? = some t) : (blankT ts k n)[i]? = some (shT k t) := by
  unfold blankT
  rw [List.getElem?_append_left (by simpa using hi), List.getElem?_map, List.getElem?_dropLast, if_pos hi, h]
  rfl
theorem blankT_hi {ts : List Tk} {k n i : Nat} (hi : i = ts.length - 1) : (blankT ts k n)[i]? = some ⟨7, ((k + n + 2 : Nat) : Int), 0, ⟨#[]⟩⟩ := by
  unfold blankT
  rw [List.getElem?_append_right (by simp; omega)]
  simp [hi]

set_option maxRecDepth 100000 in
set_option maxHeartbeats 3200000 in
theorem blanks_main (s : ByteArray) (hs : s.size ≤ 200) (kn : Nat) (hk : kn ≤ 5) : (∀ w, Calls Try.prog 8 #[.string s] w fun e w' => AllP w (lexB s.data.toList 0) e w') ∧
    (∀ w, Calls Try.prog 8 #[.string (aheadB.extract 0 kn ++ s ++ ⟨#[10, 32]⟩)] w fun e w' => AllP w (lexB (aheadL kn ++ (s.data.toList ++ [10, 32])) 0) e w') ∧
    (∀ (b : UInt8) w, Calls Try.prog 8 #[.string (aheadB.extract 0 kn ++ ⟨#[b]⟩ ++ ⟨#[120]⟩)] w fun e w' => AllP w (lexB (aheadL kn ++ [b, 120]) 0) e w') := by
  have ha : (aheadB.extract 0 kn).size ≤ 5 := by rw [ByteArray.size_extract]; show min kn 5 - 0 ≤ 5; omega
  refine ⟨fun w => all_any s (by omega) w, fun w => ?_, fun b w => ?_⟩
  · have := all_any (aheadB.extract 0 kn ++ s ++ ⟨#[10, 32]⟩) (by rw [ByteArray.size_append, ByteArray.size_append]; show _ + _ + 2 ≤ 4096; omega) w
    rwa [ByteArray.data_append, Array.toList_append, ByteArray.data_append, Array.toList_append, ahead_ext, List.append_assoc] at this
  · have := all_any (aheadB.extract 0 kn ++ ⟨#[b]⟩ ++ ⟨#[120]⟩) (by rw [ByteArray.size_append, ByteArray.size_append]; show _ + 1 + 1 ≤ 4096; omega) w
    rwa [ByteArray.data_append, Array.toList_append, ByteArray.data_append, Array.toList_append, ahead_ext, List.append_assoc] at this

end Go.Proofs.Ytpedfkigneahgaa
