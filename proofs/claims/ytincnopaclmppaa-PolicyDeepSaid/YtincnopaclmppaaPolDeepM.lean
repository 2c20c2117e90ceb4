/- PolicyDeep, plainly: how deep sets may stand, how many rules there may be. -/
import Derived.Test.YtincnopaclmppaaPolMath
namespace Go.Proofs.Ytincnopaclmppaa
set_option linter.unusedVariables false

/-- The law's name of a number. -/
def nmD (i : Nat) : ByteArray := ⟨#[112, UInt8.ofNat (97 + i / 26), UInt8.ofNat (97 + i % 26)]⟩
def nmK (i : Nat) : ByteArray := ⟨#[107, 112, UInt8.ofNat (97 + i / 26), UInt8.ofNat (97 + i % 26)]⟩
def nmU (i : Nat) : ByteArray := ⟨#[114, 112, UInt8.ofNat (97 + i / 26), UInt8.ofNat (97 + i % 26)]⟩
def rulD (x : ByteArray) : Rul := ⟨x, false, [], [], []⟩
/-- So many sets within each other. -/
def deepP : Nat → Pol
  | 0 => .mk ⟨#[108, 101, 97, 102]⟩ false 3 [] [] [] []
  | k + 1 => .mk (nmD k) true 4 [] [] [deepP k] []
/-- Kid j of a set of m rules. -/
def kidD (m j : Nat) : Pol := .mk (nmK (16 * j)) false 3 [] ((List.range (min 16 (m - 16 * j))).map fun t => rulD (nmU (16 * j + t))) [] []
def setD (m : Nat) : Pol := .mk ⟨#[115]⟩ true 4 [] [] ((List.range ((m + 15) / 16)).map (kidD m)) []
def fullD (n : Nat) : Pol := .mk ⟨#[113]⟩ false 3 [] ((List.range n).map fun i => rulD (nmD i)) [] []
theorem deepP_all : ∀ k ∈ List.range 7, rightE (deepP k) = if k < 4 then 0 else 6 := by decide +kernel
theorem setD_all : ∀ m ∈ List.range 81, rightE (setD m) = if m ≤ 64 then 0 else 6 := by decide +kernel
theorem fullD_16 : rightE (fullD 16) = 0 := by decide +kernel
theorem fullD_17 : rightE (fullD 17) = 6 := by decide +kernel
/-- One more rule, in a new kid, or in the last one. -/
theorem setD_new {m : Nat} (h : m % 16 = 0) : (setD (m + 1)).kids = (setD m).kids ++ [.mk (nmK m) false 3 [] [rulD (nmU m)] [] []] := by
  obtain ⟨q, rfl⟩ : ∃ q, m = 16 * q := ⟨m / 16, by omega⟩
  have e1 : (16 * q + 1 + 15) / 16 = q + 1 := by omega
  have e2 : (16 * q + 15) / 16 = q := by omega
  show (List.range ((16 * q + 1 + 15) / 16)).map (kidD (16 * q + 1)) = (List.range ((16 * q + 15) / 16)).map (kidD (16 * q)) ++ _
  rw [e1, e2, List.range_succ, List.map_append]
  congr 1
  · refine List.map_congr_left fun j hj => ?_
    have hj : j < q := List.mem_range.1 hj
    unfold kidD
    have : min 16 (16 * q + 1 - 16 * j) = min 16 (16 * q - 16 * j) := by omega
    rw [this]
  · simp [kidD]
theorem setD_last {m : Nat} (h : m % 16 ≠ 0) : ∃ ks rs, (setD m).kids = ks ++ [.mk (nmK (16 * (m / 16))) false 3 [] rs [] []] ∧ rs.length = m % 16 ∧ (setD (m + 1)).kids = ks ++ [.mk (nmK (16 * (m / 16))) false 3 [] (rs ++ [rulD (nmU m)]) [] []] := by
  obtain ⟨q, r, hr, rfl⟩ : ∃ q r, r < 16 ∧ m = 16 * q + r := ⟨m / 16, m % 16, by omega, by omega⟩
  have hr0 : r ≠ 0 := by omega
  have e0 : (16 * q + r) / 16 = q := by omega
  have e1 : (16 * q + r + 1 + 15) / 16 = q + 1 := by omega
  have e2 : (16 * q + r + 15) / 16 = q + 1 := by omega
  refine ⟨(List.range q).map (kidD (16 * q + r)), (List.range r).map (fun t => rulD (nmU (16 * q + t))), ?_, by simp; omega, ?_⟩
  · show (List.range ((16 * q + r + 15) / 16)).map (kidD (16 * q + r)) = _
    rw [e2, e0, List.range_succ, List.map_append]
    have : min 16 r = r := by omega
    simp [kidD, this]
  · show (List.range ((16 * q + r + 1 + 15) / 16)).map (kidD (16 * q + r + 1)) = _
    rw [e1, e0, List.range_succ, List.map_append]
    congr 1
    · refine List.map_congr_left fun j hj => ?_
      have hj : j < q := List.mem_range.1 hj
      unfold kidD
      have : min 16 (16 * q + r + 1 - 16 * j) = min 16 (16 * q + r - 16 * j) := by omega
      rw [this]
    · have e4 : 16 * q + r + 1 - 16 * q = r + 1 := by omega
      have e5 : min 16 (r + 1) = r + 1 := by omega
      simp [kidD, e4, e5, List.range_succ]
end Go.Proofs.Ytincnopaclmppaa
