/- ParseWords: the walk. -/
import Derived.Test.YthppdgiobflfpaaNineI
import Derived.Test.YthppdgiobflfpaaParWords
import Derived.Test.YthppdgiobflfpaaWithin
namespace Go.Proofs.Ythppdgiobflfpaa
set_option linter.unusedVariables false
open Go.RowKit Go.Sort

/-- The word of a number. -/
def wordOf (n : Int) : ByteArray := wordsL[(withinOf n 0 13).toNat]?.getD ⟨#[]⟩
theorem wordOf_mem (n : Int) : wordOf n ∈ wordsL := by
  unfold wordOf
  have h : (withinOf n 0 13).toNat < wordsL.length := by show _ < 14; unfold withinOf; omega
  rw [List.getElem?_eq_getElem h]
  exact List.getElem_mem h
theorem word_any (n : Int) (w : World) : Calls Try.prog 14 #[.int .i64 n] w fun e w' => e = .returned (.string (wordOf n)) ∧ Below w.heap.size w w' := by
  have HW := Lib.hid (fun w => within_any (n := n) (lo := 0) (hi := 13) (w := w) (by omega) (by omega) (by omega))
  obtain ⟨k, hk, ek⟩ : ∃ k : Nat, k ≤ 13 ∧ withinOf n 0 13 = (k : Int) := ⟨(withinOf n 0 13).toNat, by unfold withinOf; omega, by unfold withinOf; omega⟩
  rw [ek] at HW
  have hc := (Ob.made w 9 #[.string ⟨#[112, 111, 108, 105, 99, 121]⟩, .string ⟨#[115, 101, 116]⟩, .string ⟨#[119, 104, 101, 110]⟩, .string ⟨#[105, 102]⟩, .string ⟨#[111, 110]⟩, .string ⟨#[97, 110, 100]⟩, .string ⟨#[111, 114]⟩, .string ⟨#[112, 101, 114, 109, 105, 116]⟩, .string ⟨#[100, 101, 110, 121]⟩, .string ⟨#[108, 111, 103]⟩, .string ⟨#[115, 117, 98, 106, 101, 99, 116]⟩, .string ⟨#[116, 114, 117, 101]⟩, .string ⟨#[110, 111, 116]⟩, .string ⟨#[120, 49]⟩]).cell k
  have hw : wordOf n = wordsL[k]?.getD ⟨#[]⟩ := by unfold wordOf; rw [ek]; rfl
  have hlt : k < wordsL.length := by show k < 14; omega
  have hc2 : (#[.string ⟨#[112, 111, 108, 105, 99, 121]⟩, .string ⟨#[115, 101, 116]⟩, .string ⟨#[119, 104, 101, 110]⟩, .string ⟨#[105, 102]⟩, .string ⟨#[111, 110]⟩, .string ⟨#[97, 110, 100]⟩, .string ⟨#[111, 114]⟩, .string ⟨#[112, 101, 114, 109, 105, 116]⟩, .string ⟨#[100, 101, 110, 121]⟩, .string ⟨#[108, 111, 103]⟩, .string ⟨#[115, 117, 98, 106, 101, 99, 116]⟩, .string ⟨#[116, 114, 117, 101]⟩, .string ⟨#[110, 111, 116]⟩, .string ⟨#[120, 49]⟩] : Array Value)[k]? = some (.string (wordOf n)) := by
    rw [hw, List.getElem?_eq_getElem hlt]
    have : (#[.string ⟨#[112, 111, 108, 105, 99, 121]⟩, .string ⟨#[115, 101, 116]⟩, .string ⟨#[119, 104, 101, 110]⟩, .string ⟨#[105, 102]⟩, .string ⟨#[111, 110]⟩, .string ⟨#[97, 110, 100]⟩, .string ⟨#[111, 114]⟩, .string ⟨#[112, 101, 114, 109, 105, 116]⟩, .string ⟨#[100, 101, 110, 121]⟩, .string ⟨#[108, 111, 103]⟩, .string ⟨#[115, 117, 98, 106, 101, 99, 116]⟩, .string ⟨#[116, 114, 117, 101]⟩, .string ⟨#[110, 111, 116]⟩, .string ⟨#[120, 49]⟩] : Array Value) = (wordsL.map Value.string).toArray := rfl
    rw [this, List.getElem?_toArray, List.getElem?_map, List.getElem?_eq_getElem hlt]
    rfl
  rw [hc2] at hc
  have hk2 : (k : Int) < 14 := by omega
  have HB : Hid (Below w.heap.size w (w.alloc (.cells #[.string ⟨#[112, 111, 108, 105, 99, 121]⟩, .string ⟨#[115, 101, 116]⟩, .string ⟨#[119, 104, 101, 110]⟩, .string ⟨#[105, 102]⟩, .string ⟨#[111, 110]⟩, .string ⟨#[97, 110, 100]⟩, .string ⟨#[111, 114]⟩, .string ⟨#[112, 101, 114, 109, 105, 116]⟩, .string ⟨#[100, 101, 110, 121]⟩, .string ⟨#[108, 111, 103]⟩, .string ⟨#[115, 117, 98, 106, 101, 99, 116]⟩, .string ⟨#[116, 114, 117, 101]⟩, .string ⟨#[110, 111, 116]⟩, .string ⟨#[120, 49]⟩] 9))) := (Below.refl _ _).alloc (Nat.le_refl _) _
  clear hc2 hw hlt ek
  go_enter Try.func14, Try.ntmps14
  go_wp2_with fail
  go_at_call 13
  refine (HW.out _).mono ?_
  rintro x w1 ⟨rfl, rfl⟩
  go_wp2_with fail
  go_ret
  exact ⟨rfl, HB.out⟩
end Go.Proofs.Ythppdgiobflfpaa
