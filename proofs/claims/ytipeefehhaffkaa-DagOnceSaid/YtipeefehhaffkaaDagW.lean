/- The diagram's own functions: New, Branch, leads, right, slices.Index, answer, Len. -/
import Derived.Test.YtipeefehhaffkaaDagMem
import Derived.Test.YtipeefehhaffkaaVRightV
import Derived.Lib.QuietBelow
import Derived.Deep.QuietTactic
namespace Go.Proofs.Ytipeefehhaffkaa
set_option linter.unusedVariables false
open Go.RowKit Go.Sort

def brD (l : List Br) (i : Int) : Br := if 0 ≤ i ∧ i < l.length then l[i.toNat]?.getD ⟨0, 0, 0, 0⟩ else ⟨0, 0, 0, 0⟩
def hasD (l : List Br) (i : Int) : Bool := decide (0 ≤ i ∧ i < l.length)
theorem brD_in {l : List Br} {k : Nat} {x : Br} (h : l[k]? = some x) : brD l (k : Int) = x ∧ hasD l (k : Int) = true := by
  have hl := (List.getElem?_eq_some_iff.1 h).1
  unfold brD hasD
  rw [if_pos ⟨by omega, by omega⟩, Int.toNat_natCast, h]
  exact ⟨rfl, by simpa using hl⟩
theorem brD_out {l : List Br} {i : Int} (h : ¬ (0 ≤ i ∧ i < l.length)) : brD l i = ⟨0, 0, 0, 0⟩ ∧ hasD l i = false := by
  unfold brD hasD
  rw [if_neg h]
  exact ⟨rfl, by simpa using h⟩
theorem ret_br {b : Br} {t : Bool} {p : Br} {q : Bool} (h : p = b ∧ q = t) : Ending.returned (.tuple #[.agg #[.int .i64 b.a, .int .i64 b.x, .int .i64 b.y, .int .i64 b.z], .bool t]) = .returned (.tuple #[p.val, .bool q]) := by
  rw [h.1, h.2]
  rfl
section
variable {w : World} {base g : Nat} {most : Int} {A : Option Addr} {n c : Nat} {l : List Br}
set_option maxRecDepth 100000 in
theorem len_any (h : DgAt 57 w base g most A n c l) : Calls Try.prog 13 #[.pointer (some ⟨g, 0, none⟩)] w fun e w' => e = .returned (.int .i64 (n : Int)) ∧ w = w' := by
  obtain ⟨c0, c1⟩ := h.cells
  clear h
  go_enter Try.func13, Try.ntmps13
  go_wp2_with fail
  go_ret
  exact ⟨rfl, rfl⟩
set_option maxRecDepth 100000 in
theorem branch_any (h : DgAt 57 w base g most A n c l) (i : Int) (hi : InI i) : Calls Try.prog 18 #[.pointer (some ⟨g, 0, none⟩), .int .i64 i] w fun e w' => e = .returned (.tuple #[(brD l i).val, .bool (hasD l i)]) ∧ Below w.heap.size w w' := by
  unfold InI at hi
  obtain ⟨c0, c1⟩ := h.cells
  have hlen := h.len
  have hf := h.few
  have hgl := h.glt
  by_cases hin : 0 ≤ i ∧ i < n
  · obtain ⟨k, rfl⟩ : ∃ k : Nat, i = (k : Int) := ⟨i.toNat, by omega⟩
    obtain ⟨b, o, x, rfl, hbl, hx, _, x0, x1, x2, x3⟩ := h.at_ (k := k) (by omega)
    have HR := Lib.hid (brD_in hx)
    have hkn : (k : Int) < (n : Int) := hin.2
    have hk0 : ¬ (k : Int) < 0 := by omega
    clear h hx hlen
    go_enter Try.func18, Try.ntmps18
    go_wp2_with fail
    try simp only [Exit.inBlock, Exit.then]
    refine bodyPost_ret (br_ret2 rfl rfl rfl (Ob.made _ _ _)) rfl ?_
    exact ⟨ret_br HR.out, below1 _ _⟩
  · have HR := Lib.hid (brD_out (l := l) (i := i) (by rw [hlen]; exact hin))
    by_cases h0 : i < 0
    · clear h hlen hin
      go_enter Try.func18, Try.ntmps18
      go_wp2_with fail
      try simp only [Exit.inBlock, Exit.then]
      refine bodyPost_ret (br_ret2 rfl rfl rfl (Ob.made _ _ _)) rfl ?_
      exact ⟨ret_br HR.out, below1 _ _⟩
    · have h1 : (n : Int) ≤ i := by omega
      clear h hlen hin
      go_enter Try.func18, Try.ntmps18
      go_wp2_with fail
      try simp only [Exit.inBlock, Exit.then]
      refine bodyPost_ret (br_ret2 rfl rfl rfl (Ob.made _ _ _)) rfl ?_
      exact ⟨ret_br HR.out, below1 _ _⟩
theorem way_dec {l : List Br} {a t : Int} : WayOk l a t ↔ (if t < 0 then -1048576 ≤ t else hasD l t = true ∧ a < (brD l t).a) := by
  unfold WayOk
  split
  · exact ⟨fun h => h.1, fun h => ⟨h, by omega, fun h => by omega⟩⟩
  · rename_i h0
    by_cases h : 0 ≤ t ∧ t < l.length
    · have hx := List.getElem?_eq_getElem (show t.toNat < l.length by omega)
      have h1 := brD_in hx
      rw [Int.toNat_of_nonneg h.1] at h1
      rw [atomD_at hx, h1.1, h1.2]
      exact ⟨fun g => ⟨rfl, g.2.2 h.1⟩, fun g => ⟨by omega, h.2, fun _ => g.2⟩⟩
    · have h1 := brD_out h
      rw [h1.2]
      exact ⟨fun g => absurd ⟨by omega, g.2.1⟩ h, fun g => by cases g.1⟩
set_option maxRecDepth 100000 in
theorem leads_any (h : DgAt 57 w base g most A n c l) (a t : Int) (ht : InI t) : Calls Try.prog 24 #[.pointer (some ⟨g, 0, none⟩), .int .i64 a, .int .i64 t] w fun e w' => e = .returned (.bool (decide (WayOk l a t))) ∧ Below w.heap.size w w' := by
  have HB := Lib.hid (branch_any h t ht)
  have HD : Hid (decide (WayOk l a t) = if t < 0 then decide (-1048576 ≤ t) else hasD l t && decide (a < (brD l t).a)) := by
    show _ = _
    rw [Bool.eq_iff_iff, decide_eq_true_eq, way_dec]
    split
    · simp
    · simp
  clear h
  by_cases h0 : t < 0
  · rw [if_pos h0] at HD
    go_enter Try.func24, Try.ntmps24
    go_wp2_with fail
    go_ret
    exact ⟨ret_bool HD.out.symm, Below.refl _ _⟩
  · rw [if_neg h0] at HD
    obtain ⟨b, hb⟩ : ∃ b, brD l t = b := ⟨_, rfl⟩
    rw [hb] at HB HD
    obtain ⟨q, hq⟩ : ∃ q, hasD l t = q := ⟨_, rfl⟩
    rw [hq] at HB HD
    clear hb hq
    obtain ⟨ba, bx, bY, bz⟩ := b
    cases q
    · go_enter Try.func24, Try.ntmps24
      go_wp2_with fail
      refine HB.out.mono ?_
      rintro e w1 ⟨rfl, hb⟩
      simp only [Br.val]
      have HX := Lib.hid hb
      clear hb
      go_wp2_with fail
      go_ret
      exact ⟨ret_bool (by rw [HD.out]; rfl), HX.out.trans ((below1 _ _).mono HX.out.size)⟩
    · go_enter Try.func24, Try.ntmps24
      go_wp2_with fail
      refine HB.out.mono ?_
      rintro e w1 ⟨rfl, hb⟩
      simp only [Br.val]
      have HX := Lib.hid hb
      clear hb
      go_wp2_with fail
      go_ret
      exact ⟨ret_bool (by rw [HD.out, Bool.true_and]), HX.out.trans ((below1 _ _).mono HX.out.size)⟩
end
end Go.Proofs.Ytipeefehhaffkaa
