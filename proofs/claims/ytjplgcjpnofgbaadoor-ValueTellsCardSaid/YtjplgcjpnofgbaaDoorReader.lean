/- The reader's methods: At, Wrong, End, Fail. -/
import Derived.Test.YtjplgcjpnofgbaaDoorPieces
import Derived.StillTactics
namespace Go.Proofs.YtjplgcjpnofgbaaDoor
open Go.RowKit

section
variable {w : World} {bs r p : Nat} {l : List UInt8} {q : Int}

theorem at_any (h : Rdr w 67 bs r l p q) : Calls Tryd.prog 35 #[.pointer (some ⟨r, 0, none⟩)] w fun e w' => e = .returned (.int .i64 (p : Int)) ∧ w = w' := by
  obtain ⟨A, n, c, ho, hs, hp, hn, _, _⟩ := h
  have h0 := ho.cell 0
  have h1 := ho.cell 1
  have h2 := ho.cell 2
  simp only [List.getElem?_toArray, List.getElem?_cons_zero, List.getElem?_cons_succ] at h0 h1 h2
  clear ho hs
  go_enter Tryd.func35, Tryd.ntmps35
  go_wp2_with fail
  go_ret
  exact ⟨rfl, rfl⟩

theorem wrong_any (h : Rdr w 67 bs r l p q) : Calls Tryd.prog 34 #[.pointer (some ⟨r, 0, none⟩)] w fun e w' => e = .returned (.int .i64 q) ∧ w = w' := by
  obtain ⟨A, n, c, ho, hs, hp, hn, _, _⟩ := h
  have h0 := ho.cell 0
  have h1 := ho.cell 1
  have h2 := ho.cell 2
  simp only [List.getElem?_toArray, List.getElem?_cons_zero, List.getElem?_cons_succ] at h0 h1 h2
  clear ho hs
  go_enter Tryd.func34, Tryd.ntmps34
  go_wp2_with fail
  go_ret
  exact ⟨rfl, rfl⟩

/-- What End answers. -/
def endOf (l : List UInt8) (p : Nat) (q : Int) : Int := if q ≠ 0 then q else if p < l.length then 7 else 0

theorem end_any (h : Rdr w 67 bs r l p q) : Calls Tryd.prog 36 #[.pointer (some ⟨r, 0, none⟩)] w fun e w' => e = .returned (.int .i64 (endOf l p q)) ∧ ∃ k, w' = w.drewN k := by
  obtain ⟨A, n, c, ho, hs, hp, hn, _, _⟩ := h
  have h0 := ho.cell 0
  have h1 := ho.cell 1
  have h2 := ho.cell 2
  simp only [List.getElem?_toArray, List.getElem?_cons_zero, List.getElem?_cons_succ] at h0 h1 h2
  have hlen := hs.len
  rw [bv_len] at hlen
  have HL := Lib.hid hlen
  clear ho hs hlen
  by_cases hq : q = 0
  · subst hq
    by_cases hlt : p < n
    · have hd : decide ((p : Int) < (n : Int)) = true := by simp; omega
      go_enter Tryd.func36, Tryd.ntmps36
      go_wp2_with fail
      go_quiet (fail)
      go_wp2_with fail
      go_ret
      exact ⟨ret_int (by unfold endOf; rw [if_neg (by simp), if_pos (by have := HL.out; omega)]), _, rfl⟩
    · have hd : decide ((p : Int) < (n : Int)) = false := by simp; omega
      go_enter Tryd.func36, Tryd.ntmps36
      go_wp2_with fail
      go_quiet (fail)
      go_wp2_with fail
      go_ret
      exact ⟨ret_int (by unfold endOf; rw [if_neg (by simp), if_neg (by have := HL.out; omega)]), _, rfl⟩
  · have hq' : (q != 0) = true := by rw [bne_iff_ne]; exact hq
    have HQ := Lib.hid hq
    clear hq
    go_enter Tryd.func36, Tryd.ntmps36
    go_wp2_with fail
    go_ret
    exact ⟨ret_int (by unfold endOf; rw [if_pos HQ.out]), 0, rfl⟩

/-- The place and what is wrong behind Fail. -/
def failTo (p : Nat) (q a : Int) : Nat × Int := if q ≠ 0 ∨ a < 0 ∨ (p : Int) < a then (p, q) else (a.toNat, 7)

theorem Rdr.put {t : TypeId} {w' : World} {p' : Nat} {q' : Int} (h : Rdr w t bs r l p q) (hp : p' ≤ p) (h1 : w' = (w.setCell ⟨r, 2, none⟩ (.int .i64 q')).setCell ⟨r, 1, none⟩ (.int .i64 (p' : Int))) : Rdr w' t bs r l p' q' := by
  obtain ⟨A, n, c, ho, hs, hpn, hn, hlo, had⟩ := h
  subst h1
  refine ⟨A, n, c, ?_, hs.keep (fun k hk => ?_), by omega, hn, hlo, had⟩
  · have := (ho.put 2 (.int .i64 q')).put 1 (.int .i64 (p' : Int))
    simpa using this
  · rw [Below.heap_setCell _ _ _ _ (by simp; omega), Below.heap_setCell _ _ _ _ (by simp; omega)]

set_option maxHeartbeats 800000 in
theorem fail_any (a : Int) (h : Rdr w 67 bs r l p q) : Calls Tryd.prog 51 #[.pointer (some ⟨r, 0, none⟩), .int .i64 a] w fun e w' =>
    e = .returned (.tuple #[]) ∧ Rdr w' 67 bs r l (failTo p q a).1 (failTo p q a).2 ∧ Only r w w' ∧ w'.heap.size = w.heap.size := by
  have HR := Lib.hid h
  obtain ⟨A, n, c, ho, hs, hp, hn, _, _⟩ := h
  have h0 := ho.cell 0
  have h1 := ho.cell 1
  have h2 := ho.cell 2
  have f0 := ho.frozen 0
  have f1 := ho.frozen 1
  have f2 := ho.frozen 2
  simp only [List.getElem?_toArray, List.getElem?_cons_zero, List.getElem?_cons_succ] at h0 h1 h2
  clear ho hs
  have same : (q ≠ 0 ∨ a < 0 ∨ (p : Int) < a) → Hid (Rdr w 67 bs r l (failTo p q a).1 (failTo p q a).2) := fun h => by
    show Rdr _ _ _ _ _ _ _
    unfold failTo
    rw [if_pos h]
    exact HR.out
  by_cases hq : q = 0
  · by_cases h3 : a < 0
    · have S := same (by omega)
      clear same
      subst hq
      go_enter Tryd.func51, Tryd.ntmps51
      go_wp2_with fail
      refine bodyPost_ret (results_none rfl _ _ _) rfl ?_
      exact ⟨rfl, S.out, Only.refl, rfl⟩
    · by_cases h4 : (p : Int) < a
      · have S := same (by omega)
        clear same
        subst hq
        go_enter Tryd.func51, Tryd.ntmps51
        go_wp2_with fail
        refine bodyPost_ret (results_none rfl _ _ _) rfl ?_
        exact ⟨rfl, S.out, Only.refl, rfl⟩
      · clear same
        subst hq
        have S : Hid ((failTo p 0 a) = (a.toNat, 7)) := by show _ = _; unfold failTo; rw [if_neg (by omega)]
        go_enter Tryd.func51, Tryd.ntmps51
        go_wp2_with fail
        go_end0
        refine ⟨rfl, ?_, ?_, ?_⟩
        · rw [S.out]
          exact HR.out.put (by omega) (by rw [Int.toNat_of_nonneg (by omega)])
        · exact (Only.refl.setCell (p := ⟨r, 2, none⟩) rfl _).setCell (p := ⟨r, 1, none⟩) rfl _
        · simp [World.setCell]
  · have S := same (.inl hq)
    clear same
    have hq' : (q != 0) = true := by rw [bne_iff_ne]; exact hq
    clear hq
    go_enter Tryd.func51, Tryd.ntmps51
    go_wp2_with fail
    refine bodyPost_ret (results_none rfl _ _ _) rfl ?_
    exact ⟨rfl, S.out, Only.refl, rfl⟩
end
end Go.Proofs.YtjplgcjpnofgbaaDoor
