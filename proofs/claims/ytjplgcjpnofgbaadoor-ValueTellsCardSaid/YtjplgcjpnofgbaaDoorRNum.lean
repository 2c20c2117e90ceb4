/- The reader's Num and In. -/
import Derived.Test.YtjplgcjpnofgbaaDoorReader
import Derived.Test.YtjplgcjpnofgbaaDoorReadSpec
namespace Go.Proofs.YtjplgcjpnofgbaaDoor
open Go.RowKit

theorem half_wrap {v : Nat} (h : v < 18446744073709551616) : wrap64 (IntKind.u64.wrap ((v : Int) / 2)) = (v : Int) / 2 := by
  rw [IntKind.wrap_u64]; unfold wrap64; omega

section
variable {w : World} {bs r p : Nat} {l : List UInt8} {q : Int}

theorem Rdr.move {t : TypeId} {w' : World} {p' : Nat} (h : Rdr w t bs r l p q) (hp : p' ≤ l.length) (h1 : w' = w.setCell ⟨r, 1, none⟩ (.int .i64 (p' : Int))) : Rdr w' t bs r l p' q := by
  obtain ⟨A, n, c, ho, hs, hpn, hn, hlo, had⟩ := h
  subst h1
  have hl := hs.len
  rw [bv_len] at hl
  refine ⟨A, n, c, ?_, hs.keep (fun k hk => ?_), by omega, hn, hlo, had⟩
  · have := ho.put 1 (.int .i64 (p' : Int))
    simpa using this
  · rw [Below.heap_setCell _ _ _ _ (by simp; omega)]
theorem Rdr.drewN {t : TypeId} (h : Rdr w t bs r l p q) (k : Nat) : Rdr (w.drewN k) t bs r l p q := h

set_option maxHeartbeats 1600000 in
theorem rnum_any (h : Rdr w 67 bs r l p q) : Calls Tryd.prog 50 #[.pointer (some ⟨r, 0, none⟩)] w fun e w' =>
    e = .returned (.int .i64 (rNum l p q).1) ∧ Rdr w' 67 bs r l (rNum l p q).2.1 (rNum l p q).2.2 ∧ Only r w w' := by
  have HR := Lib.hid h
  obtain ⟨A, n, c, ho, hs, hp, hn, _, _⟩ := h
  have h0 := ho.cell 0
  have h1 := ho.cell 1
  have h2 := ho.cell 2
  have f0 := ho.frozen 0
  have f1 := ho.frozen 1
  have f2 := ho.frozen 2
  simp only [List.getElem?_toArray, List.getElem?_cons_zero, List.getElem?_cons_succ] at h0 h1 h2
  have hlen := hs.len
  rw [bv_len] at hlen
  have HL := Lib.hid hlen
  have hnc := hs.le
  have hcap := hs.cap
  unfold maxLen at hcap
  by_cases hq : q = 0
  · subst hq
    have hpc : ∀ k, Calls Tryd.prog 59 #[.slice (if c = p then A else A.map (·.add p)) (n - p) (c - p)] (w.drewN k) fun e w' =>
        e = .returned (.tuple #[.int .u64 ((pcs (l.drop p)).1 : Int), .int .i64 ((pcs (l.drop p)).2 : Int)]) ∧ w' = w.drewN k := fun k => by
      have hsl : Sl (w.drewN k) r (if c = p then A else A.map (·.add p)) (n - p) (c - p) (bv (l.drop p)) := by rw [bv_drop]; exact (hs.drop hp).drewN k
      exact (pieces_any hsl).mono fun _ _ hh => ⟨hh.1, hh.2.symm⟩
    have hfl : ∀ k, Calls Tryd.prog 51 #[.pointer (some ⟨r, 0, none⟩), .int .i64 (p : Int)] (w.drewN k) fun e w' =>
        e = .returned (.tuple #[]) ∧ Rdr w' 67 bs r l p 7 ∧ Only r w w' := fun k => by
      refine (fail_any (p : Int) (HR.out.drewN k)).mono fun _ _ hh => ?_
      unfold failTo at hh
      rw [if_neg (by omega)] at hh
      obtain ⟨e1, e2, e3, _⟩ := hh
      exact ⟨e1, by simpa using e2, ⟨e3.os, e3.tape, e3.output, e3.size, e3.block⟩⟩
    cases hd : dec 0 0 (l.drop p) with
    | none =>
      have e : pcs (l.drop p) = (0, 0) := by unfold pcs; rw [hd]; rfl
      rw [e] at hpc
      have HFL := Lib.hid hfl
      have HD := Lib.hid hd
      clear hd e hs ho hlen hfl
      rcases Nat.lt_or_ge p c with hpc1 | hpc1
      · have hcp : ¬ c = p := by omega
        rw [if_neg hcp] at hpc
        have HPC := Lib.hid hpc
        clear hpc
        go_enter Tryd.func50, Tryd.ntmps50
        go_wp2_with fail
        go_quiet ((go_at_call 59; exact Calls.quiet_of_same (HPC.out _)))
        go_wp2_with fail
        refine (HFL.out _).mono ?_
        rintro e w1 ⟨rfl, hr1, ho1⟩
        have HR1 := Lib.hid hr1
        have HO1 := Lib.hid ho1
        clear hr1 ho1
        go_wp2_with fail
        go_ret
        rw [rNum_none HD.out]
        exact ⟨rfl, HR1.out, HO1.out⟩
      · obtain rfl : c = p := by omega
        obtain rfl : n = c := by omega
        rw [if_pos rfl] at hpc
        simp only [Nat.sub_self] at hpc
        have HPC := Lib.hid hpc
        clear hpc
        go_enter Tryd.func50, Tryd.ntmps50
        go_wp2_with fail
        go_quiet ((go_at_call 59; exact Calls.quiet_of_same (HPC.out _)))
        go_wp2_with fail
        refine (HFL.out _).mono ?_
        rintro e w1 ⟨rfl, hr1, ho1⟩
        have HR1 := Lib.hid hr1
        have HO1 := Lib.hid ho1
        clear hr1 ho1
        go_wp2_with fail
        go_ret
        rw [rNum_none HD.out]
        exact ⟨rfl, HR1.out, HO1.out⟩
    | some vk =>
      obtain ⟨v, k⟩ := vk
      have e : pcs (l.drop p) = (v, k) := by unfold pcs; rw [hd]; rfl
      rw [e] at hpc
      obtain ⟨k1, k2, k3, _⟩ := dec_some hd
      have hv := dec_lt hd (by simp)
      rw [List.length_drop] at k2
      have hk0 : ((k : Int) == 0) = false := by rw [beq_eq_false_iff_ne]; omega
      have HV := Lib.hid hv
      have HPC0 := hpc
      have hcp : ¬ c = p := by omega
      rw [if_neg hcp] at hpc
      have HPC := Lib.hid hpc
      have HD := Lib.hid hd
      have hkk : p + k ≤ n := by omega
      clear hpc HPC0 hd e hs ho hlen hfl hv k2
      by_cases hodd : v % 2 = 1
      all_goals
        have hpar : ((v : Int) % 2 == 1) = decide (v % 2 = 1) := by rw [Bool.eq_iff_iff, beq_iff_eq, decide_eq_true_iff]; omega
        simp only [hodd, decide_true, decide_false] at hpar
        have HODD := Lib.hid hodd
        clear hodd
        go_enter Tryd.func50, Tryd.ntmps50
        go_wp2_with fail
        go_quiet ((go_at_call 59; exact Calls.quiet_of_same (HPC.out _)))
        go_wp2_with fail
        go_ret
        rw [rNum_some HD.out]
        have hvv := HV.out
        have hoo := HODD.out
        refine ⟨ret_int ?_, (HR.out.drewN nq).move (p' := p + k) (by have := HL.out; omega) (by simp), (Only.refl.drewN nq).setCell (p := ⟨r, 1, none⟩) rfl _⟩
        show _ = zag v
        unfold zag
        first
          | (rw [if_pos hoo, half_wrap hvv, i64_inv (by omega) (by omega)]; simp)
          | (rw [if_neg hoo, half_wrap hvv]; simp)
  · have hq' : (q != 0) = true := by rw [bne_iff_ne]; exact hq
    have HQ := Lib.hid hq
    clear hq ho hs
    go_enter Tryd.func50, Tryd.ntmps50
    go_wp2_with fail
    go_ret
    rw [rNum_bad HQ.out]
    exact ⟨rfl, HR.out, Only.refl⟩
end
end Go.Proofs.YtjplgcjpnofgbaaDoor
