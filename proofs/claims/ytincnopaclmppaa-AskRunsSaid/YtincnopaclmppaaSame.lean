/- bailiffbook.Same over bytes: so just if the two rows are the same; nothing but draws. -/
import Derived.Test.YtincnopaclmppaaMem
namespace Go.Proofs.Ytincnopaclmppaa
open Go.RowKit

theorem take_step {α : Type} [DecidableEq α] {l m : List α} {k : Nat} (h1 : k < l.length) (h2 : k < m.length) (h : l.take k = m.take k) (he : l[k] = m[k]) : l.take (k + 1) = m.take (k + 1) := by
  rw [List.take_succ_eq_append_getElem h1, List.take_succ_eq_append_getElem h2, h, he]

set_option maxHeartbeats 800000 in
theorem same_any {w : World} {B B' n c n' c' : Nat} {A A' : Option Addr} {l m : List UInt8} (h : Sl w B A n c (bv l)) (h' : Sl w B' A' n' c' (bv m)) :
    Calls Try.prog 14 #[.slice A n c, .slice A' n' c'] w fun e w' => e = .returned (.bool (decide (l = m))) ∧ ∃ k, w' = w.drewN k := by
  have hl : l.length = n := by rw [← bv_len]; exact h.1
  have hm : m.length = n' := by rw [← bv_len]; exact h'.1
  have hcap := h.cap
  have hle := h.le
  unfold maxLen at hcap
  by_cases hn : n = n'
  · subst hn
    have H := Lib.hid h
    have H' := Lib.hid h'
    clear h h'
    have HL := Lib.hid hl
    have HM := Lib.hid hm
    clear hl hm
    go_enter Try.func14, Try.ntmps14
    go_wp2
    go_loopw [5] (fun i wr => ∃ k : Nat, k ≤ n ∧ i = .int .i64 k ∧ l.take k = m.take k ∧ ∃ q, wr = w.drewN q) (fun i _ => n - (intOf i).toNat)
    case atStart => exact ⟨0, Nat.zero_le _, rfl, rfl, 0, rfl⟩
    case round =>
      obtain ⟨k, hk, rfl, ht, q, rfl⟩ := hrel
      have HT := Lib.hid ht
      clear ht
      by_cases hlt : k < n
      · obtain ⟨b, o, rfl, _, hkl, hc⟩ := H.out.byte hlt
        obtain ⟨b', o', rfl, _, hkm, hc'⟩ := H'.out.byte hlt
        by_cases he : l[k] = m[k]
        · have hne : ((l[k].toNat : Int) != (m[k].toNat : Int)) = false := by rw [bytes_ne, he]; simp
          have HE := Lib.hid he
          clear he
          go_wp2_with fail
          go_quiet (fail)
          go_wp2
          go_roundw
          case rel => exact ⟨k + 1, by omega, by go_num, take_step hkl hkm HT.out HE.out, _, rfl⟩
          case measure => simp [intOf]; omega
        · have hne : ((l[k].toNat : Int) != (m[k].toNat : Int)) = true := by rw [bytes_ne]; simpa using he
          have HE := Lib.hid he
          clear he
          go_wp2_with fail
          go_quiet (fail)
          go_wp2
          go_ret
          refine ⟨ret_bool ?_, _, World.drewN_drewN ..⟩
          symm
          rw [decide_eq_false_iff_not]
          rintro rfl
          exact HE.out rfl
      · obtain rfl : k = n := by omega
        go_wp2
        go_ret
        refine ⟨ret_bool ?_, _, rfl⟩
        symm
        rw [decide_eq_true_iff]
        have := HT.out
        rwa [List.take_of_length_le (by rw [HL.out]; omega), List.take_of_length_le (by rw [HM.out]; omega)] at this
  · have hne : ((n : Int) != (n' : Int)) = true := by rw [bne_iff_ne]; omega
    have HL := Lib.hid hl
    have HM := Lib.hid hm
    clear hl hm h h'
    go_enter Try.func14, Try.ntmps14
    go_wp2
    go_ret
    refine ⟨ret_bool ?_, 0, rfl⟩
    symm
    rw [decide_eq_false_iff_not]
    rintro rfl
    exact hn (HL.out.symm.trans HM.out)

theorem same_true {w : World} {B B' n c n' c' : Nat} {A A' : Option Addr} {l m : List UInt8} (h : Sl w B A n c (bv l)) (h' : Sl w B' A' n' c' (bv m)) (e : l = m) :
    Calls Try.prog 14 #[.slice A n c, .slice A' n' c'] w fun e w' => e = .returned (.bool true) ∧ Below w.heap.size w w' :=
  (same_any h h').mono fun _ _ hh => ⟨by rw [hh.1, decide_eq_true e], by obtain ⟨k, hk⟩ := hh.2; rw [hk]; exact below_drewN (Below.refl _ _) k⟩

end Go.Proofs.Ytincnopaclmppaa
