/- The texts of values: the project's and the reference's. -/
import Derived.Test.YtpedfkigneahgaaDoorVRightV
import Derived.Test.YtpedfkigneahgaaDoorVQuoteV
import Derived.Test.YtpedfkigneahgaaDoorVDigitsM
import Derived.Test.YtpedfkigneahgaaDoorLaidV
namespace Go.Proofs.YtpedfkigneahgaaDoor
set_option linter.unusedVariables false
open Go.RowKit

theorem show_wrong {v : Vl} (h : ¬ v.right) : showB v = [] := by unfold showB; rw [if_neg h]
theorem show1 {n : Int} {s : ByteArray} (h : Vl.right ⟨1, n, s⟩) : showB ⟨1, n, s⟩ = Lib.formatBool (n == 1) := by
  unfold showB
  rw [if_pos h, if_pos rfl]
  by_cases hn : n = 1
  · subst hn; rfl
  · rw [if_neg hn, show (n == 1) = false from by rw [beq_eq_false_iff_ne]; exact hn]; rfl
theorem show2 {n : Int} {s : ByteArray} (h : Vl.right ⟨2, n, s⟩) : showB ⟨2, n, s⟩ = Lib.itoa n := by unfold showB; rw [if_pos h]; simp
theorem show3 {n : Int} {s : ByteArray} (h : Vl.right ⟨3, n, s⟩) : showB ⟨3, n, s⟩ = quoteB s.data.toList := by unfold showB; rw [if_pos h]; simp [Vl.l]
theorem show4 {n : Int} {s : ByteArray} (h : Vl.right ⟨4, n, s⟩) : showB ⟨4, n, s⟩ = 64 :: Lib.itoa n := by unfold showB; rw [if_pos h]; simp
theorem show5 {n : Int} {s : ByteArray} (h : Vl.right ⟨5, n, s⟩) : showB ⟨5, n, s⟩ = 35 :: s.data.toList := by unfold showB; rw [if_pos h]; simp [Vl.l]
theorem ret_str {x y : ByteArray} (h : x = y) : Ending.returned (.string x) = .returned (.string y) := by rw [h]
theorem mk_self (s : ByteArray) : (⟨s.data.toList.toArray⟩ : ByteArray) = s := by simp

theorem str_add_s (a : List UInt8) (s : ByteArray) : (⟨a.toArray⟩ : ByteArray) ++ s = ⟨(a ++ s.data.toList).toArray⟩ := by rw [← str_add, mk_self]

set_option maxHeartbeats 3200000 in
theorem vtext_any (k n : Int) (s : ByteArray) (hn : -9223372036854775808 ≤ n ∧ n ≤ 9223372036854775807) (hs : s.size ≤ 1000000) (w : World) (htab : Tab w) :
    Calls Tryd.prog 10 #[.agg #[.int .i64 k, .int .i64 n, .string s]] w fun e w' => e = .returned (.string ⟨(showB ⟨k, n, s⟩).toArray⟩) ∧ Below w.heap.size w w' := by
  have hr := right_any k n s (by unfold maxLen; omega)
  have ht : ∀ w', Below w.heap.size w w' → Tab w' := fun w' hb => htab.then_ hb
  have HT := Lib.hid ht
  have HN := Lib.hid hn
  have hq := quoted_any s hs
  have HQ := Lib.hid hq
  have HS := Lib.hid (data_len s)
  clear ht htab hn hq
  by_cases h1 : RightV k n s.data.toList
  · rw [decide_eq_true h1] at hr
    have HR := Lib.hid hr
    have H1 : Hid (Vl.right ⟨k, n, s⟩) := h1
    have hkk : k = 1 ∨ k = 2 ∨ k = 3 ∨ k = 4 ∨ k = 5 := by
      rcases kind_cases k with h | h | h | h | h | h
      · exact .inl h
      · exact .inr (.inl h)
      · exact .inr (.inr (.inl h))
      · exact .inr (.inr (.inr (.inl h)))
      · exact .inr (.inr (.inr (.inr h)))
      · exact absurd h1 (rv_none h)
    clear hr h1
    rcases hkk with rfl | rfl | rfl | rfl | rfl
    all_goals
      go_enter Tryd.func10, Tryd.ntmps10
      go_wp2_with fail
      refine (HR.out _).mono ?_
      rintro e w1 ⟨rfl, hb1⟩
      have b1 := ((Bx.made w _ n s).then_ hb1).c3
      have D1 := Lib.hid (Below.lit hb1)
      clear hb1
    · go_wp2_with fail
      refine (Tryd.strconv_FormatBool _ _).mono ?_
      rintro e w2 ⟨rfl, rfl⟩
      go_wp2_with fail
      go_ret
      exact ⟨ret_str (by rw [show1 H1.out]), D1.out⟩
    · go_wp2_with fail
      refine (itoa_any (HT.out _ D1.out) n HN.out.1 HN.out.2).mono ?_
      rintro e w2 ⟨rfl, hb2⟩
      have D2 := Lib.hid (below_step D1.out hb2)
      clear hb2
      go_wp2_with fail
      go_ret
      exact ⟨ret_str (by rw [show2 H1.out]), D2.out⟩
    · go_wp2_with fail
      refine (HQ.out _).mono ?_
      rintro e w2 ⟨rfl, hb2⟩
      have D2 := Lib.hid (below_step D1.out hb2)
      clear hb2
      go_wp2_with fail
      go_ret
      exact ⟨ret_str (by rw [show3 H1.out]), D2.out⟩
    · go_wp2_with fail
      refine (itoa_any (HT.out _ D1.out) n HN.out.1 HN.out.2).mono ?_
      rintro e w2 ⟨rfl, hb2⟩
      have D2 := Lib.hid (below_step D1.out hb2)
      have hlen := Lib.itoa_length_le n HN.out.1 HN.out.2
      have HI := Lib.hid (show (⟨#[64]⟩ : ByteArray) ++ ⟨(Lib.itoa n).toArray⟩ = ⟨(showB ⟨4, n, s⟩).toArray⟩ by
        rw [show4 H1.out, show (⟨#[64]⟩ : ByteArray) = ⟨[64].toArray⟩ from rfl, str_add]; rfl)
      clear hb2
      generalize Lib.itoa n = li at *
      go_wp2_with fail
      go_ret
      exact ⟨ret_str HI.out, D2.out⟩
    · have HI := Lib.hid (show (⟨#[35]⟩ : ByteArray) ++ s = ⟨(showB ⟨5, n, s⟩).toArray⟩ by
        rw [show5 H1.out, show (⟨#[35]⟩ : ByteArray) = ⟨[35].toArray⟩ from rfl, str_add_s]; rfl)
      have hle : ¬ 9223372036854775807 < 1 + s.size := by omega
      go_wp2_with fail
      go_ret
      exact ⟨ret_str HI.out, D1.out⟩
  · rw [decide_eq_false h1] at hr
    have HR := Lib.hid hr
    have H1 : Hid (¬ Vl.right ⟨k, n, s⟩) := h1
    clear hr h1
    go_enter Tryd.func10, Tryd.ntmps10
    go_wp2_with fail
    refine (HR.out _).mono ?_
    rintro e w1 ⟨rfl, hb1⟩
    have D1 := Lib.hid (Below.lit hb1)
    clear hb1
    go_wp2_with fail
    go_ret
    exact ⟨ret_str (by rw [show_wrong H1.out]), D1.out⟩

end Go.Proofs.YtpedfkigneahgaaDoor
