/- LexValues: the walk. -/
import Derived.Test.YtpedfkigneahgaaDoorLexRuns
import Derived.Test.YtpedfkigneahgaaDoorLexVal
import Derived.Test.YtpedfkigneahgaaDoorVShowV
import Derived.Test.YtpedfkigneahgaaDoorLaid7
import Derived.Test.YtpedfkigneahgaaDoorOpenVal
import Derived.Deep.CutRange
import Derived.Lib.MinMax
namespace Go.Proofs.YtpedfkigneahgaaDoor
set_option linter.unusedVariables false
open Go.RowKit

theorem show_len {v : Vl} (h : v.right) (hn : -9223372036854775808 ≤ v.n ∧ v.n ≤ 9223372036854775807) : (showB v).length ≤ 400 := by
  have hr := h
  unfold Vl.right RightV at hr
  have hi := Lib.itoa_length_le v.n hn.1 hn.2
  have hq := quoteL_len v.l
  rcases show_cases h with ⟨_, _, ⟨_, hs⟩ | ⟨_, hs⟩⟩ | ⟨_, _, hs⟩ | ⟨hk, _, hs⟩ | ⟨_, _, hs⟩ | ⟨hk, _, hs⟩
  all_goals rw [hs]
  · simp
  · simp
  · omega
  · have : v.l.length ≤ 64 := by rcases hr with h | h | h | h | h <;> omega
    unfold quoteB
    simp
    omega
  · simp; omega
  · have : v.l.length ≤ 16 := by rcases hr with h | h | h | h | h <;> first | exact h.2.2.1.2 | omega
    simp; omega
theorem lexP_ok {W w' : World} {ts : List Tk} {e : Ending} (h : AllP W (.ok ts) e w') : ∃ (A : Option Addr) (n c : Nat), e = .returned (.tuple #[.slice A n c, .int .i64 0, .int .i64 0]) ∧ Ts w' w'.heap.size A n c ts ∧ ts.length = n ∧ Below W.heap.size W w' := by
  obtain ⟨A, n, c, rfl, ho, hb⟩ := h
  exact ⟨A, n, c, rfl, Ts.of_own ho, by have := ho.1; rw [cells4_len] at this; omega, hb⟩

set_option maxRecDepth 100000 in
set_option maxHeartbeats 3200000 in
theorem lexValues_walk (w : World) (a : Vl) (ha : a.ok) (htab : Tab w) : Calls Tryd.prog 4 #[a.val] w fun e w' => e = .returned (.bool true) ∧ Below w.heap.size w w' := by
  have HT := Lib.hid (fun w' (hb : Below w.heap.size w w') => htab.then_ hb)
  obtain ⟨k, n, s⟩ := a
  have hk := ha.1
  have hn := ha.2.1
  have hs := ha.2.2
  dsimp only at hk hn hs
  have hsz : (s.extract 0 (min (s.size : Int) 70).toNat).size ≤ 70 := by rw [ByteArray.size_extract]; omega
  have hma : min (s.size : Int) 70 ≤ (s.size : Int) := by omega
  have hma2 : 0 ≤ min (s.size : Int) 70 := by omega
  have HN := Lib.hid hn
  have HR := Lib.hid (fun w => lexruns_any w)
  unfold maxLen at hs
  clear ha htab hk hn
  show Calls _ _ #[.agg #[.int .i64 k, .int .i64 n, .string s]] w _
  go_enter Tryd.func4, Tryd.ntmps4
  go_upto_region 2 with fail
  generalize s.extract 0 (min (s.size : Int) 70).toNat = t at *
  have B0 := Lib.hid (Bx.made w k n t)
  have D0 := Lib.hid ((Below.refl w.heap.size w).alloc (Nat.le_refl _) (.cells #[.int .i64 k, .int .i64 n, .string t] 34))
  obtain ⟨w0, hw0⟩ : ∃ w0, w0 = w.alloc (.cells #[.int .i64 k, .int .i64 n, .string t] 34) := ⟨_, rfl⟩
  rw [← hw0] at B0 D0 ⊢
  clear hw0 hma hma2 hs
  have b0 := B0.out.c3
  by_cases hr : RightV k n t.data.toList
  · have hri := fun w => right_any k n t (by unfold maxLen; omega) w
    rw [decide_eq_true hr] at hri
    have HRI := Lib.hid hri
    have hv : Vl.right ⟨k, n, t⟩ := hr
    obtain ⟨k1, n1, s1, hlex, hways⟩ := lex_show hv HN.out
    have hlen := show_len hv HN.out
    have HA := Lib.hid (fun w => all_any ⟨(showB ⟨k, n, t⟩).toArray⟩ (by show (showB ⟨k, n, t⟩).toArray.size ≤ 4096; rw [List.size_toArray]; omega) w)
    rw [show (⟨(showB ⟨k, n, t⟩).toArray⟩ : ByteArray).data.toList = showB ⟨k, n, t⟩ by simp, hlex] at HA
    have HX := Lib.hid (fun w (ht : Tab w) => vtext_any k n t HN.out (by omega) w ht)
    clear hr hri hv hlex hlen
    generalize (⟨(showB ⟨k, n, t⟩).toArray⟩ : ByteArray) = tx at *
    go_wp2_with fail
    refine (HRI.out _).mono ?_
    rintro e w1 ⟨rfl, hb1⟩
    have B1 := Lib.hid (B0.out.then_ hb1)
    have D1 := Lib.hid (D0.out.trans (hb1.mono D0.out.size))
    have b1 := B1.out.c3
    clear hb1 b0
    go_wp2_with fail
    refine (HX.out _ (HT.out _ D1.out)).mono ?_
    rintro e w2 ⟨rfl, hb2⟩
    have B2 := Lib.hid (B1.out.then_ hb2)
    have D2 := Lib.hid (D1.out.trans (hb2.mono D1.out.size))
    clear hb2 b1
    go_wp2_with fail
    refine (HA.out _).mono ?_
    intro e w3 h3
    obtain ⟨A, m, c, rfl, tl, hl, hb3⟩ := lexP_ok h3
    have hm : m = 2 := by rw [← hl]; rfl
    subst hm
    obtain ⟨bx, ox, vx, hAx, hbx, hvx, x0, x1, x2, x3⟩ := tl.at_ (k := 0) (by omega)
    subst hAx
    obtain rfl := Option.some.inj hvx
    dsimp only at x0 x1 x2 x3
    simp only [Nat.zero_mul, Nat.add_zero] at x0 x1 x2 x3
    have hce := tl.2.2.1
    have hcl := tl.2.1
    unfold maxLen at hce
    have B3 := Lib.hid (B2.out.then_ hb3)
    have D3 := Lib.hid (D2.out.trans (hb3.mono D2.out.size))
    have b3 := B3.out.c3
    clear h3 tl hl hbx hvx hb3
    go_upto_region 8 with fail
    have T4 := Lib.hid (Tb.made w3 k1 0 n1 (⟨s1.toArray⟩ : ByteArray))
    have BB := Lib.hid ((Below.refl w3.heap.size w3).alloc (Nat.le_refl _) (.cells #[.int .i64 k1, .int .i64 0, .int .i64 n1, .string ⟨s1.toArray⟩] 30))
    have D4 := Lib.hid (D3.out.trans (BB.out.mono D3.out.size))
    have B4 := Lib.hid (B3.out.then_ BB.out)
    obtain ⟨w4, hw4⟩ : ∃ w4, w4 = w3.alloc (.cells #[.int .i64 k1, .int .i64 0, .int .i64 n1, .string ⟨s1.toArray⟩] 30) := ⟨_, rfl⟩
    rw [← hw4] at T4 BB D4 B4 ⊢
    clear hw4 b3 x0 x1 x2 x3
    have b4 := B4.out.c3
    have t4 := T4.out.c4
    have z4 := T4.out.fz
    clear hcl hce B0 B1 B2 B3 D0 D1 D2 D3 HRI HA HX
    rcases hways with ⟨hk, rfl, ⟨hn1, rfl⟩ | ⟨hn1, rfl⟩⟩ | ⟨hk, rfl, rfl⟩ | ⟨hk, rfl, rfl⟩ | ⟨hk, rfl, rfl⟩ | ⟨hk, rfl, rfl⟩
    · skip
      subst hk hn1
      have hq : ((⟨#[116, 114, 117, 101]⟩ : ByteArray).toList == [116, 114, 117, 101]) = true := by decide +kernel
      go_wp2_with fail
      refine (HR.out _).mono ?_
      rintro e w5 ⟨rfl, hb5⟩
      go_wp2_with fail
      go_ret
      exact ⟨rfl, D4.out.trans (hb5.mono D4.out.size)⟩
    · skip
      subst hk hn1
      have hq : ((⟨#[102, 97, 108, 115, 101]⟩ : ByteArray).toList == [116, 114, 117, 101]) = false := by decide +kernel
      go_wp2_with fail
      refine (HR.out _).mono ?_
      rintro e w5 ⟨rfl, hb5⟩
      go_wp2_with fail
      go_ret
      exact ⟨rfl, D4.out.trans (hb5.mono D4.out.size)⟩
    · skip
      subst hk
      go_wp2_with fail
      refine (HR.out _).mono ?_
      rintro e w5 ⟨rfl, hb5⟩
      go_wp2_with fail
      go_ret
      exact ⟨rfl, D4.out.trans (hb5.mono D4.out.size)⟩
    · skip
      subst hk
      have ht : (⟨(Vl.l ⟨3, n, t⟩).toArray⟩ : ByteArray) = t := by show (⟨t.data.toList.toArray⟩ : ByteArray) = t; simp
      rw [ht] at t4
      go_wp2_with fail
      refine (HR.out _).mono ?_
      rintro e w5 ⟨rfl, hb5⟩
      go_wp2_with fail
      go_ret
      exact ⟨rfl, D4.out.trans (hb5.mono D4.out.size)⟩
    · skip
      subst hk
      go_wp2_with fail
      refine (HR.out _).mono ?_
      rintro e w5 ⟨rfl, hb5⟩
      go_wp2_with fail
      go_ret
      exact ⟨rfl, D4.out.trans (hb5.mono D4.out.size)⟩
    · skip
      subst hk
      have ht : (⟨(Vl.l ⟨5, n, t⟩).toArray⟩ : ByteArray) = t := by show (⟨t.data.toList.toArray⟩ : ByteArray) = t; simp
      rw [ht] at t4
      go_wp2_with fail
      refine (HR.out _).mono ?_
      rintro e w5 ⟨rfl, hb5⟩
      go_wp2_with fail
      go_ret
      exact ⟨rfl, D4.out.trans (hb5.mono D4.out.size)⟩
  · have hri := fun w => right_any k n t (by unfold maxLen; omega) w
    rw [decide_eq_false hr] at hri
    have HRI := Lib.hid hri
    clear hr hri
    go_wp2_with fail
    refine (HRI.out _).mono ?_
    rintro e w1 ⟨rfl, hb1⟩
    go_wp2_with fail
    refine (HR.out _).mono ?_
    rintro e w2 ⟨rfl, hb2⟩
    go_wp2_with fail
    go_ret
    exact ⟨rfl, D0.out.trans ((below_step hb1 hb2).mono D0.out.size)⟩
end Go.Proofs.YtpedfkigneahgaaDoor
