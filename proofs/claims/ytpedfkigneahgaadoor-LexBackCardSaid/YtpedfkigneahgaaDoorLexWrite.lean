/- bailifflaw7.write: a token written anew. -/
import Derived.Test.YtpedfkigneahgaaDoorLexBackR
import Derived.Test.YtpedfkigneahgaaDoorVShowV
import Derived.Test.YtpedfkigneahgaaDoorToks
namespace Go.Proofs.YtpedfkigneahgaaDoor
set_option linter.unusedVariables false
open Go.RowKit

/-- What a token says lies in its bounds. -/
theorem tok_ok {l : List UInt8} {k n : Int} {s : List UInt8} {m : Nat} (h : tokB l = some (k, n, s, m)) :
    k = 1 ∧ n = 0 ∨ k = 2 ∧ s = [] ∧ (-9223372036854775808 ≤ n ∧ n ≤ 9223372036854775807) ∨ k = 3 ∧ s = [] ∧ (0 ≤ n ∧ n ≤ 1099511627776) ∨ k = 4 ∧ n = 0 ∧ Named s ∨ k = 5 ∧ n = 0 ∧ s.length ≤ 64 ∨ k = 6 ∧ n = 0 := by
  cases l with
  | nil => cases h
  | cons c r =>
    rw [tokB_cons] at h
    by_cases h1 : lett c = true
    · rw [if_pos h1] at h
      split at h
      · cases h; exact .inl ⟨rfl, rfl⟩
      · cases h
    rw [if_neg h1] at h
    by_cases h2 : dgt c = true
    · rw [if_pos h2] at h
      cases hd : decD 9223372036854775807 ((c :: r).takeWhile dgt) with
      | none => rw [hd] at h; cases h
      | some u =>
        rw [hd] at h
        cases h
        obtain ⟨hb, hu⟩ := decD_back (tw_all dgt _) hd
        exact .inr (.inl ⟨rfl, rfl, by omega, by omega⟩)
    rw [if_neg h2] at h
    by_cases h3 : c = 45
    · rw [if_pos h3] at h
      cases hd : decD 9223372036854775808 (r.takeWhile dgt) with
      | none => rw [hd] at h; cases h
      | some u =>
        rw [hd, Option.bind_some] at h
        split at h
        · cases h
        · cases h
          obtain ⟨hb, hu⟩ := decD_back (tw_all dgt _) hd
          exact .inr (.inl ⟨rfl, rfl, by omega, by omega⟩)
    rw [if_neg h3] at h
    by_cases h4 : c = 64
    · rw [if_pos h4] at h
      cases hd : decD 1099511627776 (r.takeWhile dgt) with
      | none => rw [hd] at h; cases h
      | some u =>
        rw [hd] at h
        cases h
        obtain ⟨hb, hu⟩ := decD_back (tw_all dgt _) hd
        exact .inr (.inr (.inl ⟨rfl, rfl, by omega, by omega⟩))
    rw [if_neg h4] at h
    by_cases h5 : c = 35
    · rw [if_pos h5] at h
      split at h
      · rename_i hN
        cases h
        exact .inr (.inr (.inr (.inl ⟨rfl, rfl, hN⟩)))
      · cases h
    rw [if_neg h5] at h
    by_cases h6 : c = 34
    · rw [if_pos h6] at h
      cases hq : qtB r with
      | none => rw [hq] at h; cases h
      | some p =>
        obtain ⟨x, j⟩ := p
        rw [hq, Option.bind_some] at h
        split at h
        · rename_i hx
          cases h
          exact .inr (.inr (.inr (.inr (.inl ⟨rfl, rfl, hx⟩))))
        · cases h
    rw [if_neg h6] at h
    split at h
    · cases h
      exact .inr (.inr (.inr (.inr (.inr ⟨rfl, rfl⟩))))
    · cases h

set_option maxHeartbeats 3200000 in
theorem write_any (k p n : Int) (s : ByteArray) (hs : s.size ≤ 1000000) (hg : (⟨k, p, n, s⟩ : Tk).again) (w : World) (htab : Tab w) :
    Calls Tryd.prog 8 #[.agg #[.int .i64 k, .int .i64 p, .int .i64 n, .string s]] w fun e w' => e = .returned (.string ⟨(Tk.w ⟨k, p, n, s⟩).toArray⟩) ∧ Below w.heap.size w w' := by
  have HT := Lib.hid (fun w' (hb : Below w.heap.size w w') => htab.then_ hb)
  have ho := tok_ok hg
  dsimp only at ho
  have T0 := Lib.hid (Tb.made w k p n s)
  clear hg htab
  have D0 := Lib.hid ((Below.refl w.heap.size w).alloc (Nat.le_refl _) (.cells #[.int .i64 k, .int .i64 p, .int .i64 n, .string s] 30))
  rcases ho with ⟨rfl, rfl⟩ | ⟨rfl, hl, hn⟩ | ⟨rfl, hl, hn⟩ | ⟨rfl, rfl, hl⟩ | ⟨rfl, rfl, hl⟩ | ⟨rfl, rfl⟩
  · have ht : (⟨(Tk.w ⟨1, p, 0, s⟩).toArray⟩ : ByteArray) = s := mk_self s
    rw [ht]
    have t0 := T0.out.c4
    go_enter Tryd.func8, Tryd.ntmps8
    go_wp2_with fail
    go_ret
    exact ⟨rfl, D0.out⟩
  · have hx := show2 (n := n) (s := ⟨#[]⟩) (.inr (.inl ⟨rfl, rfl⟩))
    have HX := Lib.hid (fun w ht => vtext_any 2 n ⟨#[]⟩ hn (by decide) w ht)
    have t0 := T0.out.c4
    go_enter Tryd.func8, Tryd.ntmps8
    go_wp2_with fail
    refine (HX.out _ (HT.out _ D0.out)).mono ?_
    rintro e w1 ⟨rfl, hb1⟩
    have D1 := Lib.hid (D0.out.trans (hb1.mono D0.out.size))
    clear hb1 t0
    go_wp2_with fail
    go_ret
    exact ⟨ret_str rfl, D1.out⟩
  · have hx := show4 (n := n) (s := ⟨#[]⟩) (.inr (.inr (.inr (.inl ⟨rfl, rfl, hn⟩))))
    have HX := Lib.hid (fun w ht => vtext_any 4 n ⟨#[]⟩ (by omega) (by decide) w ht)
    have t0 := T0.out.c4
    go_enter Tryd.func8, Tryd.ntmps8
    go_wp2_with fail
    refine (HX.out _ (HT.out _ D0.out)).mono ?_
    rintro e w1 ⟨rfl, hb1⟩
    have D1 := Lib.hid (D0.out.trans (hb1.mono D0.out.size))
    clear hb1 t0
    go_wp2_with fail
    go_ret
    exact ⟨ret_str rfl, D1.out⟩
  · have hx := show5 (n := 0) (s := s) (.inr (.inr (.inr (.inr ⟨rfl, rfl, hl⟩))))
    have HX := Lib.hid (fun w ht => vtext_any 5 0 s (by omega) hs w ht)
    have t0 := T0.out.c4
    go_enter Tryd.func8, Tryd.ntmps8
    go_wp2_with fail
    refine (HX.out _ (HT.out _ D0.out)).mono ?_
    rintro e w1 ⟨rfl, hb1⟩
    have D1 := Lib.hid (D0.out.trans (hb1.mono D0.out.size))
    clear hb1 t0
    go_wp2_with fail
    go_ret
    exact ⟨ret_str rfl, D1.out⟩
  · have hx := show3 (n := 0) (s := s) (.inr (.inr (.inl ⟨rfl, rfl, hl⟩)))
    have HX := Lib.hid (fun w ht => vtext_any 3 0 s (by omega) hs w ht)
    have t0 := T0.out.c4
    go_enter Tryd.func8, Tryd.ntmps8
    go_wp2_with fail
    refine (HX.out _ (HT.out _ D0.out)).mono ?_
    rintro e w1 ⟨rfl, hb1⟩
    have D1 := Lib.hid (D0.out.trans (hb1.mono D0.out.size))
    clear hb1 t0
    go_wp2_with fail
    go_ret
    exact ⟨ret_str rfl, D1.out⟩
  · have ht : (⟨(Tk.w ⟨6, p, 0, s⟩).toArray⟩ : ByteArray) = s := mk_self s
    rw [ht]
    have t0 := T0.out.c4
    go_enter Tryd.func8, Tryd.ntmps8
    go_wp2_with fail
    go_ret
    exact ⟨rfl, D0.out⟩
end Go.Proofs.YtpedfkigneahgaaDoor
