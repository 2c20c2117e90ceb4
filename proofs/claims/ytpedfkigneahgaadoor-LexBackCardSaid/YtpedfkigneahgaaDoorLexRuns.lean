/- Chapter 7's runs. -/
import Derived.Test.YtpedfkigneahgaaDoorLexAll
import Derived.Test.YtpedfkigneahgaaDoorTokSame
namespace Go.Proofs.YtpedfkigneahgaaDoor
set_option linter.unusedVariables false
open Go.RowKit

theorem Ts.lit (w : World) (l : List Tk) (n : Nat) (hn : l.length = n) (h63 : n ≤ maxLen) : Ts (w.alloc (.cells (cells4 l).toArray 30)) (w.heap.size + 1) (some ⟨w.heap.size, 0, none⟩) n n l := by
  refine ⟨hn, Nat.le_refl _, h63, .inr ⟨w.heap.size, 0, rfl, by omega, fun j v hv => ?_⟩⟩
  obtain ⟨a, b, c, d⟩ := cells4_at hv
  have e := Ob.made w 30 (cells4 l).toArray
  rw [Nat.zero_add, e.cell, e.cell, e.cell, e.cell]
  exact ⟨by simpa using a, by simpa using b, by simpa using c, by simpa using d⟩
theorem qt_x22 : qtB [120, 92, 50, 50, 34] = some ([120, 34], 5) := by
  rw [qtB_one (by decide) (show oneB [120, 92, 50, 50, 34] = some (120, 1) by decide +kernel)]
  show (qtB [92, 50, 50, 34]).map _ = _
  rw [qtB_one (by decide) (show oneB [92, 50, 50, 34] = some (34, 3) by decide +kernel)]
  show ((qtB [34]).map _).map _ = _
  rw [qtB_end]
  rfl
theorem qt_41 : qtB [92, 52, 49, 34] = none := qtB_bad (by decide) (by decide +kernel)
theorem tok_x22 : tokB [34, 120, 92, 50, 50, 34] = some (5, 0, [120, 34], 6) := by
  rw [tokB, if_neg (by decide), if_neg (by decide), if_neg (by decide), if_neg (by decide), if_neg (by decide), if_pos rfl, qt_x22]
  rfl
theorem tok_41 : tokB [34, 92, 52, 49, 34] = none := by
  rw [tokB, if_neg (by decide), if_neg (by decide), if_neg (by decide), if_neg (by decide), if_neg (by decide), if_pos rfl, qt_41]
  rfl
theorem lex_run0 : lexB [97, 46, 98, 32, 61, 32, 45, 55, 32, 64, 53, 32, 34, 120, 92, 50, 50, 34] 0 = .ok [⟨1, 0, 0, ⟨#[97]⟩⟩, ⟨6, 1, 0, ⟨#[46]⟩⟩, ⟨1, 2, 0, ⟨#[98]⟩⟩, ⟨6, 4, 0, ⟨#[61]⟩⟩, ⟨2, 6, (-7), ⟨#[]⟩⟩, ⟨3, 9, 5, ⟨#[]⟩⟩, ⟨5, 12, 0, ⟨#[120, 34]⟩⟩, ⟨7, 18, 0, ⟨#[]⟩⟩] := by
  rw [← cat_nil (lexB [97, 46, 98, 32, 61, 32, 45, 55, 32, 64, 53, 32, 34, 120, 92, 50, 50, 34] 0)]
  rw [lexB_tok (by decide) (show tokB [97, 46, 98, 32, 61, 32, 45, 55, 32, 64, 53, 32, 34, 120, 92, 50, 50, 34] = some (1, 0, [97], 1) by decide +kernel), cat_cat]
  show cat [⟨1, 0, 0, ⟨#[97]⟩⟩] (lexB [46, 98, 32, 61, 32, 45, 55, 32, 64, 53, 32, 34, 120, 92, 50, 50, 34] 1) = _
  rw [lexB_tok (by decide) (show tokB [46, 98, 32, 61, 32, 45, 55, 32, 64, 53, 32, 34, 120, 92, 50, 50, 34] = some (6, 0, [46], 1) by decide +kernel), cat_cat]
  show cat [⟨1, 0, 0, ⟨#[97]⟩⟩, ⟨6, 1, 0, ⟨#[46]⟩⟩] (lexB [98, 32, 61, 32, 45, 55, 32, 64, 53, 32, 34, 120, 92, 50, 50, 34] 2) = _
  rw [lexB_tok (by decide) (show tokB [98, 32, 61, 32, 45, 55, 32, 64, 53, 32, 34, 120, 92, 50, 50, 34] = some (1, 0, [98], 1) by decide +kernel), cat_cat]
  show cat [⟨1, 0, 0, ⟨#[97]⟩⟩, ⟨6, 1, 0, ⟨#[46]⟩⟩, ⟨1, 2, 0, ⟨#[98]⟩⟩] (lexB [32, 61, 32, 45, 55, 32, 64, 53, 32, 34, 120, 92, 50, 50, 34] 3) = _
  rw [lexB_blank (by decide)]
  show cat [⟨1, 0, 0, ⟨#[97]⟩⟩, ⟨6, 1, 0, ⟨#[46]⟩⟩, ⟨1, 2, 0, ⟨#[98]⟩⟩] (lexB [61, 32, 45, 55, 32, 64, 53, 32, 34, 120, 92, 50, 50, 34] 4) = _
  rw [lexB_tok (by decide) (show tokB [61, 32, 45, 55, 32, 64, 53, 32, 34, 120, 92, 50, 50, 34] = some (6, 0, [61], 1) by decide +kernel), cat_cat]
  show cat [⟨1, 0, 0, ⟨#[97]⟩⟩, ⟨6, 1, 0, ⟨#[46]⟩⟩, ⟨1, 2, 0, ⟨#[98]⟩⟩, ⟨6, 4, 0, ⟨#[61]⟩⟩] (lexB [32, 45, 55, 32, 64, 53, 32, 34, 120, 92, 50, 50, 34] 5) = _
  rw [lexB_blank (by decide)]
  show cat [⟨1, 0, 0, ⟨#[97]⟩⟩, ⟨6, 1, 0, ⟨#[46]⟩⟩, ⟨1, 2, 0, ⟨#[98]⟩⟩, ⟨6, 4, 0, ⟨#[61]⟩⟩] (lexB [45, 55, 32, 64, 53, 32, 34, 120, 92, 50, 50, 34] 6) = _
  rw [lexB_tok (by decide) (show tokB [45, 55, 32, 64, 53, 32, 34, 120, 92, 50, 50, 34] = some (2, (-7), [], 2) by decide +kernel), cat_cat]
  show cat [⟨1, 0, 0, ⟨#[97]⟩⟩, ⟨6, 1, 0, ⟨#[46]⟩⟩, ⟨1, 2, 0, ⟨#[98]⟩⟩, ⟨6, 4, 0, ⟨#[61]⟩⟩, ⟨2, 6, (-7), ⟨#[]⟩⟩] (lexB [32, 64, 53, 32, 34, 120, 92, 50, 50, 34] 8) = _
  rw [lexB_blank (by decide)]
  show cat [⟨1, 0, 0, ⟨#[97]⟩⟩, ⟨6, 1, 0, ⟨#[46]⟩⟩, ⟨1, 2, 0, ⟨#[98]⟩⟩, ⟨6, 4, 0, ⟨#[61]⟩⟩, ⟨2, 6, (-7), ⟨#[]⟩⟩] (lexB [64, 53, 32, 34, 120, 92, 50, 50, 34] 9) = _
  rw [lexB_tok (by decide) (show tokB [64, 53, 32, 34, 120, 92, 50, 50, 34] = some (3, 5, [], 2) by decide +kernel), cat_cat]
  show cat [⟨1, 0, 0, ⟨#[97]⟩⟩, ⟨6, 1, 0, ⟨#[46]⟩⟩, ⟨1, 2, 0, ⟨#[98]⟩⟩, ⟨6, 4, 0, ⟨#[61]⟩⟩, ⟨2, 6, (-7), ⟨#[]⟩⟩, ⟨3, 9, 5, ⟨#[]⟩⟩] (lexB [32, 34, 120, 92, 50, 50, 34] 11) = _
  rw [lexB_blank (by decide)]
  show cat [⟨1, 0, 0, ⟨#[97]⟩⟩, ⟨6, 1, 0, ⟨#[46]⟩⟩, ⟨1, 2, 0, ⟨#[98]⟩⟩, ⟨6, 4, 0, ⟨#[61]⟩⟩, ⟨2, 6, (-7), ⟨#[]⟩⟩, ⟨3, 9, 5, ⟨#[]⟩⟩] (lexB [34, 120, 92, 50, 50, 34] 12) = _
  rw [lexB_tok (by decide) tok_x22, cat_cat]
  show cat [⟨1, 0, 0, ⟨#[97]⟩⟩, ⟨6, 1, 0, ⟨#[46]⟩⟩, ⟨1, 2, 0, ⟨#[98]⟩⟩, ⟨6, 4, 0, ⟨#[61]⟩⟩, ⟨2, 6, (-7), ⟨#[]⟩⟩, ⟨3, 9, 5, ⟨#[]⟩⟩, ⟨5, 12, 0, ⟨#[120, 34]⟩⟩] (lexB [] 18) = _
  rw [lexB_nil]
  rfl
theorem lex_run1 : lexB [97, 32, 48, 49] 0 = .error 2 := by
  rw [← cat_nil (lexB [97, 32, 48, 49] 0)]
  rw [lexB_tok (by decide) (show tokB [97, 32, 48, 49] = some (1, 0, [97], 1) by decide +kernel), cat_cat]
  show cat [⟨1, 0, 0, ⟨#[97]⟩⟩] (lexB [32, 48, 49] 1) = _
  rw [lexB_blank (by decide)]
  show cat [⟨1, 0, 0, ⟨#[97]⟩⟩] (lexB [48, 49] 2) = _
  rw [lexB_bad (by decide) (show tokB [48, 49] = none by decide +kernel)]
  rfl
theorem lex_run2 : lexB [34, 92, 52, 49, 34] 0 = .error 0 := by
  rw [← cat_nil (lexB [34, 92, 52, 49, 34] 0)]
  rw [lexB_bad (by decide) tok_41]
  rfl
theorem lex_run3 : lexB [35, 65] 0 = .error 0 := by
  rw [← cat_nil (lexB [35, 65] 0)]
  rw [lexB_bad (by decide) (show tokB [35, 65] = none by decide +kernel)]
  rfl

set_option maxRecDepth 100000 in
set_option maxHeartbeats 1600000 in
theorem lexruns_any (w : World) : Calls Tryd.prog 6 #[] w fun e w' => e = .returned (.bool true) ∧ Below w.heap.size w w' := by
  have h0 := fun w => all_any ⟨#[97, 46, 98, 32, 61, 32, 45, 55, 32, 64, 53, 32, 34, 120, 92, 50, 50, 34]⟩ (by decide) w
  have h1 := fun w => all_any ⟨#[97, 32, 48, 49]⟩ (by decide) w
  have h2 := fun w => all_any ⟨#[34, 92, 52, 49, 34]⟩ (by decide) w
  have h3 := fun w => all_any ⟨#[35, 65]⟩ (by decide) w
  rw [show (⟨#[97, 46, 98, 32, 61, 32, 45, 55, 32, 64, 53, 32, 34, 120, 92, 50, 50, 34]⟩ : ByteArray).data.toList = [97, 46, 98, 32, 61, 32, 45, 55, 32, 64, 53, 32, 34, 120, 92, 50, 50, 34] from rfl, lex_run0] at h0
  rw [show (⟨#[97, 32, 48, 49]⟩ : ByteArray).data.toList = [97, 32, 48, 49] from rfl, lex_run1] at h1
  rw [show (⟨#[34, 92, 52, 49, 34]⟩ : ByteArray).data.toList = [34, 92, 52, 49, 34] from rfl, lex_run2] at h2
  rw [show (⟨#[35, 65]⟩ : ByteArray).data.toList = [35, 65] from rfl, lex_run3] at h3
  have H0 := Lib.hid h0
  have H1 := Lib.hid h1
  have H2 := Lib.hid h2
  have H3 := Lib.hid h3
  clear h0 h1 h2 h3
  go_enter Tryd.func6, Tryd.ntmps6
  go_wp2_with fail
  refine (H0.out _).mono ?_
  rintro e w1 ⟨A, n, c, rfl, hown, hb1⟩
  have T1 := Lib.hid (Ts.of_own hown)
  have D1 := Lib.hid hb1
  have hn : n = 8 := by have := hown.1; rw [cells4_len] at this; simp at this; omega
  subst hn
  clear hown hb1
  have TL := Lib.hid (Ts.lit w1 [⟨1, 0, 0, ⟨#[97]⟩⟩, ⟨6, 1, 0, ⟨#[46]⟩⟩, ⟨1, 2, 0, ⟨#[98]⟩⟩, ⟨6, 4, 0, ⟨#[61]⟩⟩, ⟨2, 6, (-7), ⟨#[]⟩⟩, ⟨3, 9, 5, ⟨#[]⟩⟩, ⟨5, 12, 0, ⟨#[120, 34]⟩⟩, ⟨7, 18, 0, ⟨#[]⟩⟩] 8 rfl (by simp [maxLen]))
  have T2 := Lib.hid (T1.out.then_ ((Below.refl _ w1).alloc (Nat.le_refl _) (.cells (cells4 [⟨1, 0, 0, ⟨#[97]⟩⟩, ⟨6, 1, 0, ⟨#[46]⟩⟩, ⟨1, 2, 0, ⟨#[98]⟩⟩, ⟨6, 4, 0, ⟨#[61]⟩⟩, ⟨2, 6, (-7), ⟨#[]⟩⟩, ⟨3, 9, 5, ⟨#[]⟩⟩, ⟨5, 12, 0, ⟨#[120, 34]⟩⟩, ⟨7, 18, 0, ⟨#[]⟩⟩]).toArray 30)))
  have D2 := Lib.hid (below_step D1.out ((Below.refl _ w1).alloc (Nat.le_refl _) (.cells (cells4 [⟨1, 0, 0, ⟨#[97]⟩⟩, ⟨6, 1, 0, ⟨#[46]⟩⟩, ⟨1, 2, 0, ⟨#[98]⟩⟩, ⟨6, 4, 0, ⟨#[61]⟩⟩, ⟨2, 6, (-7), ⟨#[]⟩⟩, ⟨3, 9, 5, ⟨#[]⟩⟩, ⟨5, 12, 0, ⟨#[120, 34]⟩⟩, ⟨7, 18, 0, ⟨#[]⟩⟩]).toArray 30)))
  have SZ : Hid (w1.heap.size + 1 = (w1.alloc (.cells (cells4 [⟨1, 0, 0, ⟨#[97]⟩⟩, ⟨6, 1, 0, ⟨#[46]⟩⟩, ⟨1, 2, 0, ⟨#[98]⟩⟩, ⟨6, 4, 0, ⟨#[61]⟩⟩, ⟨2, 6, (-7), ⟨#[]⟩⟩, ⟨3, 9, 5, ⟨#[]⟩⟩, ⟨5, 12, 0, ⟨#[120, 34]⟩⟩, ⟨7, 18, 0, ⟨#[]⟩⟩]).toArray 30)).heap.size) := Lib.hid (by rw [size_al])
  simp only [cells4] at TL T2 D2 SZ
  go_wp2_with fail
  refine (H1.out _).mono ?_
  rintro e w2 ⟨rfl, hb2⟩
  go_wp2_with fail
  refine (H2.out _).mono ?_
  rintro e w3 ⟨rfl, hb3⟩
  go_wp2_with fail
  refine (H3.out _).mono ?_
  rintro e w4 ⟨rfl, hb4⟩
  have hb := below_step hb2 (below_step hb3 hb4)
  rw [SZ.out] at TL
  have TA := Lib.hid (T2.out.then_ hb)
  have TB := Lib.hid (TL.out.then_ hb)
  have D4 := Lib.hid (below_step D2.out hb)
  clear hb hb2 hb3 hb4
  go_wp2_with (go_at_call 21; refine (tsame_any TA.out TB.out).mono ?_; rintro e w5 ⟨rfl, q, rfl⟩)
  go_ret
  exact ⟨rfl, below_drewN D4.out q⟩
end Go.Proofs.YtpedfkigneahgaaDoor
