/- Several texts in one: LexAll. -/
import Derived.Test.YtmoglaknmlhpgaaGreatDoorOnlY
/- lex.All: what it answers. -/
namespace Go.Proofs.YtmoglaknmlhpgaaGreatDoor
set_option linter.unusedVariables false
open Go.RowKit

theorem blankPass (s : ByteArray) (W : World) (hs : s.size ≤ 4096) (a : Act) (wr : World) (hJ : JBlank s W a wr) : blankCode.wp Tryz.prog (exitsTo (fun l' a' w' => JAll s W l' a' w' ∧ muAll s l' a' w' < muAll s 0 a wr) (allQ s W)) a wr := by
 obtain ⟨R, h, hw⟩ := blankPass' s W hs a wr hJ
 unfold blankCode
 rw [h]
 exact hw
theorem pass0 (s : ByteArray) (W : World) (hs : s.size ≤ 4096) (a : Act) (wr : World) (hJ : JBlank s W a wr) : ∃ R, findLabel allCode 0 = some R ∧ R.wp Tryz.prog (exitsTo (fun l' a' w' => JAll s W l' a' w' ∧ muAll s l' a' w' < muAll s 0 a wr) (allQ s W)) a wr := by
 refine ⟨.seq .skip blankCode, rfl, ?_⟩
 have h := Lib.hid (blankPass s W hs a wr hJ)
 clear hJ
 go_wp2_with fail
 exact h.out
theorem goes_le (b : UInt8) : 1 ≤ goesTo b ∧ goesTo b ≤ 6 := by
 unfold goesTo
 split
 ·omega
 ·split
  ·omega
  ·split
   ·omega
   ·split
    ·omega
    ·split <;> omega
theorem passes (s : ByteArray) (W : World) (hs : s.size ≤ 4096) (l : Nat) (a : Act) (wr : World) (hJ : JAll s W l a wr) : ∃ R, findLabel allCode l = some R ∧ R.wp Tryz.prog (exitsTo (fun l' a' w' => JAll s W l' a' w' ∧ muAll s l' a' w' < muAll s l a wr) (allQ s W)) a wr := by
 unfold JAll at hJ
 split at hJ
 ·rename_i h; subst h; exact pass0 s W hs a wr hJ
 ·split at hJ
  ·rename_i h; subst h; exact pass7 s W hs a wr hJ
  ·have hl : l = 1 ∨ l = 2 ∨ l = 3 ∨ l = 4 ∨ l = 5 ∨ l = 6 := by
    obtain ⟨_, _, _, _, _, b, _, _, _, _, _, _, _, hg, _⟩ := hJ
    have := goes_le b
    omega
   rcases hl with rfl | rfl | rfl | rfl | rfl | rfl
   ·exact pass1 s W hs a wr hJ
   ·exact pass2 s W hs a wr hJ
   ·exact pass3 s W hs a wr hJ
   ·exact pass4 s W hs a wr hJ
   ·exact pass5 s W hs a wr hJ
   ·exact pass6 s W hs a wr hJ

set_option maxRecDepth 100000 in
set_option maxHeartbeats 800000 in
theorem all_any (s : ByteArray) (hs : s.size ≤ 4096) (W : World) : Calls Tryz.prog 60 #[.string s] W fun e w' => AllP W (lexB s.data.toList 0) e w' := by
 have ht := Tb.made W 0 0 0 ⟨#[]⟩
 have HT := Lib.hid ht
 have HB : Hid (ABase s W [] none 0 0 0 (W.alloc (.cells #[.int .i64 0, .int .i64 0, .int .i64 0, .string ⟨#[]⟩] 150))) :=
  Lib.hid ⟨⟨rfl, .inl ⟨rfl, rfl⟩⟩, (Below.refl _ _).alloc (Nat.le_refl _) _, by rw [size_al]; exact Nat.le_refl _, Nat.le_refl _, Nat.zero_le _, by rw [List.drop_zero, cat_nil]⟩
 clear ht
 go_enter Tryz.func60, Tryz.ntmps60
 go_wp2_with fail
 refine wp_scope_labels (JAll s W) (muAll s) (fun l a wr hJ => passes s W hs l a wr hJ) ?_
 go_wp2_with fail
 go_step3
 go_step
 go_step
 refine wp_mono (blankPass s W hs _ _ ⟨[], none, 0, 0, 0, _, _, _, 0, 0, 0, ⟨#[]⟩, Fr_mk, HB.out, HT.out⟩) ?_
 intro e2 a2 w3 hq
 cases e2 with
 | goto l => exact hq.1
 | _ => exact hq
set_option maxRecDepth 100000 in
set_option maxHeartbeats 800000 in
theorem all_big (s : ByteArray) (hs : 4096 < s.size) (hm : s.size ≤ maxLen) (w : World) : Calls Tryz.prog 60 #[.string s] w fun e w' => e = .returned (.tuple #[.slice none 0 0, .int .i64 6, .int .i64 4096]) ∧ w' = w := by
 unfold maxLen at hm
 go_enter Tryz.func60, Tryz.ntmps60
 go_wp2_with fail
 go_step3
 go_wp2_with fail
 try rw [Exit.noGoto_ret]
 go_ret3
 exact ⟨rfl, rfl⟩
end Go.Proofs.YtmoglaknmlhpgaaGreatDoor
