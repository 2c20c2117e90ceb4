/- What was met on the way through a policy: the map of names, the count of rules (the project's walk). -/
import Derived.Test.YtjpkemamfccfdaaGreatDoorPolExpr
import Derived.Test.YtjpkemamfccfdaaGreatDoorPolEach
import Derived.Maps.OwnOps
import Derived.Maps.Views
namespace Go.Proofs.YtjpkemamfccfdaaGreatDoor
set_option linter.unusedVariables false
open Go.RowKit Go.Maps

/-- How often was a name met? -/
def cnt (x : ByteArray) (l : List ByteArray) : Nat := l.countP fun y => decide (y = x)
theorem cnt_snoc (x : ByteArray) (l : List ByteArray) : cnt x (l ++ [x]) = cnt x l + 1 := by simp [cnt]
theorem cnt_other {x y : ByteArray} (h : y ≠ x) (l : List ByteArray) : cnt x (l ++ [y]) = cnt x l := by simp [cnt, h]
theorem cnt_le (x : ByteArray) (l : List ByteArray) : cnt x l ≤ l.length := List.countP_le_length
theorem cnt_met (x : ByteArray) : ∀ (l : List ByteArray), (cnt x l = 0) = (metB x l = false)
  | [] => by simp [cnt, metB]
  | y :: l => by
    have := cnt_met x l
    unfold cnt metB at this ⊢
    by_cases e : y = x
    · simp [e]
    · simp only [List.countP_cons, List.any_cons, e, decide_false, Bool.false_or, if_false, Nat.add_zero, Bool.false_eq_true]
      exact this

theorem law9 : Keyed Tryz.prog 9 := string_keyed Tryz.underlying9
theorem zero3 (w : World) : (zeroValue 3).run Tryz.prog w = .ok (.int .i64 0) w := by kernel_rfl

/-- Block B is the map of the names that were met: how often each. -/
def MapIs (w : World) (B : Nat) (ids : List ByteArray) : Prop :=
  ∃ D : DataW Unit, w.ownsMap Tryz.prog 9 (plainElem Tryz.prog 3) B ids.length D ∧ IsMap D ∧ ∀ x : ByteArray, D.atKey (.string x.data.toList) (.lit (.int .i64 0)) = .lit (.int .i64 (cnt x ids))
theorem MapIs.lt {w : World} {B : Nat} {ids : List ByteArray} (h : MapIs w B ids) : B < w.heap.size := by obtain ⟨D, h, _⟩ := h; exact h.lt
theorem MapIs.kept {w w' : World} {B : Nat} {ids : List ByteArray} {r : Nat} (h : MapIs w B ids) (ho : Only r w w') (hr : B ≠ r) : MapIs w' B ids := by
  obtain ⟨D, h1, h2, h3⟩ := h
  exact ⟨D, h1.kept ho (fun e => hr (Option.some.inj e)), h2, h3⟩
theorem MapIs.below {w w' : World} {B : Nat} {ids : List ByteArray} (h : MapIs w B ids) (ho : Below w.heap.size w w') : MapIs w' B ids :=
  h.kept (r := w.heap.size) (Only.of_below ho) (Nat.ne_of_lt h.lt)
theorem MapIs.made (w : World) : MapIs (w.alloc (.map #[] 0)) w.heap.size [] :=
  ⟨.map [], World.ownsMap_made _ _ _ _, isMap_empty, fun x => rfl⟩
theorem text_key {x y : ByteArray} (h : x ≠ y) : (Lit.string x.data.toList) ≠ .string y.data.toList := by
  intro e
  injection e with e
  exact h (text_eq e)

set_option maxRecDepth 100000 in
set_option maxHeartbeats 800000 in
theorem fresh_any {w : World} {g B : Nat} {ids : List ByteArray} {m : Value} (id : ByteArray) (hid : id.size ≤ maxLen) (hob : Ob w g 82 #[.map (some B), m]) (hmap : MapIs w B ids) (hgB : g ≠ B) (hlen : ids.length < 1000000) :
    Calls Tryz.prog 75 #[.pointer (some ⟨g, 0, none⟩), .string id] w fun e w' => e = .returned (.bool (decide (Named (bl id)) && !metB id ids)) ∧ Only B w w' ∧ MapIs w' B (ids ++ [id]) := by
  obtain ⟨D, hown, hD, hat0⟩ := hmap
  have hkey : keyOf Tryz.prog 9 (.string id) = some (.string id.data.toList) := WideMaps.keyOf_string_mk Tryz.underlying9 hid
  have HN := Lib.hid (name_any id hid)
  have hc0 := hob.cell 0
  have HC := Lib.hid (cnt_le id ids)
  have HM := Lib.hid (cnt_met id ids)
  have hc := hat0 id
  have HA0 := Lib.hid hat0
  have HD := Lib.hid hD
  have HB := Lib.hid hob
  have HK := Lib.hid hkey
  have HID := Lib.hid hid
  have hck : cnt id ids < 1000000 := by have := HC.out; omega
  clear hat0 hD hob hid
  obtain ⟨k, hk⟩ : ∃ k, k = cnt id ids := ⟨_, rfl⟩
  have HKK := Lib.hid hk
  rw [← hk] at hc hck
  have HAT := Lib.hid hc
  clear hc hk
  generalize hrb : decide (Named id.data.toList) = rb at *
  have HRB := Lib.hid hrb
  clear hrb
  have hputs : IsMap (D.put (.string id.data.toList) (.lit (.int .i64 ((k : Int) + 1)))) := HD.out.put _ _
  have hsame : (D.put (.string id.data.toList) (.lit (.int .i64 ((k : Int) + 1)))).atKey (.string id.data.toList) (.lit (.int .i64 0)) = .lit (.int .i64 ((k : Int) + 1)) := atKey_put_same HD.out (law9.key HK.out) _ _
  have HSAME := Lib.hid hsame
  have HPUT := Lib.hid hputs
  have hnew : ∀ x : ByteArray, (D.put (.string id.data.toList) (.lit (.int .i64 ((k : Int) + 1)))).atKey (.string x.data.toList) (.lit (.int .i64 0)) = .lit (.int .i64 (cnt x (ids ++ [id]))) := fun x => by
    by_cases e : x = id
    · subst e
      rw [HSAME.out, cnt_snoc, ← HKK.out]; simp
    · rw [atKey_put_other (text_key e), HA0.out x, cnt_other (Ne.symm e)]
  have HNEW := Lib.hid hnew
  clear hsame hputs hnew
  by_cases h0 : k = 0
  · have HR : Hid ((decide (Named (bl id)) && !metB id ids) = rb) := by
      have hm : metB id ids = false := by rw [← HM.out, ← HKK.out]; exact h0
      show (decide (Named id.data.toList) && !metB id ids) = rb
      rw [hm, HRB.out]; simp
    subst h0
    rw [show ((0 : Nat) : Int) + 1 = 1 from rfl] at HSAME HPUT HNEW
    rw [show ((0 : Nat) : Int) = 0 from rfl] at HAT
    go_enter Tryz.func75, Tryz.ntmps75
    go_wp2_with (first
      | (at_lookup; refine wpList_lookup_own_int _ rfl _ _ 80 rfl 9 3 .i64 law9 Tryz.underlying80 Tryz.underlying3 (zero3 _) B _ _ rfl hown _ _ rfl hkey ?_; intro c hat hwc; obtain rfl : c = 0 := by (rw [HAT.out] at hat; injection hat with h1; injection h1 with h2 h3; exact h3.symm))
      | (at_lookup; refine wpList_lookup_own_int _ rfl _ _ 80 rfl 9 3 .i64 law9 Tryz.underlying80 Tryz.underlying3 (zero3 _) B _ _ rfl hown1 _ _ rfl hkey ?_; intro c hat hwc; obtain rfl : c = 1 := by (rw [HSAME.out] at hat; injection hat with h1; injection h1 with h2 h3; exact h3.symm))
      | (at_mapUpdate; refine wpList_mapUpdate_own _ rfl _ _ _ 80 rfl 9 3 law9 Tryz.underlying80 _ B _ _ rfl hown (by unfold maxLen; omega) _ _ _ rfl rfl hkey _ [] (plainElem_int Tryz.underlying3 (a := 1) (WalkArith.wf_i64 (by omega))) ?_; intro w1 hown1 hgrow1; have hc1 := (Ob.keep HB.out (Only.heap hgrow1 HB.out.lt hgB)).cell 0)
      | (go_at_call 57; refine (HN.out _).mono ?_; rintro e w2 ⟨rfl, rfl⟩))
    go_ret
    exact ⟨ret_bool HR.out.symm, hgrow1, _, by rw [List.length_append]; exact hown1, HPUT.out, HNEW.out⟩
  · have HR : Hid ((decide (Named (bl id)) && !metB id ids) = false) := by
      have hm : metB id ids = true := by
        rw [← Bool.not_eq_false, ← HM.out, ← HKK.out]; exact h0
      show (decide (Named (bl id)) && !metB id ids) = false
      rw [hm]; simp
    have hne : ((k : Int) + 1 == 1) = false := by rw [beq_eq_false_iff_ne]; omega
    have H0 := Lib.hid h0
    clear h0
    go_enter Tryz.func75, Tryz.ntmps75
    go_wp2_with (first
      | (at_lookup; refine wpList_lookup_own_int _ rfl _ _ 80 rfl 9 3 .i64 law9 Tryz.underlying80 Tryz.underlying3 (zero3 _) B _ _ rfl hown _ _ rfl hkey ?_; intro c hat hwc; obtain rfl : c = (k : Int) := by (rw [HAT.out] at hat; injection hat with h1; injection h1 with h2 h3; exact h3.symm))
      | (at_lookup; refine wpList_lookup_own_int _ rfl _ _ 80 rfl 9 3 .i64 law9 Tryz.underlying80 Tryz.underlying3 (zero3 _) B _ _ rfl hown1 _ _ rfl hkey ?_; intro c hat hwc; obtain rfl : c = ((k : Int) + 1) := by (rw [HSAME.out] at hat; injection hat with h1; injection h1 with h2 h3; exact h3.symm))
      | (at_mapUpdate; refine wpList_mapUpdate_own _ rfl _ _ _ 80 rfl 9 3 law9 Tryz.underlying80 _ B _ _ rfl hown (by unfold maxLen; omega) _ _ _ rfl rfl hkey _ [] (plainElem_int Tryz.underlying3 (a := ((k : Int) + 1)) (WalkArith.wf_i64 (by omega))) ?_; intro w1 hown1 hgrow1; have hc1 := (Ob.keep HB.out (Only.heap hgrow1 HB.out.lt hgB)).cell 0)
      | (go_at_call 57; refine (HN.out _).mono ?_; rintro e w2 ⟨rfl, rfl⟩))
    go_ret
    exact ⟨ret_bool HR.out.symm, hgrow1, _, by rw [List.length_append]; exact hown1, HPUT.out, HNEW.out⟩
end Go.Proofs.YtjpkemamfccfdaaGreatDoor
