/- DagOnce: rows of numbers, rows of such rows; Same over numbers; what ways lead to. -/
import Derived.Test.YtipeefehhaffkaaDagRunsW
import Derived.Test.YtipeefehhaffkaaDagAsk
import Derived.Test.YtipeefehhaffkaaGr
namespace Go.Proofs.Ytipeefehhaffkaa
set_option linter.unusedVariables false
open Go.RowKit Go.Sort

def NuP (vs : List Value) (z : Int) : Prop := vs = [.int .i64 z]
theorem NuP.one (vs : List Value) (z : Int) (h : NuP vs z) : ∀ v ∈ vs, v.oneCell' = true := by
  unfold NuP at h
  subst h
  intro v hv
  simp at hv
  subst hv
  rfl
def Nus (w : World) (R : Nat → Prop) := Rw 1 NuP w R
theorem Nus.at_ {w : World} {R : Nat → Prop} {A : Option Addr} {n c : Nat} {l : List Int} (h : Nus w R A n c l) {j : Nat} (hj : j < n) : ∃ b o z, A = some ⟨b, o, none⟩ ∧ R b ∧ b < w.heap.size ∧ l[j]? = some z ∧ w.cell? ⟨b, o + j, none⟩ = some (.int .i64 z) := by
  obtain ⟨b, o, z, vs, e, hR, hlt, hm, hl, hv, hp⟩ := Rw.at_ h hj
  unfold NuP at hp
  subst hp
  have := hv 0 _ rfl
  rw [Nat.mul_one] at this
  exact ⟨b, o, z, e, hR, hlt, hm, this⟩
theorem Nus.keep {w w' : World} {R R' : Nat → Prop} {A : Option Addr} {n c : Nat} {l : List Int} (h : Nus w R A n c l) (hk : Kept R w w') (hR : ∀ b, R b → b < w.heap.size → R' b) : Nus w' R' A n c l := Rw.keep h hk hR fun _ _ _ h => h
theorem nuinfo : (Try.prog.info? 3).map (fun i => (i.zero, i.size, i.bytes)) = some (some (.int .i64 0), 1, 8) := by kernel_rfl
/-- One more number. -/
theorem push_nu {w : World} {base n c : Nat} {A : Option Addr} {l : List Int} (x : Int) (h : Ow 1 NuP w base 3 A n c l) (hn : n < 1000000) (hbase : base ≤ w.heap.size) :
    ∃ A' c' w', (Builtin.append_ #[33, 33] 33 #[.slice A n c, .slice (some ⟨w.heap.size, 0, none⟩) 1 1]).run Try.prog (w.alloc (.cells #[.int .i64 x] 3)) = .ok (.slice A' (n + 1) c') w' ∧
      Ow 1 NuP w' base 3 A' (n + 1) c' (l ++ [x]) ∧ Grew (.slice A n c) (.slice A' (n + 1) c') w w' ∧ Below base w w' := by
  obtain ⟨i, hi, hz, hs, hb⟩ := info_of nuinfo
  have a1 : Below w.heap.size w (w.alloc (.cells #[.int .i64 x] 3)) := (Below.refl _ _).alloc (Nat.le_refl _) _
  have hlit : Rw 1 NuP (w.alloc (.cells #[.int .i64 x] 3)) (fun _ => True) (some ⟨w.heap.size, 0, none⟩) 1 1 [x] := by
    have := Rw.lit (k := 1) (P := NuP) (R := fun _ => True) w 3 (fun z => [.int .i64 z]) [x] (n := 1) rfl (by omega) trivial (fun _ _ => rfl) (fun _ _ => rfl)
    simpa using this
  obtain ⟨A', c', w', hrun, hown, hbel, hg, hob⟩ := Ow.app (ty := 33) Try.underlying33 hi hz hs hb rfl (by omega) (by omega) (h.below a1) hlit NuP.one (by omega) (Nat.le_trans hbase a1.size)
  refine ⟨A', c', w', hrun, hown, (Grew.of_below a1 (.slice A n c)).trans ⟨hg, ?_⟩, (a1.mono hbase).trans hbel⟩
  rcases hob with e | e
  · exact .inl e
  · exact .inr ⟨_, e, Nat.le_refl _⟩
/-- A row of rows of numbers. -/
def EnP (w : World) (R : Nat → Prop) (vs : List Value) (x : List Int) : Prop := ∃ A n c, vs = [.slice A n c] ∧ Nus w R A n c x
theorem keeps_en : Keeps EnP := fun _ _ _ _ _ _ ⟨A, n, c, e, h⟩ hk hR => ⟨A, n, c, e, h.keep hk hR⟩
theorem EnP.one (w : World) (R : Nat → Prop) (vs : List Value) (x : List Int) (h : EnP w R vs x) : ∀ v ∈ vs, v.oneCell' = true := by
  obtain ⟨A, n, c, rfl, _⟩ := h
  intro v hv
  simp at hv
  subst hv
  rfl
theorem sinfo : (Try.prog.info? 33).map (fun i => (i.zero, i.size, i.bytes)) = some (some (.slice none 0 0), 1, 24) := by kernel_rfl
theorem push_en {w : World} {base n c : Nat} {A : Option Addr} {l : List (List Int)} {A1 : Option Addr} {n1 c1 : Nat} {x : List Int} (h : Gr 1 EnP w base 33 A n c l) (hx : Nus w (Nb base (.slice A n c)) A1 n1 c1 x) (hn : n < 1000000) :
    ∃ A' c' w', (Builtin.append_ #[51, 51] 51 #[.slice A n c, .slice (some ⟨w.heap.size, 0, none⟩) 1 1]).run Try.prog (w.alloc (.cells #[.slice A1 n1 c1] 33)) = .ok (.slice A' (n + 1) c') w' ∧ Gr 1 EnP w' base 33 A' (n + 1) c' (l ++ [x]) ∧ Below base w w' := by
  obtain ⟨i, hi, hz, hs, hb⟩ := info_of sinfo
  exact Gr.push (vs := [.slice A1 n1 c1]) (x := x) Try.underlying51 hi hz hs hb rfl (by omega) (by omega) keeps_en h ⟨A1, n1, c1, rfl, hx⟩ rfl EnP.one hn
theorem en_at {w : World} {R : Nat → Prop} {A : Option Addr} {n c : Nat} {l : List (List Int)} (h : Rw 1 (EnP w R) w R A n c l) {j : Nat} (hj : j < n) : ∃ b o x A' n' c', A = some ⟨b, o, none⟩ ∧ b < w.heap.size ∧ l[j]? = some x ∧ w.cell? ⟨b, o + j, none⟩ = some (.slice A' n' c') ∧ Nus w R A' n' c' x := by
  obtain ⟨b, o, x, vs, e, hb, hlt, hm, hl, hv, A', n', c', rfl, h'⟩ := Rw.at_ h hj
  have := hv 0 _ rfl
  rw [Nat.mul_one] at this
  exact ⟨b, o, x, A', n', c', e, hlt, hm, this, h'⟩
theorem take_step3 {α : Type} {l m : List α} {k : Nat} {x : α} (h1 : l[k]? = some x) (h2 : m[k]? = some x) (h : l.take k = m.take k) : l.take (k + 1) = m.take (k + 1) := by
  obtain ⟨a, rfl⟩ := List.getElem?_eq_some_iff.1 h1
  obtain ⟨b, e2⟩ := List.getElem?_eq_some_iff.1 h2
  rw [List.take_succ_eq_append_getElem a, List.take_succ_eq_append_getElem b, h, e2]
set_option maxRecDepth 100000 in
set_option maxHeartbeats 1600000 in
theorem samenu_any {w : World} {R R' : Nat → Prop} {A A' : Option Addr} {n c n' c' : Nat} {l m : List Int} (h : Nus w R A n c l) (h' : Nus w R' A' n' c' m) :
    Calls Try.prog 20 #[.slice A n c, .slice A' n' c'] w fun e w' => e = .returned (.bool (decide (l = m))) ∧ Below w.heap.size w w' := by
  have hcap := Rw.cap h
  have hle := Rw.le h
  have hle' := Rw.le h'
  have hcap' := Rw.cap h'
  have hl := Rw.len h
  have hl' := Rw.len h'
  unfold maxLen at hcap hcap'
  have H := Lib.hid h
  have H' := Lib.hid h'
  have HL := Lib.hid hl
  have HL' := Lib.hid hl'
  clear h h' hl hl'
  by_cases hn : n = n'
  · subst hn
    go_enter Try.func20, Try.ntmps20
    go_wp2
    go_loopw [5] (fun i wr => ∃ k : Nat, k ≤ n ∧ i = .int .i64 k ∧ l.take k = m.take k ∧ ∃ q, wr = w.drewN q) (fun i _ => n - (intOf i).toNat)
    case atStart => exact ⟨0, Nat.zero_le _, rfl, by simp, 0, rfl⟩
    case round =>
      obtain ⟨k, hk, rfl, ht, q, rfl⟩ := hrel
      have HT := Lib.hid ht
      clear ht
      by_cases hlt : k < n
      · obtain ⟨b, o, x, rfl, _, _, hx, x0⟩ := H.out.at_ hlt
        obtain ⟨b', o', y, rfl, _, _, hy, y0⟩ := H'.out.at_ hlt
        have hki : (k : Int) < (n : Int) := by omega
        by_cases hxy : x = y
        · subst hxy
          have HX := Lib.hid hx
          have HY := Lib.hid hy
          clear hx hy
          go_wp2_with fail
          go_quiet (fail)
          go_wp2
          go_roundw
          case rel => exact ⟨k + 1, by omega, by go_num, take_step3 HX.out HY.out HT.out, _, rfl⟩
          case measure => simp [intOf]; omega
        · have hve : (x != y) = true := by simpa using hxy
          have HNE : Hid (decide (l = m) = false) := by
            show _ = _
            rw [decide_eq_false_iff_not]
            rintro rfl
            rw [hx] at hy
            injection hy with hy
            exact hxy hy
          clear hx hy
          go_wp2_with fail
          go_quiet (fail)
          go_wp2
          go_ret
          exact ⟨ret_bool HNE.out.symm, below_drewN (below_drewN (Below.refl _ _) _) _⟩
      · obtain rfl : k = n := by omega
        have HEQ : Hid (decide (l = m) = true) := by
          show _ = _
          rw [decide_eq_true_iff]
          have := HT.out
          rwa [List.take_of_length_le (by have := HL.out; omega), List.take_of_length_le (by have := HL'.out; omega)] at this
        go_wp2
        go_ret
        exact ⟨ret_bool HEQ.out.symm, below_drewN (Below.refl _ _) _⟩
  · have hni2 : ((n : Int) != (n' : Int)) = true := by simp; omega
    have HNE : Hid (decide (l = m) = false) := by
      show _ = _
      rw [decide_eq_false_iff_not]
      rintro rfl
      exact hn (HL.out.symm.trans HL'.out)
    go_enter Try.func20, Try.ntmps20
    go_wp2_with fail
    go_ret
    exact ⟨ret_bool HNE.out.symm, Below.refl _ _⟩
/-- What ways there are: ends, or branches that there are. -/
def WaysOk (L : List Br) (ws : List Int) : Prop := ∀ w ∈ ws, -1048576 ≤ w ∧ w < L.length
/-- Where a way leads, by all answers to four atoms. -/
def endsOf (L : List Br) (w : Int) : List Int := (List.range 81).map fun a => walkD L w (ansN a)
theorem endsOf_len (L : List Br) (w : Int) : (endsOf L w).length = 81 := by simp [endsOf]
theorem ends_same {L : List Br} (h : Dg L) (h4 : ∀ b ∈ L, b.a ≤ 3) {v w : Int} (hv : v < L.length) (hw : w < L.length) : (v == w) = decide (endsOf L v = endsOf L w) := by
  rw [Bool.eq_iff_iff, beq_iff_eq, decide_eq_true_eq]
  constructor
  · rintro rfl; rfl
  · intro e
    refine canon81 h h4 hv hw fun a ha => ?_
    have h1 := congrArg (fun l => l[a]?) e
    simp only [endsOf, List.getElem?_map, List.getElem?_range ha, Option.map_some, Option.some.injEq] at h1
    exact h1
/-- What the law makes of what is asked, of ways that there are. -/
def wayAt (ws : List Int) (z : Int) : Int := ws.getD (withinOf z 0 (ws.length - 1)).toNat 0
theorem wayAt_in {ws : List Int} (h : ws ≠ []) (z : Int) : ∃ j : Nat, withinOf z 0 ((ws.length : Int) - 1) = (j : Int) ∧ j < ws.length ∧ ws[j]? = some (wayAt ws z) := by
  have hl : 0 < ws.length := List.length_pos_iff.2 h
  have w0 := within_le (n := z) (lo := 0) (hi := (ws.length : Int) - 1) (by omega)
  refine ⟨(withinOf z 0 ((ws.length : Int) - 1)).toNat, by omega, by omega, ?_⟩
  unfold wayAt
  rw [List.getD_eq_getElem?_getD, List.getElem?_eq_getElem (by omega)]
  rfl
def onceA (k : Ak) (ws : List Int) : Br := ⟨withinOf k.a 0 3, wayAt ws k.x, wayAt ws k.y, wayAt ws k.z⟩
/-- A make among ways that there are. -/
theorem once_make {L : List Br} {ws : List Int} {k : Ak} (hd : Dg L) (h4 : ∀ b ∈ L, b.a ≤ 3) (hw : WaysOk L ws) (hne : ws ≠ []) (hl : L.length ≤ 24) :
    ∃ p q L', makeD 60 L (onceA k ws) = (p, q, L') ∧ (∀ b ∈ L', b.a ≤ 3) ∧ L'.length ≤ L.length + 1 ∧ WaysOk L' ws ∧ ((q = 0 ∧ WaysOk L' (ws ++ [p])) ∨ q = 1) := by
  have w0 := within_le (n := k.a) (lo := 0) (hi := 3) (by omega)
  obtain ⟨j1, _, _, g1⟩ := wayAt_in hne k.x
  have m1 := hw _ (List.mem_of_getElem? g1)
  unfold makeD
  split
  · exact ⟨0, 1, L, rfl, h4, by omega, hw, .inr rfl⟩
  · split
    · refine ⟨_, _, _, rfl, h4, by omega, hw, .inl ⟨rfl, fun w hm => ?_⟩⟩
      rcases List.mem_append.1 hm with hm | hm
      · exact hw w hm
      · rw [List.mem_singleton] at hm; subst hm; exact m1
    · split
      · rename_i hin
        refine ⟨_, _, _, rfl, h4, by omega, hw, .inl ⟨rfl, fun w hm => ?_⟩⟩
        rcases List.mem_append.1 hm with hm | hm
        · exact hw w hm
        · rw [List.mem_singleton] at hm; subst hm
          have : placeD L (onceA k ws) < L.length := List.findIdx_lt_length_of_exists ⟨_, hin, by simp⟩
          omega
      · rw [if_neg (by omega)]
        refine ⟨_, _, _, rfl, fun b hb => ?_, by simp, fun w hm => ?_, .inl ⟨rfl, fun w hm => ?_⟩⟩
        · rcases List.mem_append.1 hb with hb | hb
          · exact h4 b hb
          · rw [List.mem_singleton] at hb; subst hb; exact w0.2
        · have := hw w hm; simp only [List.length_append, List.length_cons, List.length_nil]; omega
        · rcases List.mem_append.1 hm with hm | hm
          · have := hw w hm; simp only [List.length_append, List.length_cons, List.length_nil]; omega
          · rw [List.mem_singleton] at hm; subst hm; simp only [List.length_append, List.length_cons, List.length_nil]; omega
end Go.Proofs.Ytipeefehhaffkaa
