/- The diagram's own functions: right, slices.Index, answer, New. -/
import Derived.Test.YtipeefehhaffkaaDagEq
namespace Go.Proofs.Ytipeefehhaffkaa
set_option linter.unusedVariables false
open Go.RowKit Go.Sort

section
variable {w : World} {base g : Nat} {most : Int} {A : Option Addr} {n c : Nat} {l : List Br}
theorem ok_dec (l : List Br) (b : Br) : decide (MakeOk l b) = (decide (0 ≤ b.a ∧ b.a ≤ 63) && decide (∀ j : Nat, j < 3 → WayOk l b.a (b.to j))) := by
  rw [Bool.eq_iff_iff]
  simp only [Bool.and_eq_true, decide_eq_true_eq]
  unfold MakeOk
  refine and_congr Iff.rfl ⟨fun h j hj => ?_, fun h => ⟨h 0 (by omega), h 1 (by omega), h 2 (by omega)⟩⟩
  match j, hj with
  | 0, _ => exact h.1
  | 1, _ => exact h.2.1
  | 2, _ => exact h.2.2
set_option maxRecDepth 100000 in
set_option maxHeartbeats 1600000 in
theorem right_all (h : DgAt 57 w base g most A n c l) (b : Br) (hb : b.ok) : Calls Try.prog 21 #[.pointer (some ⟨g, 0, none⟩), b.val] w fun e w' => e = .returned (.bool (decide (MakeOk l b))) ∧ Below w.heap.size w w' := by
  have HD := Lib.hid (ok_dec l b)
  obtain ⟨ba, bx, bY, bz⟩ := b
  obtain ⟨ha, hx, hy, hz⟩ := hb
  unfold InI at ha
  simp only at ha hx hy hz
  have B0 := below1 w (.cells #[.int .i64 ba, .int .i64 bx, .int .i64 bY, .int .i64 bz] 30)
  have HC : Hid (∀ W, Below w.heap.size w W → ∀ k, k < 3 → Calls Try.prog 24 #[.pointer (some ⟨g, 0, none⟩), .int .i64 ba, .int .i64 ((⟨ba, bx, bY, bz⟩ : Br).to k)] W fun e w' => e = .returned (.bool (decide (WayOk l ba ((⟨ba, bx, bY, bz⟩ : Br).to k)))) ∧ Below W.heap.size W w') := fun W hW k _ => leads_any (h.below hW) ba _ (Br.to_all (P := InI) hx hy hz k)
  simp only [Br.val]
  by_cases h0 : ba < 0
  · have HD0 : Hid (decide (MakeOk l ⟨ba, bx, bY, bz⟩) = false) := by show _ = _; rw [HD.out, decide_eq_false (by show ¬ (0 ≤ ba ∧ ba ≤ 63); omega)]; rfl
    clear h HC HD
    go_enter Try.func21, Try.ntmps21
    go_wp2_with fail
    go_ret
    exact ⟨ret_bool HD0.out.symm, B0⟩
  · by_cases h1 : 64 ≤ ba
    · have HD0 : Hid (decide (MakeOk l ⟨ba, bx, bY, bz⟩) = false) := by show _ = _; rw [HD.out, decide_eq_false (by show ¬ (0 ≤ ba ∧ ba ≤ 63); omega)]; rfl
      clear h HC HD
      go_enter Try.func21, Try.ntmps21
      go_wp2_with fail
      go_ret
      exact ⟨ret_bool HD0.out.symm, B0⟩
    · have HD0 : Hid (decide (MakeOk l ⟨ba, bx, bY, bz⟩) = decide (∀ j : Nat, j < 3 → WayOk l ba ((⟨ba, bx, bY, bz⟩ : Br).to j))) := by show _ = _; rw [HD.out, decide_eq_true (by show (0 ≤ ba ∧ ba ≤ 63); omega)]; rfl
      have O0 : Hid (Ob (w.alloc (.cells #[.int .i64 ba, .int .i64 bx, .int .i64 bY, .int .i64 bz] 30)) w.heap.size 30 #[.int .i64 ba, .int .i64 bx, .int .i64 bY, .int .i64 bz]) := Ob.made _ _ _
      have HB0 := Lib.hid B0
      clear h HD B0
      go_enter Try.func21, Try.ntmps21
      go_wp2_with fail
      obtain ⟨W, hW⟩ : ∃ W, w.alloc (.cells #[.int .i64 ba, .int .i64 bx, .int .i64 bY, .int .i64 bz] 30) = W := ⟨_, rfl⟩
      rw [hW] at O0 HB0
      rw [hW]
      obtain ⟨gb, hgb⟩ : ∃ gb, w.heap.size = gb := ⟨_, rfl⟩
      rw [hgb] at O0
      rw [hgb]
      clear hW hgb
      go_loopw [17] (fun i wr => ∃ k : Nat, k ≤ 3 ∧ i = .int .i64 k ∧ (∀ j, j < k → WayOk l ba ((⟨ba, bx, bY, bz⟩ : Br).to j)) ∧ Below W.heap.size W wr) (fun i _ => 3 - (intOf i).toNat)
      case atStart => exact ⟨0, by omega, rfl, fun j hj => by omega, Below.refl _ _⟩
      case round =>
        obtain ⟨k, hk, rfl, hall, hbw⟩ := hrel
        have cb := (O0.out.below hbw O0.out.lt).cell 0
        simp at cb
        have HBW := Lib.hid hbw
        have HA := Lib.hid hall
        have B2 := Lib.hid (HB0.out.trans (hbw.mono HB0.out.size))
        clear hbw hall
        have fin : ∀ k, k < 3 → ((⟨ba, bx, bY, bz⟩ : Br).to k) = [bx, bY, bz].getD k 0 := fun k hk => by
          rcases (show k = 0 ∨ k = 1 ∨ k = 2 by omega) with rfl | rfl | rfl <;> rfl
        have FIN := Lib.hid fin
        clear fin
        by_cases h3 : k = 3
        · subst h3
          have HT : Hid (decide (∀ j : Nat, j < 3 → WayOk l ba ((⟨ba, bx, bY, bz⟩ : Br).to j)) = true) := by show _ = _; rw [decide_eq_true_eq]; exact HA.out
          go_wp2_with fail
          go_ret
          exact ⟨ret_bool (by rw [HD0.out, HT.out]), B2.out⟩
        · have hc := HC.out _ B2.out k (by omega)
          have HF : Hid (∀ q, decide (WayOk l ba ((⟨ba, bx, bY, bz⟩ : Br).to k)) = q → (q = true → ∀ j, j < k + 1 → WayOk l ba ((⟨ba, bx, bY, bz⟩ : Br).to j)) ∧ (q = false → decide (∀ j : Nat, j < 3 → WayOk l ba ((⟨ba, bx, bY, bz⟩ : Br).to j)) = false)) := fun q hq => by
            subst hq
            refine ⟨fun h j hj => ?_, fun h => ?_⟩
            · rw [decide_eq_true_eq] at h
              by_cases e : j = k
              · rw [e]; exact h
              · exact HA.out j (by omega)
            · rw [decide_eq_false_iff_not] at h ⊢
              exact fun g => h (g k (by omega))
          obtain ⟨q, hq⟩ : ∃ q, decide (WayOk l ba ((⟨ba, bx, bY, bz⟩ : Br).to k)) = q := ⟨_, rfl⟩
          have HF := Lib.hid (HF.out q hq)
          rw [hq] at hc
          have FK := FIN.out k (by omega)
          clear hq FIN
          rcases (show k = 0 ∨ k = 1 ∨ k = 2 by omega) with rfl | rfl | rfl
          all_goals
            simp only [List.getD_cons_zero, List.getD_cons_succ] at FK
            rw [FK] at hc
            clear FK
            have HCC := Lib.hid hc
            clear hc
            have i0 := ix_x bx bY bz
            have i1 := ix_y bx bY bz
            have i2 := ix_z bx bY bz
            go_wp2_with fail
            refine HCC.out.mono ?_
            rintro e w1 ⟨rfl, hb⟩
            have HX := Lib.hid hb
            clear hb
            cases q
            · go_wp2_with fail
              go_ret
              exact ⟨ret_bool (by rw [HD0.out]; exact (HF.out.2 trivial).symm), below_step B2.out HX.out⟩
            · go_wp2_with fail
              go_roundw
              case rel => first | exact ⟨1, by omega, rfl, HF.out.1 trivial, below_step HBW.out HX.out⟩ | exact ⟨2, by omega, rfl, HF.out.1 trivial, below_step HBW.out HX.out⟩ | exact ⟨3, by omega, rfl, HF.out.1 trivial, below_step HBW.out HX.out⟩
              case measure => simp [intOf]
theorem placeD_at {l : List Br} {k : Nat} {b : Br} (h : l[k]? = some b) (hn : ∀ j x, j < k → l[j]? = some x → x ≠ b) : b ∈ l ∧ placeD l b = k := by
  obtain ⟨hl, he⟩ := (List.getElem?_eq_some_iff.1 h)
  refine ⟨List.mem_of_getElem? h, ?_⟩
  unfold placeD
  rw [List.findIdx_eq hl]
  exact ⟨by simpa using he, fun j hj => by simpa using hn j _ hj (List.getElem?_eq_getElem (by omega))⟩
set_option maxRecDepth 100000 in
set_option maxHeartbeats 1600000 in
theorem index_any (h : DgAt 57 w base g most A n c l) (b : Br) : Calls Try.prog 22 #[.slice A n c, b.val] w fun e w' => e = .returned (.int .i64 (if b ∈ l then (placeD l b : Int) else -1)) ∧ Below w.heap.size w w' := by
  have hf := h.few
  have hlen := h.len
  obtain ⟨v, hv⟩ : ∃ v : Int, (if b ∈ l then (placeD l b : Int) else -1) = v := ⟨_, rfl⟩
  rw [hv]
  have HV : Hid (_ = v) := hv
  have B0 := Lib.hid (below1 w (.cells #[.int .i64 b.a, .int .i64 b.x, .int .i64 b.y, .int .i64 b.z] 30))
  have O0 : Hid (Ob (w.alloc (.cells #[.int .i64 b.a, .int .i64 b.x, .int .i64 b.y, .int .i64 b.z] 30)) w.heap.size 30 #[.int .i64 b.a, .int .i64 b.x, .int .i64 b.y, .int .i64 b.z]) := Ob.made _ _ _
  have H := Lib.hid (h.below B0.out)
  have HL := Lib.hid hlen
  clear h hv hlen
  simp only [Br.val]
  go_enter Try.func22, Try.ntmps22
  go_wp2_with fail
  obtain ⟨W, hW⟩ : ∃ W, w.alloc (.cells #[.int .i64 b.a, .int .i64 b.x, .int .i64 b.y, .int .i64 b.z] 30) = W := ⟨_, rfl⟩
  rw [hW] at O0 B0 H
  rw [hW]
  obtain ⟨gb, hgb⟩ : ∃ gb, w.heap.size = gb := ⟨_, rfl⟩
  rw [hgb] at O0
  rw [hgb]
  clear hW hgb
  go_loopw [8] (fun i wr => ∃ k : Nat, k ≤ n ∧ i = .int .i64 k ∧ (∀ j x, j < k → l[j]? = some x → x ≠ b) ∧ ∃ q, wr = W.drewN q) (fun i _ => n - (intOf i).toNat)
  case atStart => exact ⟨0, Nat.zero_le _, rfl, fun j _ hj => by omega, 0, rfl⟩
  case round =>
    obtain ⟨k, hk, rfl, hall, q, rfl⟩ := hrel
    have HA := Lib.hid hall
    clear hall
    have y := (O0.out.keep (w' := W.drewN q) rfl)
    have y0 := y.cell 0
    have y1 := y.cell 1
    have y2 := y.cell 2
    have y3 := y.cell 3
    simp at y0 y1 y2 y3
    clear y
    by_cases hlt : k < n
    · obtain ⟨bb, o, x, rfl, hbl, hx, _, x0, x1, x2, x3⟩ := H.out.at_ hlt
      have HX := Lib.hid hx
      have hve := br_eq b x
      by_cases hxy : b = x
      · subst hxy
        have HP := Lib.hid (placeD_at HX.out HA.out)
        have HVK : Hid (v = (k : Int)) := by show _ = _; rw [← HV.out, if_pos HP.out.1, HP.out.2]
        simp only [decide_true] at hve
        clear hx
        go_wp2_with fail
        go_quiet (fail)
        go_wp2
        go_ret
        exact ⟨ret_int HVK.out.symm, below_drewN (below_drewN B0.out _) _⟩
      · have HNE : Hid (∀ j y, j < k + 1 → l[j]? = some y → y ≠ b) := fun j y hj hy => by
          by_cases e : j = k
          · subst e
            rw [HX.out] at hy
            injection hy with hy
            subst hy
            exact fun e => hxy e.symm
          · exact HA.out j y (by omega) hy
        simp only [decide_eq_false hxy] at hve
        clear hx hxy
        go_wp2_with fail
        go_quiet (fail)
        go_wp2
        go_roundw
        case rel => exact ⟨k + 1, by omega, by go_num, HNE.out, _, rfl⟩
        case measure => simp [intOf]; omega
    · obtain rfl : k = n := by omega
      have HVK : Hid (v = -1) := by
        show _ = _
        rw [← HV.out, if_neg]
        intro hm
        obtain ⟨j, hj, e⟩ := List.getElem_of_mem hm
        exact HA.out j _ (by rw [← HL.out]; exact hj) (List.getElem?_eq_getElem hj) e
      go_wp2
      go_ret
      exact ⟨ret_int HVK.out.symm, below_drewN B0.out _⟩
theorem ansD_in {s : List Int} {k : Nat} {v : Int} (h : s[k]? = some v) : (ansD s (k : Int) : Int) = if 0 ≤ v ∧ v ≤ 2 then v else 1 := by
  unfold ansD
  rw [Int.toNat_natCast, h]
  show ((if 0 ≤ v ∧ v ≤ 2 then v.toNat else 1 : Nat) : Int) = _
  split
  · omega
  · rfl
theorem ansD_out {s : List Int} {k : Nat} (h : s.length ≤ k) : (ansD s (k : Int) : Int) = 1 := by
  unfold ansD
  rw [Int.toNat_natCast, List.getElem?_eq_none h]
  rfl
set_option maxRecDepth 100000 in
theorem answer_any {B n c : Nat} {A : Option Addr} {s : List Int} (h : Sl w B A n c (nv s)) (k : Nat) : Calls Try.prog 23 #[.slice A n c, .int .i64 (k : Int)] w fun e w' => e = .returned (.int .i64 (ansD s (k : Int) : Int)) ∧ w = w' := by
  have hl := h.nlen
  have hle := h.le
  have hcap := h.cap
  unfold maxLen at hcap
  by_cases hk : k < n
  · obtain ⟨b, o, x, rfl, _, hx, x0⟩ := h.num hk
    have HA := Lib.hid (ansD_in hx)
    clear h hx
    by_cases h0 : x < 0
    · have HB : Hid ((ansD s (k : Int) : Int) = 1) := by show _ = _; rw [HA.out, if_neg (by omega)]
      go_enter Try.func23, Try.ntmps23
      go_wp2_with fail
      go_ret
      exact ⟨ret_int HB.out.symm, rfl⟩
    · by_cases h2 : 2 < x
      · have HB : Hid ((ansD s (k : Int) : Int) = 1) := by show _ = _; rw [HA.out, if_neg (by omega)]
        go_enter Try.func23, Try.ntmps23
        go_wp2_with fail
        go_ret
        exact ⟨ret_int HB.out.symm, rfl⟩
      · have HB : Hid ((ansD s (k : Int) : Int) = x) := by show _ = _; rw [HA.out, if_pos (by omega)]
        go_enter Try.func23, Try.ntmps23
        go_wp2_with fail
        go_ret
        exact ⟨ret_int HB.out.symm, rfl⟩
  · have HB := Lib.hid (ansD_out (s := s) (k := k) (by omega))
    clear h
    go_enter Try.func23, Try.ntmps23
    go_wp2_with fail
    go_ret
    exact ⟨ret_int HB.out.symm, rfl⟩
set_option maxRecDepth 100000 in
theorem new_bad (most : Int) (w : World) (h : ¬ (1 ≤ most ∧ most ≤ 2000)) : Calls Try.prog 8 #[.int .i64 most] w fun e w' => e = .returned (.tuple #[.pointer none, .int .i64 1]) ∧ w' = w := by
  by_cases h0 : most < 1
  · go_enter Try.func8, Try.ntmps8
    go_wp2_with fail
    go_ret2
    exact ⟨rfl, rfl⟩
  · have h1 : 2000 < most := by omega
    go_enter Try.func8, Try.ntmps8
    go_wp2_with fail
    go_ret2
    exact ⟨rfl, rfl⟩
set_option maxRecDepth 100000 in
theorem new_ok (most : Int) (w : World) (h0 : 1 ≤ most) (h1 : most ≤ 2000) : Calls Try.prog 8 #[.int .i64 most] w fun e w' => e = .returned (.tuple #[.pointer (some ⟨w.heap.size, 0, none⟩), .int .i64 0]) ∧ w' = w.alloc (.cells #[.int .i64 most, .slice none 0 0] 57) := by
  go_enter Try.func8, Try.ntmps8
  go_wp2_with fail
  go_ret2
  exact ⟨rfl, rfl⟩
theorem DgAt.new_ {T : TypeId} {w : World} {base : Nat} (hb : base ≤ w.heap.size) {most : Int} (h1 : 1 ≤ most) (h2 : most ≤ 2000) : DgAt T (w.alloc (.cells #[.int .i64 most, .slice none 0 0] T)) base w.heap.size most none 0 0 [] :=
  ⟨Ob.made _ _ _, Ow.nil _ _ _ _ _, ⟨hb, by rw [size_al]; omega⟩, by simp [Value.ownBlock], ⟨h1, h2, by omega⟩, Dg.nil⟩
end
end Go.Proofs.Ytipeefehhaffkaa
