/- ValueNames: the walk. -/
import Derived.Test.YtcelkfahkodlhaaDoorVRuns
import Derived.Test.YtcelkfahkodlhaaDoorVEq
import Derived.Test.YtcelkfahkodlhaaDoorWithin
import Derived.Lib.QuietBelow
import Derived.BigQuiet
import Derived.Deep.RegionHeld3
import Derived.Deep.DeepCutAuto
namespace Go.Proofs.YtcelkfahkodlhaaDoor
set_option linter.unusedVariables false
open Go.RowKit Go.Sort

theorem name_is {x : ByteArray} {b : Bool} (h : decide (Named x.data.toList) = b) (hx : x.size ≤ maxLen) (w : World) :
    Calls Tryd.prog 21 #[.string x] w fun e w' => e = .returned (.bool b) ∧ w' = w := by
  have := name_any x hx w
  rw [h] at this
  exact this

theorem name_grown {x : ByteArray} {b : Bool} (h : decide (Named x.data.toList) = b) (hx : x.size ≤ maxLen) (w : World) (d : Nat) (os : Array Obj) :
    Calls Tryd.prog 21 #[.string x] (grow (redrawn w d) os) fun e w'' => e = .returned (.bool b) ∧ ∃ p : Regrown, w'' = grow (redrawn w p.d) p.os :=
  (name_is h hx _).mono fun _ _ hh => ⟨hh.1, ⟨d, os⟩, hh.2⟩
theorem named_take {l : List UInt8} {k : Nat} (h : Named l) (hk : 1 ≤ k) : Named (l.take k) := by
  obtain ⟨⟨h1, h2⟩, h3⟩ := h
  refine ⟨by rw [List.length_take]; omega, fun j hj => ?_⟩
  rw [List.length_take] at hj
  rw [List.getElem_take]
  exact h3 j (by omega)
theorem named_long {l : List UInt8} {j : Nat} (h : Named l) (hj : l.length + j = 17) : Named ((l ++ List.replicate j 120).take 16) := by
  obtain ⟨⟨h1, h2⟩, h3⟩ := h
  refine ⟨by rw [List.length_take, List.length_append, List.length_replicate]; omega, fun i hi => ?_⟩
  rw [List.getElem_take]
  by_cases hil : i < l.length
  · rw [List.getElem_append_left hil]; exact h3 i hil
  · rw [List.getElem_append_right (by omega), List.getElem_replicate]; exact okAt_of (.inl (by decide))
theorem ok_one {k : Nat} {c : UInt8} (h : okAt 1 c = false) : okAt k c = false := by
  unfold okAt at *
  simp at h
  simp [h.1, h.2]

theorem conv_one {W : World} {g : Nat} {c : UInt8} (h : W.cell? ⟨g, 0, none⟩ = some (.int .u8 (c.toNat : Int))) : (convert 37 9 (.slice (some ⟨g, 0, none⟩) 1 1)).run Tryd.prog W = .ok (.string ⟨#[c]⟩) W :=
  conv_text (B := g + 1) (l := [c]) Tryd.underlying37 Tryd.underlying5 Tryd.underlying9 ⟨rfl, Nat.le_refl _, by simp [maxLen], .inr ⟨g, 0, rfl, by omega, fun j u hu => by
    match j, hu with
    | 0, hu => simp [bv] at hu; subst hu; exact h
    | j + 1, hu => simp [bv] at hu⟩⟩
theorem bad_at {t : ByteArray} {k : Nat} {c : UInt8} (h1 : 1 ≤ k) (h2 : k ≤ t.size) : ((t.extract 0 (k - 1)) ++ (⟨#[c]⟩ : ByteArray) ++ (t.extract k t.size)).data.toList[k - 1]? = some c := by
  have hl := data_len t
  have e : ((t.extract 0 (k - 1)) ++ (⟨#[c]⟩ : ByteArray) ++ (t.extract k t.size)).data.toList = (t.data.toList.take (k - 1)) ++ ([c] ++ (t.extract k t.size).data.toList) := by
    rw [cut_eq]; simp [ByteArray.data_append]
  rw [e, List.getElem?_append_right (by rw [List.length_take]; omega), List.length_take]
  have : k - 1 - min (k - 1) t.data.toList.length = 0 := by omega
  rw [this]
  rfl
theorem bad_size {t : ByteArray} {k : Nat} {c : UInt8} (h : t.size ≤ 30) : ((t.extract 0 (k - 1)) ++ (⟨#[c]⟩ : ByteArray) ++ (t.extract k t.size)).size ≤ maxLen := by
  have h1 : (⟨#[c]⟩ : ByteArray).size = 1 := rfl
  rw [ByteArray.size_append, ByteArray.size_append, ByteArray.size_extract, ByteArray.size_extract, h1]
  unfold maxLen; omega

theorem six (c : UInt8) : ((c.toNat : Int) < 97 ∧ (c.toNat : Int) < 48 ∧ ((c.toNat : Int) == 95) = false) ∨ ((c.toNat : Int) < 97 ∧ (48 ≤ (c.toNat : Int) ∧ (c.toNat : Int) ≤ 57) ∧ ((c.toNat : Int) == 95) = false) ∨ ((c.toNat : Int) < 97 ∧ (48 ≤ (c.toNat : Int) ∧ 57 < (c.toNat : Int)) ∧ ((c.toNat : Int) == 95) = false) ∨
          ((c.toNat : Int) < 97 ∧ (48 ≤ (c.toNat : Int) ∧ 57 < (c.toNat : Int)) ∧ ((c.toNat : Int) == 95) = true) ∨ ((97 ≤ (c.toNat : Int) ∧ 122 < (c.toNat : Int)) ∧ (48 ≤ (c.toNat : Int) ∧ 57 < (c.toNat : Int)) ∧ ((c.toNat : Int) == 95) = false) ∨ ((97 ≤ (c.toNat : Int) ∧ (c.toNat : Int) ≤ 122) ∧ (48 ≤ (c.toNat : Int) ∧ 57 < (c.toNat : Int)) ∧ ((c.toNat : Int) == 95) = false) := by
  simp only [beq_iff_eq, beq_eq_false_iff_ne]; omega

/-- The name, made too long. -/
def LongRel (l : List UInt8) (v : Value) : Prop := ∃ j, v = .string ⟨(l ++ List.replicate j 120).toArray⟩ ∧ l.length + j ≤ 17

set_option maxHeartbeats 3200000 in
set_option maxRecDepth 100000 in
theorem valueNames_walk (w : World) (s : ByteArray) (hs : s.size ≤ maxLen) (n : Int) (hn : (Lit.int .i64 n).wf = true) (b : Int) (hb : (Lit.int .u8 b).wf = true) (htab : Tab w) :
    Calls Tryd.prog 9 #[.string s, .int .i64 n, .int .u8 b] w fun e w' => e = .returned (.bool true) ∧ Below w.heap.size w w' := by
  obtain ⟨c, rfl⟩ := wf_u8 hb
  have HTAB := Lib.hid htab
  clear hb hn htab
  unfold maxLen at hs
  go_enter Tryd.func9, Tryd.ntmps9
  go_upto_region 1 with fail
  go_cut [0] (fun u wx => ∃ t : ByteArray, u = .string t ∧ t.size ≤ 30 ∧ wx = w)
  case first =>
    go_wp2_with fail
    go_meet
    exact ⟨_, rfl, by rw [ByteArray.size_extract]; omega, rfl⟩
  case rest =>
    obtain ⟨t, rfl, ht, rfl⟩ := hcut
    clear hs
    by_cases hN : Named t.data.toList
    · have N1 := Lib.hid (fun W => name_is (decide_eq_true hN) (by unfold maxLen; omega) W)
      have hlen := data_len t
      have h1 : 1 ≤ t.size := by have := hN.1.1; omega
      have h16 : t.size ≤ 16 := by have := hN.1.2; omega
      have HN := Lib.hid hN
      have HLEN := Lib.hid hlen
      clear hN hlen
      have hw := within_le (n := n) (lo := 1) (hi := (t.size : Int)) (by omega)
      have WI := Lib.hid (fun W => within_any (n := n) (lo := 1) (hi := (t.size : Int)) (w := W) (by omega) (by omega) (by omega))
      obtain ⟨k, hk⟩ : ∃ k : Nat, withinOf n 1 (t.size : Int) = (k : Int) := ⟨(withinOf n 1 (t.size : Int)).toNat, by omega⟩
      rw [hk] at hw
      rw [hk] at WI
      clear hk
      go_wp2_with fail
      refine (N1.out _).mono ?_
      rintro e w1 ⟨rfl, rfl⟩
      go_wp2_with fail
      refine (WI.out _).mono ?_
      rintro e w2 ⟨rfl, hw2⟩
      subst hw2
      go_upto_region 5 with fail
      go_cut [8] (fun u wx => u = .bool (!okAt 1 c) ∧ wx = w1)
      case first =>
        rcases six c with ⟨a, b, e⟩ | ⟨a, b, e⟩ | ⟨a, b, e⟩ | ⟨a, b, e⟩ | ⟨a, b, e⟩ | ⟨a, b, e⟩
        all_goals
          go_wp2_with fail
          go_meet
          refine ⟨?_, rfl⟩
          simp only [beq_iff_eq, beq_eq_false_iff_ne] at e
          first
            | (rw [okAt_of (by omega)]; rfl)
            | (rw [okAt_not (by omega)]; first | rfl | (simp; omega))
      case rest =>
        obtain ⟨rfl, rfl⟩ := hcut
        go_wp2_with fail
        go_loop [9] (fun v => LongRel t.data.toList v) (fun v => match v with | .string x => 17 - x.size | _ => 0)
        case atStart => exact ⟨0, by simp, by have := HLEN.out; omega⟩
        case round =>
          obtain ⟨j, rfl, hj⟩ := hrel
          have hj' := hj
          have hll : (⟨(t.data.toList ++ List.replicate j 120).toArray⟩ : ByteArray).size = t.size + j := by
            have := HLEN.out
            show (t.data.toList ++ List.replicate j 120).toArray.size = _
            simp only [List.size_toArray, List.length_append, List.length_replicate]
            omega
          have hadd : (⟨(t.data.toList ++ List.replicate j 120).toArray⟩ : ByteArray) ++ ⟨#[120]⟩ = ⟨(t.data.toList ++ List.replicate (j + 1) 120).toArray⟩ := by
            rw [show (⟨#[120]⟩ : ByteArray) = ⟨[120].toArray⟩ from rfl, str_add, List.replicate_succ', List.append_assoc]
          have hsz : t.size + j ≤ 17 := by have := HLEN.out; omega
          have HADD := Lib.hid hadd
          clear hj hj' hadd
          generalize hlong : (⟨(t.data.toList ++ List.replicate j 120).toArray⟩ : ByteArray) = lg at *
          have HLONG := Lib.hid hlong
          clear hlong
          by_cases hfit : t.size + j ≤ 16
          · go_wp2_with fail
            go_round
            case rel => exact ⟨j + 1, by rw [HADD.out], by have := HLEN.out; omega⟩
            case measure =>
              have h2 : (lg ++ (⟨#[120]⟩ : ByteArray)).size = lg.size + 1 := by simp [ByteArray.size_append]; rfl
              simp only [h2]
              omega
          · obtain rfl : j = 17 - t.size := by omega
            have hlg : lg.data.toList = t.data.toList ++ List.replicate (17 - t.size) 120 := by rw [← HLONG.out]
            have NL : ∀ W d os, _ := fun W d os => name_grown (x := lg) (b := false) (name_len (.inr (by rw [hlg, List.length_append, List.length_replicate]; have := HLEN.out; omega))) (by unfold maxLen; omega) W d os
            have NP : ∀ W d os, _ := fun W d os => name_grown (x := t.extract 0 k) (b := true) (decide_eq_true (by rw [cut_eq]; exact named_take HN.out (by omega))) (by rw [ByteArray.size_extract]; unfold maxLen; omega) W d os
            have NS : ∀ W d os, _ := fun W d os => name_grown (x := lg.extract 0 16) (b := true) (decide_eq_true (by rw [cut_eq, hlg]; exact named_long HN.out (by have := HLEN.out; omega))) (by rw [ByteArray.size_extract]; unfold maxLen; omega) W d os
            have NLH := Lib.hid NL
            have NPH := Lib.hid NP
            have NSH := Lib.hid NS
            have QR := Lib.hid (fun d os => Calls.regrown_of (vruns_any _ (HTAB.out.then_ (below_regrown wc d os))))
            have HLG := Lib.hid hlg
            clear NL NP NS hlg
            go_wp2_with fail
            cases hok : okAt 1 c with
            | true =>
              refine wp_region_quiet_below (by kernel_rfl) (by kernel_rfl) ?_
              repeat (go_big_quiet_step ((first | (go_at_call 21; with_reducible exact NLH.out _ _ _) | (go_at_call 21; with_reducible exact NPH.out _ _ _) | (go_at_call 21; with_reducible exact NSH.out _ _ _) | (go_at_call 3; exact QR.out _ _))))
              refine wpQuiet_nil ?_
              intro _ hw'
              obtain ⟨⟨dq, osq⟩, hw''⟩ := hw'
              subst hw''
              go_wp2_with fail
              go_ret
              exact ⟨rfl, below_regrown wc dq osq⟩
            | false =>
              have NB : ∀ W, _ := fun W => name_is (x := (t.extract 0 (k - 1)) ++ (⟨#[c]⟩ : ByteArray) ++ (t.extract k t.size)) (b := false) (name_bad (bad_at (by omega) (by omega)) (ok_one hok)) (bad_size ht) W
              have NBH := Lib.hid NB
              have RH := Lib.hid (fun W h => vruns_any W h)
              have hk1 : IntKind.i64.wrap ((k : Int) - 1) = (k : Int) - 1 := by
                rw [IntKind.wrap_i64]; omega
              have hkt : ((k : Int) - 1).toNat = k - 1 := by omega
              have hcv : ∀ W : World, W.cell? ⟨wc.heap.size, 0, none⟩ = some (.int .u8 (c.toNat : Int)) → (convert 37 9 (.slice (some ⟨wc.heap.size, 0, none⟩) 1 1)).run Tryd.prog W = .ok (.string ⟨#[c]⟩) W := fun W h => conv_one h
              have NP2 := Lib.hid (fun W => name_is (x := t.extract 0 k) (b := true) (decide_eq_true (by rw [cut_eq]; exact named_take HN.out (by omega))) (by rw [ByteArray.size_extract]; unfold maxLen; omega) W)
              have NL2 := Lib.hid (fun W => name_is (x := lg) (b := false) (decide_eq_false (fun h => by have := HLG.out ▸ h.1.2; rw [List.length_append, List.length_replicate] at this; have := HLEN.out; omega)) (by unfold maxLen; omega) W)
              have NS2 := Lib.hid (fun W => name_is (x := lg.extract 0 16) (b := true) (decide_eq_true (by rw [cut_eq, HLG.out]; exact named_long HN.out (by have := HLEN.out; omega))) (by rw [ByteArray.size_extract]; unfold maxLen; omega) W)
              have q1 : (k : Int) - 1 ≤ (t.size : Int) := by omega
              have q2 : ¬ 9223372036854775807 < min (k - 1) t.size + 1 := by omega
              have q3 : ¬ 9223372036854775807 < min (k - 1) t.size + 1 + (t.size - k) := by omega
              have q4 : lg.size = 17 := by omega
              clear NB hll
              go_region_held (fun w' => w'.os = wc.os) (first | rfl | exact hb9.os)
                ((first | (go_at_call 21; with_reducible refine (NBH.out _).mono ?_; rintro e w9 ⟨rfl, rfl⟩) | (go_at_call 21; with_reducible refine (NP2.out _).mono ?_; rintro e w9 ⟨rfl, rfl⟩) | (go_at_call 21; with_reducible refine (NL2.out _).mono ?_; rintro e w9 ⟨rfl, rfl⟩) | (go_at_call 21; with_reducible refine (NS2.out _).mono ?_; rintro e w9 ⟨rfl, rfl⟩) | (go_at_call 3; refine (RH.out _ (HTAB.out.then_ (below_drewN ((Below.refl _ wc).alloc (Nat.le_refl _) _) 1))).mono ?_; rintro e w9 ⟨rfl, hb9⟩))) 
              all_goals
                go_wp2_with fail
                go_ret
                exact ⟨rfl, below_step (below_drewN ((Below.refl _ wc).alloc (Nat.le_refl _) _) 1) hb9⟩
    · have N1 := Lib.hid (fun W => name_is (decide_eq_false hN) (by unfold maxLen; omega) W)
      have NE := Lib.hid (fun W => name_is (x := ⟨#[]⟩) (b := false) (by decide) (by decide) W)
      have NA := Lib.hid (fun W => name_is (x := ⟨#[49, 97]⟩) (b := false) (by decide) (by decide) W)
      clear hN
      go_wp2_with fail
      refine (N1.out _).mono ?_
      rintro e w1 ⟨rfl, rfl⟩
      go_wp2_with fail
      refine (NE.out _).mono ?_
      rintro e w1 ⟨rfl, rfl⟩
      go_wp2_with fail
      refine (NA.out _).mono ?_
      rintro e w1 ⟨rfl, rfl⟩
      go_wp2_with fail
      refine (vruns_any _ HTAB.out).mono ?_
      rintro e w2 ⟨rfl, hb2⟩
      have HB2 := Lib.hid hb2
      clear hb2
      go_wp2_with fail
      go_ret
      exact ⟨rfl, HB2.out⟩
end Go.Proofs.YtcelkfahkodlhaaDoor
