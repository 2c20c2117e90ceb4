/- PolicyNames: the walk. -/
import Derived.Test.YtcpbmeejgkjmjaaPolCalls
import Derived.Test.YtcpbmeejgkjmjaaPolicyNamesF
import Derived.Test.YtcpbmeejgkjmjaaWithin
namespace Go.Proofs.Ytcpbmeejgkjmjaa
set_option linter.unusedVariables false
open Go.RowKit

theorem Below.lit1 (w : World) (o : Obj) : Below w.heap.size w (w.alloc o) := (Below.refl _ _).alloc (Nat.le_refl _) _
set_option maxRecDepth 100000 in
set_option maxHeartbeats 6400000 in
theorem policyNames_walk (W : World) (p : Pol) {A1 : Option Addr} {n1 k1 : Nat} {A2 : Option Addr} {n2 k2 : Nat} {A3 : Option Addr} {n3 k3 : Nat} {A4 : Option Addr} {n4 k4 : Nat} (h : PolIn W (fun _ => True) p A1 n1 k1 A2 n2 k2 A3 n3 k3 A4 n4 k4) (at_ : Int) (name : ByteArray) (hname : name.size ≤ maxLen) :
    Calls Try.prog 4 #[.agg #[.string p.id, .bool p.set, .int .i64 p.alg, .slice A1 n1 k1, .slice A2 n2 k2, .slice A3 n3 k3, .slice A4 n4 k4], .int .i64 at_, .string name] W fun e w' => e = .returned (.bool true) ∧ Below W.heap.size W w' := by
  obtain ⟨d, ⟨m, rfl, hkm⟩, hsm⟩ := call_small h
  have HS := Lib.hid hsm
  have H := Lib.hid h
  have HR := Lib.hid pruns_any
  have XA : Hid (Ob (W.alloc (.cells #[.string p.id, .bool p.set, .int .i64 p.alg, .slice A1 n1 k1, .slice A2 n2 k2, .slice A3 n3 k3, .slice A4 n4 k4] 28)) W.heap.size 28 #[.string p.id, .bool p.set, .int .i64 p.alg, .slice A1 n1 k1, .slice A2 n2 k2, .slice A3 n3 k3, .slice A4 n4 k4]) := Ob.made _ _ _
  have D0 : Hid (Below W.heap.size W (W.alloc (.cells #[.string p.id, .bool p.set, .int .i64 p.alg, .slice A1 n1 k1, .slice A2 n2 k2, .slice A3 n3 k3, .slice A4 n4 k4] 28))) := (Below.refl _ _).alloc (Nat.le_refl _) _
  obtain ⟨hid, ht, hr2, _, ho⟩ := h
  have le2 := Rw.le hr2
  have cap2 := Rw.cap hr2
  have le3 := Rw.le hkm
  have cap3 := Rw.cap hkm
  have LL : Hid (p.rules.length = n2 ∧ p.kids.length = n3) := ⟨Rw.len hr2, Rw.len hkm⟩
  unfold maxLen at cap2 cap3 hname
  by_cases e00 : polC (m + 1) p ≤ 3000
  case neg =>
    rw [decide_eq_false e00] at HS
    clear hsm e00
    go_enter Try.func4, Try.ntmps4
    go_wp2_with (first
      | (go_at_call 6; (with_reducible refine (HS.out _ D0.out).mono ?_); rintro e u1 ⟨rfl, hb⟩; have G1 := Lib.hid (below_step D0.out hb); clear hb)
      | (go_at_call 7; refine (HR.out _).mono ?_; rintro e u9 ⟨rfl, hb⟩; have G9 := Lib.hid (below_step G1.out hb); clear hb))
    go_ret
    exact ⟨rfl, G9.out⟩
  rw [decide_eq_true e00] at HS
  have HCP : Hid (∀ V : World, Below W.heap.size W V → Calls Try.prog 8 #[.agg #[.string p.id, .bool p.set, .int .i64 p.alg, .slice A1 n1 k1, .slice A2 n2 k2, .slice A3 n3 k3, .slice A4 n4 k4]] V fun e w' => ∃ B1 d1 B2 d2 B3 d3 B4 d4, e = .returned (.agg #[.string p.id, .bool p.set, .int .i64 p.alg, .slice B1 n1 d1, .slice B2 n2 d2, .slice B3 n3 d3, .slice B4 n4 d4]) ∧ Below V.heap.size V w' ∧ CopyTo V w' m p B1 n1 d1 B2 n2 d2 B3 n3 d3 B4 n4 d4) :=
    fun V hV => cok_all m e00 hid.1 hid.2 (ht.keep (Kept.all hV _) (fun _ h _ => h)) (hr2.keep (Kept.all hV _) (fun _ h _ => h)) (hkm.keep (Kept.all hV _) (fun _ h _ => h)) (ho.keep (Kept.all hV _) (fun _ h _ => h))
  have HN3 : Hid (n2 ≤ 3000 ∧ n3 ≤ 3000) := ⟨by have := Rw.len hr2; unfold polC at e00; omega, by have := kids_len hkm; unfold polC at e00; omega⟩
  have HID := Lib.hid hid
  clear hsm ht hr2 hkm ho hid e00
  by_cases e0 : rightE p = 0
  case neg =>
    obtain ⟨r, hr⟩ : ∃ r, r = rightE p := ⟨_, rfl⟩
    have CR := Lib.hid (call_right hr.symm H.out)
    rw [← hr] at e0
    have hne : (r != 0) = true := by simpa using e0
    clear e0 hr
    go_enter Try.func4, Try.ntmps4
    go_wp2_with (first
      | (go_at_call 6; (with_reducible refine (HS.out _ D0.out).mono ?_); rintro e u1 ⟨rfl, hb⟩; have G1 := Lib.hid (below_step D0.out hb); have X1 := Lib.hid (XA.out.below hb XA.out.lt); have y0 := X1.out.cell 0; have y1 := X1.out.cell 1; have y2 := X1.out.cell 2; have y3 := X1.out.cell 3; have y4 := X1.out.cell 4; have y5 := X1.out.cell 5; have y6 := X1.out.cell 6; clear hb)
      | (go_at_call 9; (with_reducible refine (CR.out _ G1.out).mono ?_); rintro e u2 ⟨rfl, hb⟩; have G2 := Lib.hid (below_step G1.out hb); clear hb)
      | (go_at_call 7; refine (HR.out _).mono ?_; rintro e u9 ⟨rfl, hb⟩; have G9 := Lib.hid (below_step G2.out hb); clear hb))
    go_ret
    exact ⟨rfl, G9.out⟩
  have CR := Lib.hid (call_right e0 H.out)
  have E0 := Lib.hid e0
  clear e0
  by_cases hlong : 60 < name.size
  case pos =>
    have hl2 : (60 : Int) < (name.size : Int) := by omega
    go_enter Try.func4, Try.ntmps4
    go_wp2_with (first
      | (go_at_call 6; (with_reducible refine (HS.out _ D0.out).mono ?_); rintro e u1 ⟨rfl, hb⟩; have G1 := Lib.hid (below_step D0.out hb); have X1 := Lib.hid (XA.out.below hb XA.out.lt); have y0 := X1.out.cell 0; have y1 := X1.out.cell 1; have y2 := X1.out.cell 2; have y3 := X1.out.cell 3; have y4 := X1.out.cell 4; have y5 := X1.out.cell 5; have y6 := X1.out.cell 6; clear hb)
      | (go_at_call 9; (with_reducible refine (CR.out _ G1.out).mono ?_); rintro e u2 ⟨rfl, hb⟩; have G2 := Lib.hid (below_step G1.out hb); clear hb)
      | (go_at_call 7; refine (HR.out _).mono ?_; rintro e u9 ⟨rfl, hb⟩; have G9 := Lib.hid (below_step G2.out hb); clear hb))
    go_ret
    exact ⟨rfl, G9.out⟩
  have hl1 : ¬ (60 : Int) < (name.size : Int) := by omega
  clear hlong
  have RO : Hid (∀ (V V' U : World) B1 d1 B2 d2 B3 d3 B4 d4, CopyTo V V' m p B1 n1 d1 B2 n2 d2 B3 n3 d3 B4 n4 d4 → Below V'.heap.size V' U → Calls Try.prog 9 #[.agg #[.string (⟨#[88]⟩ ++ name), .bool p.set, .int .i64 p.alg, .slice B1 n1 d1, .slice B2 n2 d2, .slice B3 n3 d3, .slice B4 n4 d4]] U fun e w' => e = .returned (.int .i64 1) ∧ Below U.heap.size U w') :=
    fun V V' U B1 d1 B2 d2 B3 d3 B4 d4 hc hU => right_own hc HID.out.2 HID.out.1 HN3.out.1 HN3.out.2 (by rw [ByteArray.size_append]; show 1 + name.size ≤ maxLen; unfold maxLen; omega) (no_name name) hU
  have RS : Hid (p.set = true → ∀ (V V' U U' : World) B1 d1 B2 d2 B3 d3 B4 d4 g, CopyTo V V' m p B1 n1 d1 B2 n2 d2 B3 n3 d3 B4 n4 d4 → Below V'.heap.size V' U → Ob U g 48 #[.string ⟨#[122, 122, 122]⟩, .bool false, .slice none 0 0, .slice none 0 0, .slice none 0 0] → Below U.heap.size U U' →
      Calls Try.prog 9 #[.agg #[.string p.id, .bool p.set, .int .i64 p.alg, .slice B1 n1 d1, .slice (some ⟨g, 0, none⟩) 1 1, .slice B3 n3 d3, .slice B4 n4 d4]] U' fun e w' => e = .returned (.int .i64 1) ∧ Below U'.heap.size U' w') :=
    fun hset V V' U U' B1 d1 B2 d2 B3 d3 B4 d4 g hc hU hg hU' => right_rules hc HID.out.2 HID.out.1 HN3.out.1 HN3.out.2 hset E0.out (by show 3 ≤ maxLen; unfold maxLen; omega) hU hg U' hU'
  have RK : Hid (p.set = false → ∀ (V V' U U' : World) B1 d1 B2 d2 B3 d3 B4 d4 g, CopyTo V V' m p B1 n1 d1 B2 n2 d2 B3 n3 d3 B4 n4 d4 → Below V'.heap.size V' U → Ob U g 28 #[.string ⟨#[122, 122, 122]⟩, .bool false, .int .i64 1, .slice none 0 0, .slice none 0 0, .slice none 0 0, .slice none 0 0] → Below U.heap.size U U' →
      Calls Try.prog 9 #[.agg #[.string p.id, .bool p.set, .int .i64 p.alg, .slice B1 n1 d1, .slice B2 n2 d2, .slice (some ⟨g, 0, none⟩) 1 1, .slice B4 n4 d4]] U' fun e w' => e = .returned (.int .i64 1) ∧ Below U'.heap.size U' w') :=
    fun hset V V' U U' B1 d1 B2 d2 B3 d3 B4 d4 g hc hU hg hU' => right_kids hc HID.out.2 HID.out.1 HN3.out.1 HN3.out.2 hset E0.out (by show 3 ≤ maxLen; unfold maxLen; omega) hU hg U' hU'
  have KD : Hid (∀ (V V' : World) B1 d1 B2 d2 B3 d3 B4 d4 j, CopyTo V V' m p B1 n1 d1 B2 n2 d2 B3 n3 d3 B4 n4 d4 → j < n3 → ∃ g, B3 = some ⟨g, 0, none⟩ ∧ V.heap.size ≤ g ∧ g < V'.heap.size ∧ ∀ U, Below V'.heap.size V' U → ∃ u, U.cell? ⟨g, j * 7, none⟩ = some u ∧ U.frozen? ⟨g, j * 7, none⟩ = false ∧ Only g U (U.setCell ⟨g, j * 7, none⟩ (.string p.id)) ∧
      ∀ X, Below (U.setCell ⟨g, j * 7, none⟩ (.string p.id)).heap.size (U.setCell ⟨g, j * 7, none⟩ (.string p.id)) X →
        Calls Try.prog 9 #[.agg #[.string p.id, .bool p.set, .int .i64 p.alg, .slice B1 n1 d1, .slice B2 n2 d2, .slice B3 n3 d3, .slice B4 n4 d4]] X fun e w' => e = .returned (.int .i64 1) ∧ Below X.heap.size X w') :=
    fun V V' B1 d1 B2 d2 B3 d3 B4 d4 j hc hj => kid_put hc HID.out.1 HID.out.2 HN3.out.1 HN3.out.2 E0.out LL.out.2 hj
  have KU : Hid (∀ (V V' : World) B1 d1 B2 d2 B3 d3 B4 d4 j, CopyTo V V' m p B1 n1 d1 B2 n2 d2 B3 n3 d3 B4 n4 d4 → j < n2 → ∃ g, B2 = some ⟨g, 0, none⟩ ∧ V.heap.size ≤ g ∧ g < V'.heap.size ∧ ∀ U, Below V'.heap.size V' U → ∃ u, U.cell? ⟨g, j * 5, none⟩ = some u ∧ U.frozen? ⟨g, j * 5, none⟩ = false ∧ Only g U (U.setCell ⟨g, j * 5, none⟩ (.string p.id)) ∧
      ∀ X, Below (U.setCell ⟨g, j * 5, none⟩ (.string p.id)).heap.size (U.setCell ⟨g, j * 5, none⟩ (.string p.id)) X →
        Calls Try.prog 9 #[.agg #[.string p.id, .bool p.set, .int .i64 p.alg, .slice B1 n1 d1, .slice B2 n2 d2, .slice B3 n3 d3, .slice B4 n4 d4]] X fun e w' => e = .returned (.int .i64 1) ∧ Below X.heap.size X w') :=
    fun V V' B1 d1 B2 d2 B3 d3 B4 d4 j hc hj => rule_put hc HID.out.1 HID.out.2 HN3.out.1 HN3.out.2 E0.out LL.out.1 hj
  have HF : Hid ((p.set = true → n2 = 0) ∧ (p.set = false → n3 = 0)) := by
    obtain ⟨_, hf, _⟩ := right_parts E0.out
    have l2 := LL.out.1
    have l3 := LL.out.2
    refine ⟨fun h => ?_, fun h => ?_⟩
    · unfold fitsB at hf
      rw [if_pos h] at hf
      simp at hf
      rw [← l2]; simpa using hf.2
    · unfold fitsB at hf
      rw [if_neg (by rw [h]; simp)] at hf
      simp at hf
      rw [← l3]; simpa using hf.2.1
  generalize p.set = sb at *
  cases sb
  case true =>
    obtain rfl : n2 = 0 := HF.out.1 rfl
    by_cases hn3 : n3 = 0
    · subst hn3
      go_enter Try.func4, Try.ntmps4
      go_wp2_with (first
        | (go_at_call 6; (with_reducible refine (HS.out _ D0.out).mono ?_); rintro e u1 ⟨rfl, hb⟩; have G1 := Lib.hid (below_step D0.out hb); have X1 := Lib.hid (XA.out.below hb XA.out.lt); have y0 := X1.out.cell 0; have y1 := X1.out.cell 1; have y2 := X1.out.cell 2; have y3 := X1.out.cell 3; have y4 := X1.out.cell 4; have y5 := X1.out.cell 5; have y6 := X1.out.cell 6; clear hb)
        | (go_at_call 9; (with_reducible refine RSG.out.mono ?_); rintro e u7 ⟨rfl, hb⟩; have G7 := Lib.hid (below_step G6.out hb); clear hb)
        | (go_at_call 9; (with_reducible refine RRF.out.mono ?_); rintro e u6 ⟨rfl, hb⟩; have G6 := Lib.hid (below_step G5.out hb); have XS6 := Lib.hid (XS.out.below hb XS.out.lt); have RSG := Lib.hid (RSF.out u6 hb); clear z0 z1 z2 z3 z4 z5 z6; have z0 := XS6.out.cell 0; have z1 := XS6.out.cell 1; have z2 := XS6.out.cell 2; have z3 := XS6.out.cell 3; have z4 := XS6.out.cell 4; have z5 := XS6.out.cell 5; have z6 := XS6.out.cell 6; clear hb)
        | (go_at_call 9; (with_reducible refine (CR.out _ G1.out).mono ?_); rintro e u2 ⟨rfl, hb⟩; have G2 := Lib.hid (below_step G1.out hb); have X2 := Lib.hid (X1.out.below hb X1.out.lt); clear y0 y1 y2 y3 y4 y5 y6; have y0 := X2.out.cell 0; have y1 := X2.out.cell 1; have y2 := X2.out.cell 2; have y3 := X2.out.cell 3; have y4 := X2.out.cell 4; have y5 := X2.out.cell 5; have y6 := X2.out.cell 6; clear hb)
        | (go_at_call 8; (with_reducible refine (HCP.out _ G4.out).mono ?_); rintro e u5 ⟨E1, h1, E2, h2, E3, h3, E4, h4, rfl, hb, hp⟩; have BT : Below u5.heap.size u5 ((u5.alloc (.cells #[.string p.id, .bool true, .int .i64 p.alg, .slice E1 n1 h1, .slice (some ⟨u5.heap.size + 1, 0, none⟩) 1 1, .slice E3 0 h3, .slice E4 n4 h4] 28)).alloc (.cells #[.string ⟨#[122, 122, 122]⟩, .bool false, .slice none 0 0, .slice none 0 0, .slice none 0 0] 48)) := ((Below.refl _ _).alloc (Nat.le_refl _) _).alloc (by rw [size_al]; omega) _; have b4 := ((Below.lit1 u4 (.cells #[.string (⟨#[88]⟩ ++ name), .bool true, .int .i64 p.alg, .slice C1 n1 f1, .slice C2 0 f2, .slice C3 0 f3, .slice C4 n4 f4] 28)).trans (hb.mono (Below.lit1 u4 (.cells #[.string (⟨#[88]⟩ ++ name), .bool true, .int .i64 p.alg, .slice C1 n1 f1, .slice C2 0 f2, .slice C3 0 f3, .slice C4 n4 f4] 28)).size)); have b4t := b4.trans (BT.mono b4.size); have G5 := Lib.hid (below_step (below_step G4.out hb) BT); have XR : Hid (Ob ((u5.alloc (.cells #[.string p.id, .bool true, .int .i64 p.alg, .slice E1 n1 h1, .slice (some ⟨u5.heap.size + 1, 0, none⟩) 1 1, .slice E3 0 h3, .slice E4 n4 h4] 28)).alloc (.cells #[.string ⟨#[122, 122, 122]⟩, .bool false, .slice none 0 0, .slice none 0 0, .slice none 0 0] 48)) u4.heap.size 28 #[.string (⟨#[88]⟩ ++ name), .bool true, .int .i64 p.alg, .slice C1 n1 f1, .slice C2 0 f2, .slice C3 0 f3, .slice C4 n4 f4]) := Lib.hid ((Ob.made u4 28 _).below (hb.trans (BT.mono hb.size)) (by rw [size_al]; omega)); have XS : Hid (Ob ((u5.alloc (.cells #[.string p.id, .bool true, .int .i64 p.alg, .slice E1 n1 h1, .slice (some ⟨u5.heap.size + 1, 0, none⟩) 1 1, .slice E3 0 h3, .slice E4 n4 h4] 28)).alloc (.cells #[.string ⟨#[122, 122, 122]⟩, .bool false, .slice none 0 0, .slice none 0 0, .slice none 0 0] 48)) u5.heap.size 28 #[.string p.id, .bool true, .int .i64 p.alg, .slice E1 n1 h1, .slice (some ⟨u5.heap.size + 1, 0, none⟩) 1 1, .slice E3 0 h3, .slice E4 n4 h4]) := Lib.hid ((Ob.made u5 28 _).below (Below.lit1 (u5.alloc (.cells #[.string p.id, .bool true, .int .i64 p.alg, .slice E1 n1 h1, .slice (some ⟨u5.heap.size + 1, 0, none⟩) 1 1, .slice E3 0 h3, .slice E4 n4 h4] 28)) (.cells #[.string ⟨#[122, 122, 122]⟩, .bool false, .slice none 0 0, .slice none 0 0, .slice none 0 0] 48)) (by rw [size_al]; omega)); have xw : Ob ((u5.alloc (.cells #[.string p.id, .bool true, .int .i64 p.alg, .slice E1 n1 h1, .slice (some ⟨u5.heap.size + 1, 0, none⟩) 1 1, .slice E3 0 h3, .slice E4 n4 h4] 28)).alloc (.cells #[.string ⟨#[122, 122, 122]⟩, .bool false, .slice none 0 0, .slice none 0 0, .slice none 0 0] 48)) (u5.heap.size + 1) 48 #[.string ⟨#[122, 122, 122]⟩, .bool false, .slice none 0 0, .slice none 0 0, .slice none 0 0] := (by have := Ob.made (u5.alloc (.cells #[.string p.id, .bool true, .int .i64 p.alg, .slice E1 n1 h1, .slice (some ⟨u5.heap.size + 1, 0, none⟩) 1 1, .slice E3 0 h3, .slice E4 n4 h4] 28)) 48 #[.string ⟨#[122, 122, 122]⟩, .bool false, .slice none 0 0, .slice none 0 0, .slice none 0 0]; rwa [size_al] at this); have RRF := Lib.hid (RO.out _ _ _ _ _ _ _ _ _ _ _ P4.out b4t); have RSF := Lib.hid (fun U' => RS.out (by trivial) _ _ _ U' _ _ _ _ _ _ _ _ _ hp BT xw); have z0 := XR.out.cell 0; have z1 := XR.out.cell 1; have z2 := XR.out.cell 2; have z3 := XR.out.cell 3; have z4 := XR.out.cell 4; have z5 := XR.out.cell 5; have z6 := XR.out.cell 6; clear y0 y1 y2 y3 y4 y5 y6; clear hb hp BT b4 b4t xw)
        | (go_at_call 8; (with_reducible refine (HCP.out _ G3.out).mono ?_); rintro e u4 ⟨C1, f1, C2, f2, C3, f3, C4, f4, rfl, hb, hp⟩; have P4 := Lib.hid hp; have G4 := Lib.hid (below_step (below_step G3.out hb) (Below.lit1 u4 (.cells #[.string (⟨#[88]⟩ ++ name), .bool true, .int .i64 p.alg, .slice C1 n1 f1, .slice C2 0 f2, .slice C3 0 f3, .slice C4 n4 f4] 28))); have X4 := Lib.hid ((X3.out.below hb X3.out.lt).below (Below.lit1 u4 (.cells #[.string (⟨#[88]⟩ ++ name), .bool true, .int .i64 p.alg, .slice C1 n1 f1, .slice C2 0 f2, .slice C3 0 f3, .slice C4 n4 f4] 28)) (X3.out.below hb X3.out.lt).lt); clear y0 y1 y2 y3 y4 y5 y6; have y0 := X4.out.cell 0; have y1 := X4.out.cell 1; have y2 := X4.out.cell 2; have y3 := X4.out.cell 3; have y4 := X4.out.cell 4; have y5 := X4.out.cell 5; have y6 := X4.out.cell 6; clear hb hp)
        | (go_at_call 8; (with_reducible refine (HCP.out _ G2.out).mono ?_); rintro e u3 ⟨B1, d1, B2, d2, B3, d3, B4, d4, rfl, hb, hp⟩; have P3 := Lib.hid hp; have L3 := Lib.hid hb; have G3 := Lib.hid (below_step (below_step G2.out hb) (Below.lit1 u3 (.cells #[.string p.id, .bool true, .int .i64 p.alg, .slice B1 n1 d1, .slice B2 0 d2, .slice B3 0 d3, .slice B4 n4 d4] 28))); have X3 := Lib.hid ((X2.out.below hb X2.out.lt).below (Below.lit1 u3 (.cells #[.string p.id, .bool true, .int .i64 p.alg, .slice B1 n1 d1, .slice B2 0 d2, .slice B3 0 d3, .slice B4 n4 d4] 28)) (X2.out.below hb X2.out.lt).lt); clear y0 y1 y2 y3 y4 y5 y6; have y0 := X3.out.cell 0; have y1 := X3.out.cell 1; have y2 := X3.out.cell 2; have y3 := X3.out.cell 3; have y4 := X3.out.cell 4; have y5 := X3.out.cell 5; have y6 := X3.out.cell 6; clear hb hp)
        | (go_at_call 7; refine (HR.out _).mono ?_; rintro e u9 ⟨rfl, hb⟩; have G9 := Lib.hid (below_step G7.out hb); clear hb))
      go_ret
      exact ⟨rfl, G9.out⟩
    · skip
      have HJ : Hid ((withinOf at_ 0 ((n3 : Int) - 1)).toNat < n3 ∧ 0 ≤ withinOf at_ 0 ((n3 : Int) - 1) ∧ withinOf at_ 0 ((n3 : Int) - 1) < (n3 : Int)) := by
        have := within_le (n := at_) (lo := 0) (hi := (n3 : Int) - 1) (by omega)
        exact ⟨by omega, this.1, by omega⟩
      have HW : Hid (∀ w : World, Calls Try.prog 20 #[.int .i64 at_, .int .i64 0, .int .i64 ((n3 : Int) - 1)] w fun e w' => e = .returned (.int .i64 (withinOf at_ 0 ((n3 : Int) - 1))) ∧ w' = w) :=
        fun w => (within_any (by omega) (by omega) (by have := HN3.out; omega)).mono fun e w' h => ⟨h.1, h.2.symm⟩
      go_enter Try.func4, Try.ntmps4
      go_wp2_with (first
        | (go_at_call 6; (with_reducible refine (HS.out _ D0.out).mono ?_); rintro e u1 ⟨rfl, hb⟩; have G1 := Lib.hid (below_step D0.out hb); have X1 := Lib.hid (XA.out.below hb XA.out.lt); have y0 := X1.out.cell 0; have y1 := X1.out.cell 1; have y2 := X1.out.cell 2; have y3 := X1.out.cell 3; have y4 := X1.out.cell 4; have y5 := X1.out.cell 5; have y6 := X1.out.cell 6; clear hb)
        | (go_at_call 9; (with_reducible refine (CR.out _ G1.out).mono ?_); rintro e u2 ⟨rfl, hb⟩; have G2 := Lib.hid (below_step G1.out hb); have X2 := Lib.hid (X1.out.below hb X1.out.lt); clear y0 y1 y2 y3 y4 y5 y6; have y0 := X2.out.cell 0; have y1 := X2.out.cell 1; have y2 := X2.out.cell 2; have y3 := X2.out.cell 3; have y4 := X2.out.cell 4; have y5 := X2.out.cell 5; have y6 := X2.out.cell 6; clear hb)
        | (go_at_call 8; (with_reducible refine (HCP.out _ G2.out).mono ?_); rintro e u3 ⟨B1, d1, B2, d2, B3, d3, B4, d4, rfl, hb, hp⟩; obtain ⟨g, rfl, hg1, hg2, hK⟩ := KD.out _ _ _ _ _ _ _ _ _ _ (withinOf at_ 0 ((n3 : Int) - 1)).toNat hp HJ.out.1; have P3 := Lib.hid hp; have L3 := Lib.hid (Below.lit1 u3 (.cells #[.string p.id, .bool true, .int .i64 p.alg, .slice B1 n1 d1, .slice B2 0 d2, .slice (some ⟨g, 0, none⟩) n3 d3, .slice B4 n4 d4] 28)); have G3 := Lib.hid (below_step (below_step G2.out hb) L3.out); have Q3 := Lib.hid (Ob.made u3 28 #[.string p.id, .bool true, .int .i64 p.alg, .slice B1 n1 d1, .slice B2 0 d2, .slice (some ⟨g, 0, none⟩) n3 d3, .slice B4 n4 d4]); have X3 := Lib.hid ((X2.out.below hb X2.out.lt).below L3.out (X2.out.below hb X2.out.lt).lt); have HS3 := Lib.hid (Nat.lt_of_lt_of_le X2.out.lt hb.size); have HG : Hid (W.heap.size < g ∧ g < u3.heap.size) := ⟨Nat.lt_of_lt_of_le X2.out.lt hg1, hg2⟩; have HK := Lib.hid hK; clear y0 y1 y2 y3 y4 y5 y6; have y0 := X3.out.cell 0; have y1 := X3.out.cell 1; have y2 := X3.out.cell 2; have y3 := X3.out.cell 3; have y4 := X3.out.cell 4; have y5 := X3.out.cell 5; have y6 := X3.out.cell 6; clear hb hp hg1 hg2 hK))
      generalize u3.alloc (.cells #[.string p.id, .bool true, .int .i64 p.alg, .slice B1 n1 d1, .slice B2 0 d2, .slice (some ⟨g, 0, none⟩) n3 d3, .slice B4 n4 d4] 28) = V4 at *
      obtain ⟨u, c1, c2, c3, hR⟩ := HK.out (V4.drewN 1) (below_drewN L3.out 1)
      have Q5 := Lib.hid (Q3.out.keep (w' := V4.drewN 1) rfl)
      have X5 := Lib.hid (X3.out.keep (w' := V4.drewN 1) rfl)
      have G5 := Lib.hid (below_drewN G3.out 1)
      clear y0 y1 y2 y3 y4 y5 y6
      have hd1 : V4.cell? ⟨u3.heap.size, 5, none⟩ = some (.slice (some ⟨g, 0, none⟩) n3 d3) := Q3.out.cell 5
      have hd2 : V4.cell? ⟨W.heap.size, 0, none⟩ = some (.string p.id) := X3.out.cell 0
      have hw : IntKind.i64.wrap ((n3 : Int) - 1) = (n3 : Int) - 1 := IntWalk.i64_in _ (by omega)
      have hj1 := HJ.out.2.1
      have hj2 := HJ.out.2.2
      refine wp_region_still_tail 12 (by kernel_rfl) (by kernel_rfl) ?_
      simp only [List.take_succ_cons, List.take_zero, List.drop_succ_cons, List.drop_zero]
      repeat still_step
      still_call (HW.out _)
      repeat still_step
      refine wpStill_nil ?_
      clear hd1 hd2 hw hj1 hj2 L3 Q3 X3 G3
      change wpList _ _ _ _ _ (V4.drewN 1)
      generalize V4.drewN 1 = V5 at *
      have G6 := Lib.hid (G5.out.setCell (p := ⟨g, (withinOf at_ 0 ((n3 : Int) - 1)).toNat * 7, none⟩) (Nat.le_of_lt HG.out.1) (.string p.id))
      have Q6 := Lib.hid (Q5.out.keep (c3.heap Q5.out.lt (by have := HG.out; omega)))
      have X6 := Lib.hid (X5.out.keep (c3.heap X5.out.lt (by have := HG.out; omega)))
      have RQ := Lib.hid (hR _ (Below.refl _ _))
      clear hR c3 HK
      have z0 := Q6.out.cell 0
      have z1 := Q6.out.cell 1
      have z2 := Q6.out.cell 2
      have z3 := Q6.out.cell 3
      have z4 := Q6.out.cell 4
      have z5 := Q6.out.cell 5
      have z6 := Q6.out.cell 6
      go_wp2_with (first
        | (go_at_call 9; (with_reducible refine RQ.out.mono ?_); rintro e u3b ⟨rfl, hb⟩; have G3 := Lib.hid (below_step G6.out hb); have X3 := Lib.hid (X6.out.below hb X6.out.lt); clear z0 z1 z2 z3 z4 z5 z6; have zq := (Q6.out.below hb Q6.out.lt).cell 5; have y0 := X3.out.cell 0; have y1 := X3.out.cell 1; have y2 := X3.out.cell 2; have y3 := X3.out.cell 3; have y4 := X3.out.cell 4; have y5 := X3.out.cell 5; have y6 := X3.out.cell 6; clear hb)
        | (go_at_call 9; (with_reducible refine RSG.out.mono ?_); rintro e u7 ⟨rfl, hb⟩; have G7 := Lib.hid (below_step G6.out hb); clear hb)
        | (go_at_call 9; (with_reducible refine RRF.out.mono ?_); rintro e u6 ⟨rfl, hb⟩; have G6 := Lib.hid (below_step G5.out hb); have XS6 := Lib.hid (XS.out.below hb XS.out.lt); have RSG := Lib.hid (RSF.out u6 hb); clear z0 z1 z2 z3 z4 z5 z6; have z0 := XS6.out.cell 0; have z1 := XS6.out.cell 1; have z2 := XS6.out.cell 2; have z3 := XS6.out.cell 3; have z4 := XS6.out.cell 4; have z5 := XS6.out.cell 5; have z6 := XS6.out.cell 6; clear hb)
        | (go_at_call 8; (with_reducible refine (HCP.out _ G4.out).mono ?_); rintro e u5 ⟨E1, h1, E2, h2, E3, h3, E4, h4, rfl, hb, hp⟩; have BT : Below u5.heap.size u5 ((u5.alloc (.cells #[.string p.id, .bool true, .int .i64 p.alg, .slice E1 n1 h1, .slice (some ⟨u5.heap.size + 1, 0, none⟩) 1 1, .slice E3 n3 h3, .slice E4 n4 h4] 28)).alloc (.cells #[.string ⟨#[122, 122, 122]⟩, .bool false, .slice none 0 0, .slice none 0 0, .slice none 0 0] 48)) := ((Below.refl _ _).alloc (Nat.le_refl _) _).alloc (by rw [size_al]; omega) _; have b4 := ((Below.lit1 u4 (.cells #[.string (⟨#[88]⟩ ++ name), .bool true, .int .i64 p.alg, .slice C1 n1 f1, .slice C2 0 f2, .slice C3 n3 f3, .slice C4 n4 f4] 28)).trans (hb.mono (Below.lit1 u4 (.cells #[.string (⟨#[88]⟩ ++ name), .bool true, .int .i64 p.alg, .slice C1 n1 f1, .slice C2 0 f2, .slice C3 n3 f3, .slice C4 n4 f4] 28)).size)); have b4t := b4.trans (BT.mono b4.size); have G5 := Lib.hid (below_step (below_step G4.out hb) BT); have XR : Hid (Ob ((u5.alloc (.cells #[.string p.id, .bool true, .int .i64 p.alg, .slice E1 n1 h1, .slice (some ⟨u5.heap.size + 1, 0, none⟩) 1 1, .slice E3 n3 h3, .slice E4 n4 h4] 28)).alloc (.cells #[.string ⟨#[122, 122, 122]⟩, .bool false, .slice none 0 0, .slice none 0 0, .slice none 0 0] 48)) u4.heap.size 28 #[.string (⟨#[88]⟩ ++ name), .bool true, .int .i64 p.alg, .slice C1 n1 f1, .slice C2 0 f2, .slice C3 n3 f3, .slice C4 n4 f4]) := Lib.hid ((Ob.made u4 28 _).below (hb.trans (BT.mono hb.size)) (by rw [size_al]; omega)); have XS : Hid (Ob ((u5.alloc (.cells #[.string p.id, .bool true, .int .i64 p.alg, .slice E1 n1 h1, .slice (some ⟨u5.heap.size + 1, 0, none⟩) 1 1, .slice E3 n3 h3, .slice E4 n4 h4] 28)).alloc (.cells #[.string ⟨#[122, 122, 122]⟩, .bool false, .slice none 0 0, .slice none 0 0, .slice none 0 0] 48)) u5.heap.size 28 #[.string p.id, .bool true, .int .i64 p.alg, .slice E1 n1 h1, .slice (some ⟨u5.heap.size + 1, 0, none⟩) 1 1, .slice E3 n3 h3, .slice E4 n4 h4]) := Lib.hid ((Ob.made u5 28 _).below (Below.lit1 (u5.alloc (.cells #[.string p.id, .bool true, .int .i64 p.alg, .slice E1 n1 h1, .slice (some ⟨u5.heap.size + 1, 0, none⟩) 1 1, .slice E3 n3 h3, .slice E4 n4 h4] 28)) (.cells #[.string ⟨#[122, 122, 122]⟩, .bool false, .slice none 0 0, .slice none 0 0, .slice none 0 0] 48)) (by rw [size_al]; omega)); have xw : Ob ((u5.alloc (.cells #[.string p.id, .bool true, .int .i64 p.alg, .slice E1 n1 h1, .slice (some ⟨u5.heap.size + 1, 0, none⟩) 1 1, .slice E3 n3 h3, .slice E4 n4 h4] 28)).alloc (.cells #[.string ⟨#[122, 122, 122]⟩, .bool false, .slice none 0 0, .slice none 0 0, .slice none 0 0] 48)) (u5.heap.size + 1) 48 #[.string ⟨#[122, 122, 122]⟩, .bool false, .slice none 0 0, .slice none 0 0, .slice none 0 0] := (by have := Ob.made (u5.alloc (.cells #[.string p.id, .bool true, .int .i64 p.alg, .slice E1 n1 h1, .slice (some ⟨u5.heap.size + 1, 0, none⟩) 1 1, .slice E3 n3 h3, .slice E4 n4 h4] 28)) 48 #[.string ⟨#[122, 122, 122]⟩, .bool false, .slice none 0 0, .slice none 0 0, .slice none 0 0]; rwa [size_al] at this); have RRF := Lib.hid (RO.out _ _ _ _ _ _ _ _ _ _ _ P4.out b4t); have RSF := Lib.hid (fun U' => RS.out (by trivial) _ _ _ U' _ _ _ _ _ _ _ _ _ hp BT xw); have z0 := XR.out.cell 0; have z1 := XR.out.cell 1; have z2 := XR.out.cell 2; have z3 := XR.out.cell 3; have z4 := XR.out.cell 4; have z5 := XR.out.cell 5; have z6 := XR.out.cell 6; clear y0 y1 y2 y3 y4 y5 y6; clear hb hp BT b4 b4t xw)
        | (go_at_call 8; (with_reducible refine (HCP.out _ G3.out).mono ?_); rintro e u4 ⟨C1, f1, C2, f2, C3, f3, C4, f4, rfl, hb, hp⟩; have P4 := Lib.hid hp; have G4 := Lib.hid (below_step (below_step G3.out hb) (Below.lit1 u4 (.cells #[.string (⟨#[88]⟩ ++ name), .bool true, .int .i64 p.alg, .slice C1 n1 f1, .slice C2 0 f2, .slice C3 n3 f3, .slice C4 n4 f4] 28))); have X4 := Lib.hid ((X3.out.below hb X3.out.lt).below (Below.lit1 u4 (.cells #[.string (⟨#[88]⟩ ++ name), .bool true, .int .i64 p.alg, .slice C1 n1 f1, .slice C2 0 f2, .slice C3 n3 f3, .slice C4 n4 f4] 28)) (X3.out.below hb X3.out.lt).lt); clear y0 y1 y2 y3 y4 y5 y6; have y0 := X4.out.cell 0; have y1 := X4.out.cell 1; have y2 := X4.out.cell 2; have y3 := X4.out.cell 3; have y4 := X4.out.cell 4; have y5 := X4.out.cell 5; have y6 := X4.out.cell 6; clear hb hp)
        | (go_at_call 7; refine (HR.out _).mono ?_; rintro e u9 ⟨rfl, hb⟩; have G9 := Lib.hid (below_step G7.out hb); clear hb))
      go_ret
      exact ⟨rfl, G9.out⟩
  case false =>
    obtain rfl : n3 = 0 := HF.out.2 (by trivial)
    by_cases hn2 : n2 = 0
    · subst hn2
      go_enter Try.func4, Try.ntmps4
      go_wp2_with (first
        | (go_at_call 6; (with_reducible refine (HS.out _ D0.out).mono ?_); rintro e u1 ⟨rfl, hb⟩; have G1 := Lib.hid (below_step D0.out hb); have X1 := Lib.hid (XA.out.below hb XA.out.lt); have y0 := X1.out.cell 0; have y1 := X1.out.cell 1; have y2 := X1.out.cell 2; have y3 := X1.out.cell 3; have y4 := X1.out.cell 4; have y5 := X1.out.cell 5; have y6 := X1.out.cell 6; clear hb)
        | (go_at_call 9; (with_reducible refine RSG.out.mono ?_); rintro e u7 ⟨rfl, hb⟩; have G7 := Lib.hid (below_step G6.out hb); clear hb)
        | (go_at_call 9; (with_reducible refine RRF.out.mono ?_); rintro e u6 ⟨rfl, hb⟩; have G6 := Lib.hid (below_step G5.out hb); have XS6 := Lib.hid (XS.out.below hb XS.out.lt); have RSG := Lib.hid (RSF.out u6 hb); clear z0 z1 z2 z3 z4 z5 z6; have z0 := XS6.out.cell 0; have z1 := XS6.out.cell 1; have z2 := XS6.out.cell 2; have z3 := XS6.out.cell 3; have z4 := XS6.out.cell 4; have z5 := XS6.out.cell 5; have z6 := XS6.out.cell 6; clear hb)
        | (go_at_call 9; (with_reducible refine (CR.out _ G1.out).mono ?_); rintro e u2 ⟨rfl, hb⟩; have G2 := Lib.hid (below_step G1.out hb); have X2 := Lib.hid (X1.out.below hb X1.out.lt); clear y0 y1 y2 y3 y4 y5 y6; have y0 := X2.out.cell 0; have y1 := X2.out.cell 1; have y2 := X2.out.cell 2; have y3 := X2.out.cell 3; have y4 := X2.out.cell 4; have y5 := X2.out.cell 5; have y6 := X2.out.cell 6; clear hb)
        | (go_at_call 8; (with_reducible refine (HCP.out _ G4.out).mono ?_); rintro e u5 ⟨E1, h1, E2, h2, E3, h3, E4, h4, rfl, hb, hp⟩; have BT : Below u5.heap.size u5 ((u5.alloc (.cells #[.string p.id, .bool false, .int .i64 p.alg, .slice E1 n1 h1, .slice E2 0 h2, .slice (some ⟨u5.heap.size + 1, 0, none⟩) 1 1, .slice E4 n4 h4] 28)).alloc (.cells #[.string ⟨#[122, 122, 122]⟩, .bool false, .int .i64 1, .slice none 0 0, .slice none 0 0, .slice none 0 0, .slice none 0 0] 28)) := ((Below.refl _ _).alloc (Nat.le_refl _) _).alloc (by rw [size_al]; omega) _; have b4 := ((Below.lit1 u4 (.cells #[.string (⟨#[88]⟩ ++ name), .bool false, .int .i64 p.alg, .slice C1 n1 f1, .slice C2 0 f2, .slice C3 0 f3, .slice C4 n4 f4] 28)).trans (hb.mono (Below.lit1 u4 (.cells #[.string (⟨#[88]⟩ ++ name), .bool false, .int .i64 p.alg, .slice C1 n1 f1, .slice C2 0 f2, .slice C3 0 f3, .slice C4 n4 f4] 28)).size)); have b4t := b4.trans (BT.mono b4.size); have G5 := Lib.hid (below_step (below_step G4.out hb) BT); have XR : Hid (Ob ((u5.alloc (.cells #[.string p.id, .bool false, .int .i64 p.alg, .slice E1 n1 h1, .slice E2 0 h2, .slice (some ⟨u5.heap.size + 1, 0, none⟩) 1 1, .slice E4 n4 h4] 28)).alloc (.cells #[.string ⟨#[122, 122, 122]⟩, .bool false, .int .i64 1, .slice none 0 0, .slice none 0 0, .slice none 0 0, .slice none 0 0] 28)) u4.heap.size 28 #[.string (⟨#[88]⟩ ++ name), .bool false, .int .i64 p.alg, .slice C1 n1 f1, .slice C2 0 f2, .slice C3 0 f3, .slice C4 n4 f4]) := Lib.hid ((Ob.made u4 28 _).below (hb.trans (BT.mono hb.size)) (by rw [size_al]; omega)); have XS : Hid (Ob ((u5.alloc (.cells #[.string p.id, .bool false, .int .i64 p.alg, .slice E1 n1 h1, .slice E2 0 h2, .slice (some ⟨u5.heap.size + 1, 0, none⟩) 1 1, .slice E4 n4 h4] 28)).alloc (.cells #[.string ⟨#[122, 122, 122]⟩, .bool false, .int .i64 1, .slice none 0 0, .slice none 0 0, .slice none 0 0, .slice none 0 0] 28)) u5.heap.size 28 #[.string p.id, .bool false, .int .i64 p.alg, .slice E1 n1 h1, .slice E2 0 h2, .slice (some ⟨u5.heap.size + 1, 0, none⟩) 1 1, .slice E4 n4 h4]) := Lib.hid ((Ob.made u5 28 _).below (Below.lit1 (u5.alloc (.cells #[.string p.id, .bool false, .int .i64 p.alg, .slice E1 n1 h1, .slice E2 0 h2, .slice (some ⟨u5.heap.size + 1, 0, none⟩) 1 1, .slice E4 n4 h4] 28)) (.cells #[.string ⟨#[122, 122, 122]⟩, .bool false, .int .i64 1, .slice none 0 0, .slice none 0 0, .slice none 0 0, .slice none 0 0] 28)) (by rw [size_al]; omega)); have xw : Ob ((u5.alloc (.cells #[.string p.id, .bool false, .int .i64 p.alg, .slice E1 n1 h1, .slice E2 0 h2, .slice (some ⟨u5.heap.size + 1, 0, none⟩) 1 1, .slice E4 n4 h4] 28)).alloc (.cells #[.string ⟨#[122, 122, 122]⟩, .bool false, .int .i64 1, .slice none 0 0, .slice none 0 0, .slice none 0 0, .slice none 0 0] 28)) (u5.heap.size + 1) 28 #[.string ⟨#[122, 122, 122]⟩, .bool false, .int .i64 1, .slice none 0 0, .slice none 0 0, .slice none 0 0, .slice none 0 0] := (by have := Ob.made (u5.alloc (.cells #[.string p.id, .bool false, .int .i64 p.alg, .slice E1 n1 h1, .slice E2 0 h2, .slice (some ⟨u5.heap.size + 1, 0, none⟩) 1 1, .slice E4 n4 h4] 28)) 28 #[.string ⟨#[122, 122, 122]⟩, .bool false, .int .i64 1, .slice none 0 0, .slice none 0 0, .slice none 0 0, .slice none 0 0]; rwa [size_al] at this); have RRF := Lib.hid (RO.out _ _ _ _ _ _ _ _ _ _ _ P4.out b4t); have RSF := Lib.hid (fun U' => RK.out (by trivial) _ _ _ U' _ _ _ _ _ _ _ _ _ hp BT xw); have z0 := XR.out.cell 0; have z1 := XR.out.cell 1; have z2 := XR.out.cell 2; have z3 := XR.out.cell 3; have z4 := XR.out.cell 4; have z5 := XR.out.cell 5; have z6 := XR.out.cell 6; clear y0 y1 y2 y3 y4 y5 y6; clear hb hp BT b4 b4t xw)
        | (go_at_call 8; (with_reducible refine (HCP.out _ G3.out).mono ?_); rintro e u4 ⟨C1, f1, C2, f2, C3, f3, C4, f4, rfl, hb, hp⟩; have P4 := Lib.hid hp; have G4 := Lib.hid (below_step (below_step G3.out hb) (Below.lit1 u4 (.cells #[.string (⟨#[88]⟩ ++ name), .bool false, .int .i64 p.alg, .slice C1 n1 f1, .slice C2 0 f2, .slice C3 0 f3, .slice C4 n4 f4] 28))); have X4 := Lib.hid ((X3.out.below hb X3.out.lt).below (Below.lit1 u4 (.cells #[.string (⟨#[88]⟩ ++ name), .bool false, .int .i64 p.alg, .slice C1 n1 f1, .slice C2 0 f2, .slice C3 0 f3, .slice C4 n4 f4] 28)) (X3.out.below hb X3.out.lt).lt); clear y0 y1 y2 y3 y4 y5 y6; have y0 := X4.out.cell 0; have y1 := X4.out.cell 1; have y2 := X4.out.cell 2; have y3 := X4.out.cell 3; have y4 := X4.out.cell 4; have y5 := X4.out.cell 5; have y6 := X4.out.cell 6; clear hb hp)
        | (go_at_call 8; (with_reducible refine (HCP.out _ G2.out).mono ?_); rintro e u3 ⟨B1, d1, B2, d2, B3, d3, B4, d4, rfl, hb, hp⟩; have P3 := Lib.hid hp; have L3 := Lib.hid hb; have G3 := Lib.hid (below_step (below_step G2.out hb) (Below.lit1 u3 (.cells #[.string p.id, .bool false, .int .i64 p.alg, .slice B1 n1 d1, .slice B2 0 d2, .slice B3 0 d3, .slice B4 n4 d4] 28))); have X3 := Lib.hid ((X2.out.below hb X2.out.lt).below (Below.lit1 u3 (.cells #[.string p.id, .bool false, .int .i64 p.alg, .slice B1 n1 d1, .slice B2 0 d2, .slice B3 0 d3, .slice B4 n4 d4] 28)) (X2.out.below hb X2.out.lt).lt); clear y0 y1 y2 y3 y4 y5 y6; have y0 := X3.out.cell 0; have y1 := X3.out.cell 1; have y2 := X3.out.cell 2; have y3 := X3.out.cell 3; have y4 := X3.out.cell 4; have y5 := X3.out.cell 5; have y6 := X3.out.cell 6; clear hb hp)
        | (go_at_call 7; refine (HR.out _).mono ?_; rintro e u9 ⟨rfl, hb⟩; have G9 := Lib.hid (below_step G7.out hb); clear hb))
      go_ret
      exact ⟨rfl, G9.out⟩
    · skip
      have HJ : Hid ((withinOf at_ 0 ((n2 : Int) - 1)).toNat < n2 ∧ 0 ≤ withinOf at_ 0 ((n2 : Int) - 1) ∧ withinOf at_ 0 ((n2 : Int) - 1) < (n2 : Int)) := by
        have := within_le (n := at_) (lo := 0) (hi := (n2 : Int) - 1) (by omega)
        exact ⟨by omega, this.1, by omega⟩
      have HW : Hid (∀ w : World, Calls Try.prog 20 #[.int .i64 at_, .int .i64 0, .int .i64 ((n2 : Int) - 1)] w fun e w' => e = .returned (.int .i64 (withinOf at_ 0 ((n2 : Int) - 1))) ∧ w' = w) :=
        fun w => (within_any (by omega) (by omega) (by have := HN3.out; omega)).mono fun e w' h => ⟨h.1, h.2.symm⟩
      go_enter Try.func4, Try.ntmps4
      go_wp2_with (first
        | (go_at_call 6; (with_reducible refine (HS.out _ D0.out).mono ?_); rintro e u1 ⟨rfl, hb⟩; have G1 := Lib.hid (below_step D0.out hb); have X1 := Lib.hid (XA.out.below hb XA.out.lt); have y0 := X1.out.cell 0; have y1 := X1.out.cell 1; have y2 := X1.out.cell 2; have y3 := X1.out.cell 3; have y4 := X1.out.cell 4; have y5 := X1.out.cell 5; have y6 := X1.out.cell 6; clear hb)
        | (go_at_call 9; (with_reducible refine (CR.out _ G1.out).mono ?_); rintro e u2 ⟨rfl, hb⟩; have G2 := Lib.hid (below_step G1.out hb); have X2 := Lib.hid (X1.out.below hb X1.out.lt); clear y0 y1 y2 y3 y4 y5 y6; have y0 := X2.out.cell 0; have y1 := X2.out.cell 1; have y2 := X2.out.cell 2; have y3 := X2.out.cell 3; have y4 := X2.out.cell 4; have y5 := X2.out.cell 5; have y6 := X2.out.cell 6; clear hb)
        | (go_at_call 8; (with_reducible refine (HCP.out _ G2.out).mono ?_); rintro e u3 ⟨B1, d1, B2, d2, B3, d3, B4, d4, rfl, hb, hp⟩; obtain ⟨g, rfl, hg1, hg2, hK⟩ := KU.out _ _ _ _ _ _ _ _ _ _ (withinOf at_ 0 ((n2 : Int) - 1)).toNat hp HJ.out.1; have P3 := Lib.hid hp; have L3 := Lib.hid (Below.lit1 u3 (.cells #[.string p.id, .bool false, .int .i64 p.alg, .slice B1 n1 d1, .slice (some ⟨g, 0, none⟩) n2 d2, .slice B3 0 d3, .slice B4 n4 d4] 28)); have G3 := Lib.hid (below_step (below_step G2.out hb) L3.out); have Q3 := Lib.hid (Ob.made u3 28 #[.string p.id, .bool false, .int .i64 p.alg, .slice B1 n1 d1, .slice (some ⟨g, 0, none⟩) n2 d2, .slice B3 0 d3, .slice B4 n4 d4]); have X3 := Lib.hid ((X2.out.below hb X2.out.lt).below L3.out (X2.out.below hb X2.out.lt).lt); have HS3 := Lib.hid (Nat.lt_of_lt_of_le X2.out.lt hb.size); have HG : Hid (W.heap.size < g ∧ g < u3.heap.size) := ⟨Nat.lt_of_lt_of_le X2.out.lt hg1, hg2⟩; have HK := Lib.hid hK; clear y0 y1 y2 y3 y4 y5 y6; have y0 := X3.out.cell 0; have y1 := X3.out.cell 1; have y2 := X3.out.cell 2; have y3 := X3.out.cell 3; have y4 := X3.out.cell 4; have y5 := X3.out.cell 5; have y6 := X3.out.cell 6; clear hb hp hg1 hg2 hK))
      generalize u3.alloc (.cells #[.string p.id, .bool false, .int .i64 p.alg, .slice B1 n1 d1, .slice (some ⟨g, 0, none⟩) n2 d2, .slice B3 0 d3, .slice B4 n4 d4] 28) = V4 at *
      obtain ⟨u, c1, c2, c3, hR⟩ := HK.out (V4.drewN 1) (below_drewN L3.out 1)
      have Q5 := Lib.hid (Q3.out.keep (w' := V4.drewN 1) rfl)
      have X5 := Lib.hid (X3.out.keep (w' := V4.drewN 1) rfl)
      have G5 := Lib.hid (below_drewN G3.out 1)
      clear y0 y1 y2 y3 y4 y5 y6
      have hd1 : V4.cell? ⟨u3.heap.size, 4, none⟩ = some (.slice (some ⟨g, 0, none⟩) n2 d2) := Q3.out.cell 4
      have hd2 : V4.cell? ⟨W.heap.size, 0, none⟩ = some (.string p.id) := X3.out.cell 0
      have hw : IntKind.i64.wrap ((n2 : Int) - 1) = (n2 : Int) - 1 := IntWalk.i64_in _ (by omega)
      have hj1 := HJ.out.2.1
      have hj2 := HJ.out.2.2
      refine wp_region_still_tail 12 (by kernel_rfl) (by kernel_rfl) ?_
      simp only [List.take_succ_cons, List.take_zero, List.drop_succ_cons, List.drop_zero]
      repeat still_step
      still_call (HW.out _)
      repeat still_step
      refine wpStill_nil ?_
      clear hd1 hd2 hw hj1 hj2 L3 Q3 X3 G3
      change wpList _ _ _ _ _ (V4.drewN 1)
      generalize V4.drewN 1 = V5 at *
      have G6 := Lib.hid (G5.out.setCell (p := ⟨g, (withinOf at_ 0 ((n2 : Int) - 1)).toNat * 5, none⟩) (Nat.le_of_lt HG.out.1) (.string p.id))
      have Q6 := Lib.hid (Q5.out.keep (c3.heap Q5.out.lt (by have := HG.out; omega)))
      have X6 := Lib.hid (X5.out.keep (c3.heap X5.out.lt (by have := HG.out; omega)))
      have RQ := Lib.hid (hR _ (Below.refl _ _))
      clear hR c3 HK
      have z0 := Q6.out.cell 0
      have z1 := Q6.out.cell 1
      have z2 := Q6.out.cell 2
      have z3 := Q6.out.cell 3
      have z4 := Q6.out.cell 4
      have z5 := Q6.out.cell 5
      have z6 := Q6.out.cell 6
      go_wp2_with (first
        | (go_at_call 9; (with_reducible refine RQ.out.mono ?_); rintro e u3b ⟨rfl, hb⟩; have G3 := Lib.hid (below_step G6.out hb); have X3 := Lib.hid (X6.out.below hb X6.out.lt); clear z0 z1 z2 z3 z4 z5 z6; have zq := (Q6.out.below hb Q6.out.lt).cell 5; have y0 := X3.out.cell 0; have y1 := X3.out.cell 1; have y2 := X3.out.cell 2; have y3 := X3.out.cell 3; have y4 := X3.out.cell 4; have y5 := X3.out.cell 5; have y6 := X3.out.cell 6; clear hb)
        | (go_at_call 9; (with_reducible refine RSG.out.mono ?_); rintro e u7 ⟨rfl, hb⟩; have G7 := Lib.hid (below_step G6.out hb); clear hb)
        | (go_at_call 9; (with_reducible refine RRF.out.mono ?_); rintro e u6 ⟨rfl, hb⟩; have G6 := Lib.hid (below_step G5.out hb); have XS6 := Lib.hid (XS.out.below hb XS.out.lt); have RSG := Lib.hid (RSF.out u6 hb); clear z0 z1 z2 z3 z4 z5 z6; have z0 := XS6.out.cell 0; have z1 := XS6.out.cell 1; have z2 := XS6.out.cell 2; have z3 := XS6.out.cell 3; have z4 := XS6.out.cell 4; have z5 := XS6.out.cell 5; have z6 := XS6.out.cell 6; clear hb)
        | (go_at_call 8; (with_reducible refine (HCP.out _ G4.out).mono ?_); rintro e u5 ⟨E1, h1, E2, h2, E3, h3, E4, h4, rfl, hb, hp⟩; have BT : Below u5.heap.size u5 ((u5.alloc (.cells #[.string p.id, .bool false, .int .i64 p.alg, .slice E1 n1 h1, .slice E2 n2 h2, .slice (some ⟨u5.heap.size + 1, 0, none⟩) 1 1, .slice E4 n4 h4] 28)).alloc (.cells #[.string ⟨#[122, 122, 122]⟩, .bool false, .int .i64 1, .slice none 0 0, .slice none 0 0, .slice none 0 0, .slice none 0 0] 28)) := ((Below.refl _ _).alloc (Nat.le_refl _) _).alloc (by rw [size_al]; omega) _; have b4 := ((Below.lit1 u4 (.cells #[.string (⟨#[88]⟩ ++ name), .bool false, .int .i64 p.alg, .slice C1 n1 f1, .slice C2 n2 f2, .slice C3 0 f3, .slice C4 n4 f4] 28)).trans (hb.mono (Below.lit1 u4 (.cells #[.string (⟨#[88]⟩ ++ name), .bool false, .int .i64 p.alg, .slice C1 n1 f1, .slice C2 n2 f2, .slice C3 0 f3, .slice C4 n4 f4] 28)).size)); have b4t := b4.trans (BT.mono b4.size); have G5 := Lib.hid (below_step (below_step G4.out hb) BT); have XR : Hid (Ob ((u5.alloc (.cells #[.string p.id, .bool false, .int .i64 p.alg, .slice E1 n1 h1, .slice E2 n2 h2, .slice (some ⟨u5.heap.size + 1, 0, none⟩) 1 1, .slice E4 n4 h4] 28)).alloc (.cells #[.string ⟨#[122, 122, 122]⟩, .bool false, .int .i64 1, .slice none 0 0, .slice none 0 0, .slice none 0 0, .slice none 0 0] 28)) u4.heap.size 28 #[.string (⟨#[88]⟩ ++ name), .bool false, .int .i64 p.alg, .slice C1 n1 f1, .slice C2 n2 f2, .slice C3 0 f3, .slice C4 n4 f4]) := Lib.hid ((Ob.made u4 28 _).below (hb.trans (BT.mono hb.size)) (by rw [size_al]; omega)); have XS : Hid (Ob ((u5.alloc (.cells #[.string p.id, .bool false, .int .i64 p.alg, .slice E1 n1 h1, .slice E2 n2 h2, .slice (some ⟨u5.heap.size + 1, 0, none⟩) 1 1, .slice E4 n4 h4] 28)).alloc (.cells #[.string ⟨#[122, 122, 122]⟩, .bool false, .int .i64 1, .slice none 0 0, .slice none 0 0, .slice none 0 0, .slice none 0 0] 28)) u5.heap.size 28 #[.string p.id, .bool false, .int .i64 p.alg, .slice E1 n1 h1, .slice E2 n2 h2, .slice (some ⟨u5.heap.size + 1, 0, none⟩) 1 1, .slice E4 n4 h4]) := Lib.hid ((Ob.made u5 28 _).below (Below.lit1 (u5.alloc (.cells #[.string p.id, .bool false, .int .i64 p.alg, .slice E1 n1 h1, .slice E2 n2 h2, .slice (some ⟨u5.heap.size + 1, 0, none⟩) 1 1, .slice E4 n4 h4] 28)) (.cells #[.string ⟨#[122, 122, 122]⟩, .bool false, .int .i64 1, .slice none 0 0, .slice none 0 0, .slice none 0 0, .slice none 0 0] 28)) (by rw [size_al]; omega)); have xw : Ob ((u5.alloc (.cells #[.string p.id, .bool false, .int .i64 p.alg, .slice E1 n1 h1, .slice E2 n2 h2, .slice (some ⟨u5.heap.size + 1, 0, none⟩) 1 1, .slice E4 n4 h4] 28)).alloc (.cells #[.string ⟨#[122, 122, 122]⟩, .bool false, .int .i64 1, .slice none 0 0, .slice none 0 0, .slice none 0 0, .slice none 0 0] 28)) (u5.heap.size + 1) 28 #[.string ⟨#[122, 122, 122]⟩, .bool false, .int .i64 1, .slice none 0 0, .slice none 0 0, .slice none 0 0, .slice none 0 0] := (by have := Ob.made (u5.alloc (.cells #[.string p.id, .bool false, .int .i64 p.alg, .slice E1 n1 h1, .slice E2 n2 h2, .slice (some ⟨u5.heap.size + 1, 0, none⟩) 1 1, .slice E4 n4 h4] 28)) 28 #[.string ⟨#[122, 122, 122]⟩, .bool false, .int .i64 1, .slice none 0 0, .slice none 0 0, .slice none 0 0, .slice none 0 0]; rwa [size_al] at this); have RRF := Lib.hid (RO.out _ _ _ _ _ _ _ _ _ _ _ P4.out b4t); have RSF := Lib.hid (fun U' => RK.out (by trivial) _ _ _ U' _ _ _ _ _ _ _ _ _ hp BT xw); have z0 := XR.out.cell 0; have z1 := XR.out.cell 1; have z2 := XR.out.cell 2; have z3 := XR.out.cell 3; have z4 := XR.out.cell 4; have z5 := XR.out.cell 5; have z6 := XR.out.cell 6; clear y0 y1 y2 y3 y4 y5 y6; clear hb hp BT b4 b4t xw)
        | (go_at_call 8; (with_reducible refine (HCP.out _ G3.out).mono ?_); rintro e u4 ⟨C1, f1, C2, f2, C3, f3, C4, f4, rfl, hb, hp⟩; have P4 := Lib.hid hp; have G4 := Lib.hid (below_step (below_step G3.out hb) (Below.lit1 u4 (.cells #[.string (⟨#[88]⟩ ++ name), .bool false, .int .i64 p.alg, .slice C1 n1 f1, .slice C2 n2 f2, .slice C3 0 f3, .slice C4 n4 f4] 28))); have X4 := Lib.hid ((X3.out.below hb X3.out.lt).below (Below.lit1 u4 (.cells #[.string (⟨#[88]⟩ ++ name), .bool false, .int .i64 p.alg, .slice C1 n1 f1, .slice C2 n2 f2, .slice C3 0 f3, .slice C4 n4 f4] 28)) (X3.out.below hb X3.out.lt).lt); clear y0 y1 y2 y3 y4 y5 y6; have y0 := X4.out.cell 0; have y1 := X4.out.cell 1; have y2 := X4.out.cell 2; have y3 := X4.out.cell 3; have y4 := X4.out.cell 4; have y5 := X4.out.cell 5; have y6 := X4.out.cell 6; clear hb hp)
        | (go_at_call 7; refine (HR.out _).mono ?_; rintro e u9 ⟨rfl, hb⟩; have G9 := Lib.hid (below_step G7.out hb); clear hb))
      go_ret
      exact ⟨rfl, G9.out⟩
end Go.Proofs.Ytcpbmeejgkjmjaa
