/- ParseRules: the walk. -/
import Derived.Test.YthppdgiobflfpaaNineI
import Derived.Test.YthppdgiobflfpaaParRulesM
import Derived.Test.YthppdgiobflfpaaOpenBools
import Derived.Test.YthppdgiobflfpaaWithin
import Derived.Test.YthppdgiobflfpaaParseRight
import Derived.Test.YthppdgiobflfpaaNineF
namespace Go.Proofs.Ythppdgiobflfpaa
set_option linter.unusedVariables false
open Go.RowKit

theorem conv8 {w : World} {g : Nat} (c : UInt8) (h : Ob w g 5 #[.int .u8 (c.toNat : Int)]) : (convert 47 9 (.slice (some ⟨g, 0, none⟩) 1 1)).run Try.prog w = .ok (.string ⟨#[c]⟩) w :=
  conv_text Try.underlying47 Try.underlying5 Try.underlying9 (Ob.sl (xs := bv [c]) h rfl (by simp [maxLen]))
def flagOf (l : List Bool) (i : Nat) : Bool := l[i]?.getD false
def atOf (f : Nat → Bool) (j : Nat) : Int := if 16 < j then ((rulesT f 16).length : Int) + 1 else 0
theorem within_20 (n : Int) : ∃ k : Nat, k ≤ 20 ∧ withinOf n 0 20 = (k : Int) := ⟨(withinOf n 0 20).toNat, by unfold withinOf; omega, by unfold withinOf; omega⟩
theorem rulesT_size {f : Nat → Bool} {n : Nat} (hn : n ≤ 20) {t : ByteArray} (h : t.data.toList = rulesT f n) : t.size ≤ 236 ∧ t.size = (rulesT f n).length := by
  have e : t.size = (rulesT f n).length := by rw [← h]; rfl
  have := rulesT_len f n
  exact ⟨by omega, e⟩
set_option maxRecDepth 100000 in
set_option maxHeartbeats 6400000 in
theorem parseRules_walk (w : World) (many : Int) (hm : (Lit.int .i64 many).wf = true) (A : Option Addr) (nb cb : Nat) (hsl : ∃ l : List Bool, Sl w w.heap.size A nb cb (l.map Value.bool)) : Calls Try.prog 8 #[.int .i64 many, .slice A nb cb] w fun e w' => e = .returned (.bool true) ∧ Below w.heap.size w w' := by
  have HR := Lib.hid (fun w => runs9_any w)
  obtain ⟨l, hl⟩ := hsl
  have hle0 : nb ≤ cb := hl.le
  have hcap0 : cb ≤ maxLen := hl.cap
  have HL := Lib.hid hl
  have hlen : l.length = nb := by rw [← hl.len, List.length_map]
  have HLN := Lib.hid hlen
  obtain ⟨n, hn, en⟩ := within_20 many
  have EN := Lib.hid en
  have HN := Lib.hid hn
  clear hl hlen en
  unfold maxLen at hcap0
  obtain ⟨f, hf⟩ : ∃ f, f = flagOf l := ⟨_, rfl⟩
  have HF := Lib.hid hf
  clear hf
  go_enter Try.func8, Try.ntmps8
  go_wp2_with fail
  go_at_call 13
  refine (within_any (by omega) (by omega) (by omega)).mono ?_
  rintro x w1 ⟨rfl, rfl⟩
  rw [EN.out]
  go_wp2_with fail
  go_loopw [6, 7, 8] (fun s at_ i wr => ∃ (j : Nat) (t : ByteArray), j ≤ n ∧ i = .int .i64 (j : Int) ∧ s = .string t ∧ t.data.toList = rulesT f j ∧ at_ = .int .i64 (atOf f j) ∧ Below w.heap.size w wr) (fun s at_ i _ => n - (intOf i).toNat)
  case atStart => exact ⟨0, _, Nat.zero_le _, rfl, rfl, rfl, rfl, Below.refl _ _⟩
  case round =>
    obtain ⟨j, t, hj, rfl, rfl, ht, rfl, hb⟩ := hrel
    have HB := Lib.hid hb
    have HT := Lib.hid ht
    obtain ⟨hts, hte⟩ := rulesT_size (by omega) ht
    have SL := Lib.hid (HL.out.keep (w' := wr) (fun k hk => hb.block k hk))
    clear hb ht
    have HTE := Lib.hid hte
    clear hte
    by_cases hlt : j < n
    · have HS : Hid (f j = flagOf l j) := Lib.hid (by rw [HF.out])
      have hcb : ((UInt8.ofNat (97 + j)).toNat : Int) = 97 + (j : Int) := by simp; omega
      have hcv := conv8 (UInt8.ofNat (97 + j)) (Ob.made wr 5 #[.int .u8 ((UInt8.ofNat (97 + j)).toNat : Int)])
      rw [hcb] at hcv
      have x1 : (9223372036854775807 < t.size + 9) = False := eq_false (by omega)
      have x2 : (9223372036854775807 < t.size + 9 + 1) = False := eq_false (by omega)
      have x3 : (9223372036854775807 < t.size + 9 + 1 + 1) = False := eq_false (by omega)
      have x4 : (9223372036854775807 < t.size + 7) = False := eq_false (by omega)
      have x5 : (9223372036854775807 < t.size + 7 + 1) = False := eq_false (by omega)
      have x6 : (9223372036854775807 < t.size + 7 + 1 + 1) = False := eq_false (by omega)
      have HAT : Hid (∀ z : Int, ((j = 16 ∧ z = (t.size : Int) + 1) ∨ (j ≠ 16 ∧ z = atOf f j)) → z = atOf f (j + 1)) := fun z hz => by
        unfold atOf at hz ⊢
        rcases hz with ⟨rfl, rfl⟩ | ⟨h, rfl⟩
        · rw [if_pos (by omega), ← HTE.out]
        · by_cases h2 : 16 < j
          · rw [if_pos h2, if_pos (by omega)]
          · rw [if_neg h2, if_neg (by omega)]
      generalize atOf f j = z0 at *
      have HTX : Hid (∀ (b : Bool) (u : ByteArray), f j = b → u.data.toList = t.data.toList ++ ([32] ++ rwB b ++ [32, 114] ++ [UInt8.ofNat (97 + j)] ++ [59]) → u.data.toList = rulesT f (j + 1)) := fun b u hb hu => by
        rw [hu, HT.out, ← hb]
        show _ = rulesT f j ++ 32 :: ruleT (f j) j
        simp [ruleT]
      have hcase : (j < nb ∧ ∃ b o, A = some ⟨b, o, none⟩ ∧ wr.cell? ⟨b, o + j, none⟩ = some (.bool (f j))) ∨ (¬ j < nb ∧ f j = false) := by
        by_cases h : j < nb
        · left
          obtain ⟨b, o, u, hA, hblt, hu, hc⟩ := SL.out.at_ h
          refine ⟨h, b, o, hA, ?_⟩
          rw [hc, HS.out]
          rw [List.getElem?_map] at hu
          unfold flagOf
          cases hq : l[j]? with
          | none => rw [hq] at hu; simp at hu
          | some v => rw [hq] at hu; simp at hu; simp [hu]
        · right
          refine ⟨h, ?_⟩
          rw [HS.out]
          unfold flagOf
          rw [List.getElem?_eq_none (by rw [HLN.out]; omega)]
          rfl
      clear HS
      obtain ⟨bj, hbj⟩ : ∃ b, b = f j := ⟨_, rfl⟩
      rw [← hbj] at hcase
      have HBJ := Lib.hid hbj
      clear hbj
      by_cases h16 : j = 16
      case' pos => have hj16 : ((j : Int) == 16) = true := by rw [beq_iff_eq]; omega
      case' neg => have hj16 : ((j : Int) == 16) = false := by rw [beq_eq_false_iff_ne]; omega
      case' pos => have HZ : Hid ((t.size : Int) + 1 = atOf f (j + 1)) := HAT.out _ (.inl ⟨h16, rfl⟩)
      case' neg => have HZ : Hid (z0 = atOf f (j + 1)) := HAT.out _ (.inr ⟨h16, rfl⟩)
      all_goals
        clear h16 HAT
        rcases hcase with ⟨hjn, b, o, rfl, hc⟩ | ⟨hjn, rfl⟩
        case' inl => have hjd : decide ((j : Int) < (nb : Int)) = true := decide_eq_true (by omega)
        case' inr => have hjd : decide ((j : Int) < (nb : Int)) = false := decide_eq_false (by omega)
        case' inl => cases bj
      all_goals
        go_wp2_with fail
        go_roundw
        case rel =>
          first
          | exact ⟨j + 1, _, by omega, by go_num, rfl, HTX.out false _ HBJ.out.symm (by simp [rwB]), by rw [HZ.out], HB.out.alloc HB.out.size _⟩
          | exact ⟨j + 1, _, by omega, by go_num, rfl, HTX.out true _ HBJ.out.symm (by simp [rwB]), by rw [HZ.out], HB.out.alloc HB.out.size _⟩
        case measure => simp [intOf]; omega
    · obtain rfl : j = n := by omega
      have x1 : (9223372036854775807 < t.size + 2) = False := eq_false (by omega)
      have HL2 : Hid (∀ u : ByteArray, u.data.toList = t.data.toList ++ [32, 125] → u.size ≤ 4096 ∧ u.data.toList = rulesT f j ++ [32, 125]) := fun u hu => by
        have e : u.size = u.data.toList.length := rfl
        have e2 : t.data.toList.length = t.size := rfl
        refine ⟨?_, by rw [hu, HT.out]⟩
        rw [e, hu, List.length_append, e2]
        show t.size + 2 ≤ _
        omega
      by_cases h16 : 16 < j
      · have hd16 : decide ((16 : Int) < (j : Int)) = true := decide_eq_true (by omega)
        have hd17 : (16 : Int) < (j : Int) := by omega
        have HQ : Hid (∀ (w : World) (u : ByteArray), u.data.toList = t.data.toList ++ [32, 125] → Calls Try.prog 10 #[.string u] w fun x w' => ∃ y, x = .returned (.tuple #[y, .int .i64 6, .int .i64 (atOf f j)]) ∧ Below w.heap.size w w' ∧ PolOf w w' 5 noPol y) := fun w u hu => by
          have := parse_is (w := w) (rules_readBig f h16 HN.out (HL2.out u hu).1 (HL2.out u hu).2) (by have := (HL2.out u hu).1; unfold maxLen; omega)
          unfold atOf
          rwa [if_pos h16]
        generalize atOf f j = z0 at *
        go_wp2_with fail
        go_at_call 10
        refine (HQ.out _ _ (by simp)).mono ?_
        rintro x w4 ⟨y, rfl, hb, A1, n1, c1, A2, n2, c2, A3, n3, c3, A4, n4, c4, hy, hp⟩
        obtain rfl : y = .agg #[.string noPol.id, .bool noPol.set, .int .i64 noPol.alg, .slice A1 n1 c1, .slice A2 n2 c2, .slice A3 n3 c3, .slice A4 n4 c4] := hy
        have B4 := Lib.hid (below_step HB.out (hb.alloc hb.size (.cells #[.string noPol.id, .bool noPol.set, .int .i64 noPol.alg, .slice A1 n1 c1, .slice A2 n2 c2, .slice A3 n3 c3, .slice A4 n4 c4] 28)))
        clear hb hp
        go_wp2_with fail
        go_at_call 3
        refine (HR.out _).mono ?_
        rintro x w5 ⟨rfl, hb⟩
        have B5 := Lib.hid hb
        clear hb
        go_wp2_with fail
        go_ret
        exact ⟨rfl, below_step B4.out B5.out⟩
      · have hd16 : decide ((16 : Int) < (j : Int)) = false := decide_eq_false (by omega)
        have hd17 : ¬ (16 : Int) < (j : Int) := by omega
        have HQ : Hid (∀ (w : World) (u : ByteArray), u.data.toList = t.data.toList ++ [32, 125] → Calls Try.prog 10 #[.string u] w fun x w' => ∃ y, x = .returned (.tuple #[y, .int .i64 0, .int .i64 0]) ∧ Below w.heap.size w w' ∧ PolOf w w' 5 (rulesP f j) y) := fun w u hu =>
          parse_is (rules_readOK f (by omega) (HL2.out u hu).1 (HL2.out u hu).2) (by have := (HL2.out u hu).1; unfold maxLen; omega)
        go_wp2_with fail
        go_at_call 10
        refine (HQ.out _ _ (by simp)).mono ?_
        rintro x w4 ⟨y, rfl, hb, A1, n1, c1, A2, n2, c2, A3, n3, c3, A4, n4, c4, hy, hp⟩
        obtain rfl : y = .agg #[.string ⟨#[112]⟩, .bool false, .int .i64 3, .slice A1 n1 c1, .slice A2 n2 c2, .slice A3 n3 c3, .slice A4 n4 c4] := hy
        have hp2 := PolAt.keep (Kept.all (al9 w4 (.cells #[.string ⟨#[112]⟩, .bool false, .int .i64 3, .slice A1 n1 c1, .slice A2 n2 c2, .slice A3 n3 c3, .slice A4 n4 c4] 28)) _) (fun _ h _ => h) hp
        obtain ⟨_, _, hru, _, _⟩ := PolAt.in_ hp2
        have hr : Rus (w4.alloc (.cells #[.string ⟨#[112]⟩, .bool false, .int .i64 3, .slice A1 n1 c1, .slice A2 n2 c2, .slice A3 n3 c3, .slice A4 n4 c4] 28)) (fun b => wr.heap.size ≤ b) A2 n2 c2 ((List.range j).map fun i => (⟨nmR i, f i, [], [], []⟩ : Rul)) := hru
        obtain rfl : n2 = j := by have := Rw.len hr; rw [List.length_map, List.length_range] at this; exact this.symm
        have B4 := Lib.hid (below_step HB.out (hb.alloc hb.size (.cells #[.string ⟨#[112]⟩, .bool false, .int .i64 3, .slice A1 n1 c1, .slice A2 n2 c2, .slice A3 n3 c3, .slice A4 n4 c4] 28)))
        have O4 := Lib.hid (Ob.made w4 28 #[.string ⟨#[112]⟩, .bool false, .int .i64 3, .slice A1 n1 c1, .slice A2 n2 c2, .slice A3 n3 c3, .slice A4 n4 c4])
        have HRU := Lib.hid hr
        have g4 := (Ob.made w4 28 #[.string ⟨#[112]⟩, .bool false, .int .i64 3, .slice A1 n1 c1, .slice A2 n2 c2, .slice A3 n3 c3, .slice A4 n4 c4]).cell 4
        have hcap2 := Rw.cap hr
        have hle2 := Rw.le hr
        unfold maxLen at hcap2
        clear hb hp hp2 hru hr
        go_wp2_with fail
        generalize w4.alloc (.cells #[.string ⟨#[112]⟩, .bool false, .int .i64 3, .slice A1 n1 c1, .slice A2 n2 c2, .slice A3 n3 c3, .slice A4 n4 c4] 28) = W4 at *
        obtain ⟨wo, hwo⟩ : ∃ wo, wo = wr := ⟨wr, rfl⟩
        subst hwo
        have hn2 : n2 ≤ 20 := HN.out
        go_loopw [78] (fun i wq => ∃ q : Nat, q ≤ n2 ∧ i = .int .i64 (q : Int) ∧ Below W4.heap.size W4 wq) (fun i _ => n2 - (intOf i).toNat)
        case atStart => exact ⟨0, Nat.zero_le _, rfl, Below.refl _ _⟩
        case round =>
          obtain ⟨q, hq, rfl, hb⟩ := hrel
          have HBQ := Lib.hid hb
          have BW := Lib.hid (below_step B4.out hb)
          have SL5 := Lib.hid (HL.out.keep (w' := wr) (fun k hk => BW.out.block k hk))
          have R5 := Lib.hid (Rus.keep HRU.out (Kept.all hb _) (fun _ _ _ => trivial) (R' := fun _ => True))
          clear hb
          by_cases hlt : q < n2
          · obtain ⟨b, o, r, C1, m1, d1, C2, m2, d2, C3, m3, d3, rfl, _, _, hr, _, ⟨y0, y1, y2, y3, y4⟩, _, _, _⟩ := R5.out.at_ hlt
            have hr2 : r = ⟨nmR q, f q, [], [], []⟩ := by
              rw [List.getElem?_map, List.getElem?_range hlt] at hr
              simpa using hr.symm
            subst hr2
            have hcase : (q < nb ∧ ∃ b o, A = some ⟨b, o, none⟩ ∧ b < wr.heap.size ∧ wr.cell? ⟨b, o + q, none⟩ = some (.bool (f q))) ∨ (¬ q < nb ∧ f q = false) := by
              by_cases h : q < nb
              · left
                obtain ⟨b, o, u, hA, hblt, hu, hc⟩ := SL5.out.at_ h
                refine ⟨h, b, o, hA, block_lt_of_cell hc, ?_⟩
                rw [hc, HF.out]
                rw [List.getElem?_map] at hu
                unfold flagOf
                cases hq : l[q]? with
                | none => rw [hq] at hu; simp at hu
                | some v => rw [hq] at hu; simp at hu; simp [hu]
              · right
                refine ⟨h, ?_⟩
                rw [HF.out]
                unfold flagOf
                rw [List.getElem?_eq_none (by rw [HLN.out]; omega)]
                rfl
            obtain ⟨nm, hnm⟩ : ∃ nm, nm = nmR q := ⟨_, rfl⟩
            obtain ⟨bj, hbj⟩ : ∃ b, b = f q := ⟨_, rfl⟩
            simp only [← hnm, ← hbj] at y0 y1 hcase
            have hcb : ((UInt8.ofNat (97 + q)).toNat : Int) = 97 + (q : Int) := by simp; omega
            have hcv : ∀ V : World, (convert 47 9 (.slice (some ⟨V.heap.size, 0, none⟩) 1 1)).run Try.prog (V.alloc (.cells #[.int .u8 (97 + (q : Int))] 5)).drew = .ok (.string ⟨#[UInt8.ofNat (97 + q)]⟩) (V.alloc (.cells #[.int .u8 (97 + (q : Int))] 5)).drew := fun V => by
              have := conv8 (UInt8.ofNat (97 + q)) (Ob.drew9 (Ob.made V 5 #[.int .u8 ((UInt8.ofNat (97 + q)).toNat : Int)]))
              rwa [hcb] at this
            have hst : (nm.toList == (⟨#[114]⟩ ++ ⟨#[UInt8.ofNat (97 + q)]⟩ : ByteArray).toList) = true := by
              have : nm = (⟨#[114]⟩ ++ ⟨#[UInt8.ofNat (97 + q)]⟩ : ByteArray) := by rw [hnm]; rfl
              rw [← this]
              exact str_self nm
            clear hnm hbj hr hcb
            generalize UInt8.ofNat (97 + q) = cq at hcv hst
            rcases hcase with ⟨hjn, b', o', rfl, hblt, hc⟩ | ⟨hjn, rfl⟩
            case' inl => have hjd : decide ((q : Int) < (nb : Int)) = true := decide_eq_true (by omega)
            case' inr => have hjd : decide ((q : Int) < (nb : Int)) = false := decide_eq_false (by omega)
            case' inl => cases bj
            case inl.false =>
              have hfd : Hid (∀ X : World, Below wr.heap.size wr X → X.cell? ⟨b', o' + q, none⟩ = some (.bool false)) := fun X hX => (hX.cell hblt).trans hc
              clear hc
              go_wp2_with fail
              have hoo := Ob.made wr 40 #[.string nm, .bool false, .slice C1 m1 d1, .slice C2 m2 d2, .slice C3 m3 d3]
              have hbb := al9 wr (.cells #[.string nm, .bool false, .slice C1 m1 d1, .slice C2 m2 d2, .slice C3 m3 d3] 40)
              generalize wr.alloc (.cells #[.string nm, .bool false, .slice C1 m1 d1, .slice C2 m2 d2, .slice C3 m3 d3] 40) = V0 at *
              have k0 := hfd.out _ hbb
              have k1 := hfd.out V0.drew (below_drewN hbb 1)
              have k2 := hfd.out (V0.alloc (.cells #[.int .u8 (97 + (q : Int))] 5)).drew (below_drewN (hbb.alloc hbb.size _) 1)
              have k3 := hfd.out (V0.drew.alloc (.cells #[.int .u8 (97 + (q : Int))] 5)) ((below_drewN hbb 1).alloc hbb.size _)
              have o1 := Ob.drew9 (hoo.keep (Below.heap_alloc V0 (.cells #[.int .u8 (97 + (q : Int))] 5) _ hoo.lt))
              have o2 : Ob V0.drew _ _ _ := Ob.drew9 hoo
              have o3 := o2.keep (Below.heap_alloc V0.drew (.cells #[.int .u8 (97 + (q : Int))] 5) _ o2.lt)
              have c00 := hoo.cell 0
              have c01 := hoo.cell 1
              have c10 := o1.cell 0
              have c11 := o1.cell 1
              have c20 := o2.cell 0
              have c21 := o2.cell 1
              have c30 := o3.cell 0
              have c31 := o3.cell 1
              have v0 := hcv V0
              have HBV := Lib.hid hbb
              clear hfd hoo hbb o1 o2 o3 hcv
              go_region
              have HEND := Lib.hid (below_drewN (HBV.out.alloc HBV.out.size (.cells #[.int .u8 (97 + (q : Int))] 5)) 1)
              obtain ⟨V9, hV9⟩ : ∃ V9, V9 = (V0.alloc (.cells #[.int .u8 (97 + (q : Int))] 5)).drew := ⟨_, rfl⟩
              change Hid (Below wr.heap.size wr (V0.alloc (.cells #[.int .u8 (97 + (q : Int))] 5)).drew) at HEND
              rw [← hV9] at HEND ⊢
              clear hV9 k0 k1 k2 k3 c00 c01 c10 c11 c20 c21 c30 c31 v0
              go_wp2_with fail
              go_roundw
              case rel => exact ⟨q + 1, by omega, by go_num, below_step HBQ.out HEND.out⟩
              case measure => simp [intOf]; omega
            case inl.true =>
              have hfd : Hid (∀ X : World, Below wr.heap.size wr X → X.cell? ⟨b', o' + q, none⟩ = some (.bool true)) := fun X hX => (hX.cell hblt).trans hc
              clear hc
              go_wp2_with fail
              have hoo := Ob.made wr 40 #[.string nm, .bool true, .slice C1 m1 d1, .slice C2 m2 d2, .slice C3 m3 d3]
              have hbb := al9 wr (.cells #[.string nm, .bool true, .slice C1 m1 d1, .slice C2 m2 d2, .slice C3 m3 d3] 40)
              generalize wr.alloc (.cells #[.string nm, .bool true, .slice C1 m1 d1, .slice C2 m2 d2, .slice C3 m3 d3] 40) = V0 at *
              have k0 := hfd.out _ hbb
              have k1 := hfd.out V0.drew (below_drewN hbb 1)
              have k2 := hfd.out (V0.alloc (.cells #[.int .u8 (97 + (q : Int))] 5)).drew (below_drewN (hbb.alloc hbb.size _) 1)
              have k3 := hfd.out (V0.drew.alloc (.cells #[.int .u8 (97 + (q : Int))] 5)) ((below_drewN hbb 1).alloc hbb.size _)
              have o1 := Ob.drew9 (hoo.keep (Below.heap_alloc V0 (.cells #[.int .u8 (97 + (q : Int))] 5) _ hoo.lt))
              have o2 : Ob V0.drew _ _ _ := Ob.drew9 hoo
              have o3 := o2.keep (Below.heap_alloc V0.drew (.cells #[.int .u8 (97 + (q : Int))] 5) _ o2.lt)
              have c00 := hoo.cell 0
              have c01 := hoo.cell 1
              have c10 := o1.cell 0
              have c11 := o1.cell 1
              have c20 := o2.cell 0
              have c21 := o2.cell 1
              have c30 := o3.cell 0
              have c31 := o3.cell 1
              have v0 := hcv V0
              have HBV := Lib.hid hbb
              clear hfd hoo hbb o1 o2 o3 hcv
              go_region
              have HEND := Lib.hid (below_drewN (HBV.out.alloc HBV.out.size (.cells #[.int .u8 (97 + (q : Int))] 5)) 1)
              obtain ⟨V9, hV9⟩ : ∃ V9, V9 = (V0.alloc (.cells #[.int .u8 (97 + (q : Int))] 5)).drew := ⟨_, rfl⟩
              change Hid (Below wr.heap.size wr (V0.alloc (.cells #[.int .u8 (97 + (q : Int))] 5)).drew) at HEND
              rw [← hV9] at HEND ⊢
              clear hV9 k0 k1 k2 k3 c00 c01 c10 c11 c20 c21 c30 c31 v0
              go_wp2_with fail
              go_roundw
              case rel => exact ⟨q + 1, by omega, by go_num, below_step HBQ.out HEND.out⟩
              case measure => simp [intOf]; omega
            case inr =>
              have hfd : Hid (∀ X : World, Below wr.heap.size wr X → True) := fun _ _ => trivial
              go_wp2_with fail
              have hoo := Ob.made wr 40 #[.string nm, .bool false, .slice C1 m1 d1, .slice C2 m2 d2, .slice C3 m3 d3]
              have hbb := al9 wr (.cells #[.string nm, .bool false, .slice C1 m1 d1, .slice C2 m2 d2, .slice C3 m3 d3] 40)
              generalize wr.alloc (.cells #[.string nm, .bool false, .slice C1 m1 d1, .slice C2 m2 d2, .slice C3 m3 d3] 40) = V0 at *
              have k0 := hfd.out _ hbb
              have k1 := hfd.out V0.drew (below_drewN hbb 1)
              have k2 := hfd.out (V0.alloc (.cells #[.int .u8 (97 + (q : Int))] 5)).drew (below_drewN (hbb.alloc hbb.size _) 1)
              have k3 := hfd.out (V0.drew.alloc (.cells #[.int .u8 (97 + (q : Int))] 5)) ((below_drewN hbb 1).alloc hbb.size _)
              have o1 := Ob.drew9 (hoo.keep (Below.heap_alloc V0 (.cells #[.int .u8 (97 + (q : Int))] 5) _ hoo.lt))
              have o2 : Ob V0.drew _ _ _ := Ob.drew9 hoo
              have o3 := o2.keep (Below.heap_alloc V0.drew (.cells #[.int .u8 (97 + (q : Int))] 5) _ o2.lt)
              have c00 := hoo.cell 0
              have c01 := hoo.cell 1
              have c10 := o1.cell 0
              have c11 := o1.cell 1
              have c20 := o2.cell 0
              have c21 := o2.cell 1
              have c30 := o3.cell 0
              have c31 := o3.cell 1
              have v0 := hcv V0
              have HBV := Lib.hid hbb
              clear hfd hoo hbb o1 o2 o3 hcv
              go_region
              have HEND := Lib.hid (below_drewN (HBV.out.alloc HBV.out.size (.cells #[.int .u8 (97 + (q : Int))] 5)) 1)
              obtain ⟨V9, hV9⟩ : ∃ V9, V9 = (V0.alloc (.cells #[.int .u8 (97 + (q : Int))] 5)).drew := ⟨_, rfl⟩
              change Hid (Below wr.heap.size wr (V0.alloc (.cells #[.int .u8 (97 + (q : Int))] 5)).drew) at HEND
              rw [← hV9] at HEND ⊢
              clear hV9 k0 k1 k2 k3 c00 c01 c10 c11 c20 c21 c30 c31 v0
              go_wp2_with fail
              go_roundw
              case rel => exact ⟨q + 1, by omega, by go_num, below_step HBQ.out HEND.out⟩
              case measure => simp [intOf]; omega
          · obtain rfl : q = n2 := by omega
            go_wp2_with fail
            go_at_call 3
            refine (HR.out _).mono ?_
            rintro x w5 ⟨rfl, hb⟩
            have B5 := Lib.hid hb
            clear hb
            go_wp2_with fail
            go_ret
            exact ⟨rfl, below_step BW.out B5.out⟩
end Go.Proofs.Ythppdgiobflfpaa
