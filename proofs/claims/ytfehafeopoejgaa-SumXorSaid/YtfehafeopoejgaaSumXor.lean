/- SumXor: the walk. -/
import Derived.Test.YtfehafeopoejgaaSumRuns
import Derived.Test.YtfehafeopoejgaaOpen
import Derived.Deep.DeepCutAuto
import Derived.Lib.QuietBelow
import Derived.StillTailTactics
namespace Go.Proofs.Ytfehafeopoejgaa
set_option linter.unusedVariables false
open Go.RowKit Go.Sort

/-- Go's builtin min of three lengths and a hundred. -/
theorem min_four {P : Program} (n1 n2 n3 : Nat) : ∃ m : Nat, m ≤ n1 ∧ m ≤ n2 ∧ m ≤ n3 ∧ m ≤ 100 ∧ ∀ (w : World) (ts : Array TypeId) (t : TypeId),
    (Builtin.min_ ts t #[.int .i64 (n1 : Int), .int .i64 (n2 : Int), .int .i64 (n3 : Int), .int .i64 100]).run P w = .ok (.int .i64 (m : Int)) w := by
  refine ⟨min (min (min n1 n2) n3) 100, by omega, by omega, by omega, by omega, fun w ts t => ?_⟩
  have e : ((min (min (min n1 n2) n3) 100 : Nat) : Int) = (if (100 : Int) < (if (n3 : Int) < (if (n2 : Int) < n1 then (n2 : Int) else n1) then (n3 : Int) else (if (n2 : Int) < n1 then (n2 : Int) else n1)) then 100 else (if (n3 : Int) < (if (n2 : Int) < n1 then (n2 : Int) else n1) then (n3 : Int) else (if (n2 : Int) < n1 then (n2 : Int) else n1))) := by
    repeat' split
    all_goals omega
  rw [e]
  simp [Builtin.min_, Builtin.min2]

theorem u8_xor_c (a b : UInt8) : bits .xor .u8 (a.toNat : Int) (b.toNat : Int) = ((a ^^^ b).toNat : Int) := by
  rw [u8_xor_nat _ _ a.toNat_lt b.toNat_lt, UInt8.toNat_xor]

/-- The row's cells when the places up to k have been written. -/
def xorCells (X : List UInt8) (m k : Nat) : Array Value := (bv (X.take k) ++ List.replicate (m - k) (Value.int .u8 0)).toArray
theorem xor_step {X : List UInt8} {m k : Nat} {z : UInt8} (hX : X.length = m) (hk : k < m) (hz : X[k]? = some z) : (xorCells X m k).setIfInBounds k (.int .u8 (z.toNat : Int)) = xorCells X m (k + 1) := by
  have hkl : k < X.length := by omega
  rw [List.getElem?_eq_getElem hkl] at hz
  injection hz with hz
  unfold xorCells
  rw [List.setIfInBounds_toArray]
  congr 1
  have e1 : m - k = (m - (k + 1)) + 1 := by omega
  have hlen : (bv (X.take k)).length = k := by rw [bv_len, List.length_take]; omega
  rw [e1, List.replicate_succ, List.set_append_right _ _ (by omega), hlen, Nat.sub_self, List.set_cons_zero, List.take_succ_eq_append_getElem hkl, bv_app, List.append_assoc, hz]
  rfl
theorem xor_get {X : List UInt8} {m k : Nat} (hX : X.length = m) (hk : k < m) : (xorCells X m k)[k]? = some (.int .u8 0) := by
  unfold xorCells
  have e1 : m - k = (m - (k + 1)) + 1 := by omega
  have hlen : (bv (X.take k)).length = k := by rw [bv_len, List.length_take]; omega
  rw [List.getElem?_toArray, List.getElem?_append_right (by omega), hlen, Nat.sub_self, e1, List.replicate_succ]
  rfl
theorem xor_end {X : List UInt8} {m : Nat} (hX : X.length = m) : xorCells X m m = (bv X).toArray := by
  unfold xorCells
  rw [Nat.sub_self, List.take_of_length_le (by omega)]
  simp
theorem xor_start {X : List UInt8} {m : Nat} : xorCells X m 0 = (List.replicate m (Value.int .u8 0)).toArray := by
  unfold xorCells
  simp [bv]

theorem crc_xor2 (s t : BitVec 32) : bits .xor .u32 (s.toNat : Int) (t.toNat : Int) = ((s ^^^ t).toNat : Int) := by
  rw [u32_xor_nat _ _ s.isLt t.isLt, BitVec.toNat_xor]

theorem sum_regrown {wr : World} {n c : Nat} {A : Option Addr} {l : List UInt8} (h : Sl wr wr.heap.size A n c (bv l)) (d : Nat) (os : Array Obj) :
    Calls Try.prog 8 #[.slice A n c] (grow (redrawn wr d) os) fun e w'' => e = .returned (.int .u32 ((crcOf l).toNat : Int)) ∧ ∃ p : Regrown, w'' = grow (redrawn wr p.d) p.os :=
  (sum_any (h.below (below_regrown wr d os))).mono fun _ _ ⟨he, hw⟩ => ⟨he, ⟨d, os⟩, hw.symm⟩

def XorRel (w : World) (X : List UInt8) (m : Nat) (i : Value) (wr : World) : Prop :=
  ∃ k : Nat, i = .int .i64 (k : Int) ∧ k ≤ m ∧ Ob wr w.heap.size 5 (xorCells X m k) ∧ Below w.heap.size w wr

set_option maxHeartbeats 6400000 in
theorem sumXor_walk (w : World) (A : Option Addr) (n c : Nat) (hl : ∃ l, Sl w w.heap.size A n c (bv l)) (A2 : Option Addr) (n2 c2 : Nat) (hl2 : ∃ l, Sl w w.heap.size A2 n2 c2 (bv l)) (A3 : Option Addr) (n3 c3 : Nat) (hl3 : ∃ l, Sl w w.heap.size A3 n3 c3 (bv l)) :
    Calls Try.prog 7 #[.slice A n c, .slice A2 n2 c2, .slice A3 n3 c3] w fun e w' => e = .returned (.bool true) ∧ Below w.heap.size w w' := by
  obtain ⟨l, hl⟩ := hl
  obtain ⟨l2, hl2⟩ := hl2
  obtain ⟨l3, hl3⟩ := hl3
  obtain ⟨m, hm1, hm2, hm3, hm4, hmin⟩ := min_four (P := Try.prog) n n2 n3
  have b1 := hl.le
  have b2 := hl2.le
  have b3 := hl3.le
  have g1 := hl.cap
  have g2 := hl2.cap
  have g3 := hl3.cap
  unfold maxLen at g1 g2 g3
  obtain ⟨X1, hX1, S1, N1⟩ : ∃ X, X = l.take m ∧ Hid (Sl w w.heap.size A m c (bv X)) ∧ Hid (X.length = m) := ⟨_, rfl, by show Sl _ _ _ _ _ _; rw [bv_take]; exact hl.take hm1, by show _ = _; rw [List.length_take]; have := hl.len; rw [bv_len] at this; omega⟩
  obtain ⟨X2, hX2, S2, N2⟩ : ∃ X, X = l2.take m ∧ Hid (Sl w w.heap.size A2 m c2 (bv X)) ∧ Hid (X.length = m) := ⟨_, rfl, by show Sl _ _ _ _ _ _; rw [bv_take]; exact hl2.take hm2, by show _ = _; rw [List.length_take]; have := hl2.len; rw [bv_len] at this; omega⟩
  obtain ⟨X3, hX3, S3, N3⟩ : ∃ X, X = l3.take m ∧ Hid (Sl w w.heap.size A3 m c3 (bv X)) ∧ Hid (X.length = m) := ⟨_, rfl, by show Sl _ _ _ _ _ _; rw [bv_take]; exact hl3.take hm3, by show _ = _; rw [List.length_take]; have := hl3.len; rw [bv_len] at this; omega⟩
  clear hX1 hX2 hX3 hl hl2 hl3
  have e12 : X1.length = X2.length := by rw [N1.out, N2.out]
  have e13 : X1.length = X3.length := by rw [N1.out, N3.out]
  have HX : Hid (crcOf (xor3 X1 X2 X3) = crcOf X1 ^^^ crcOf X2 ^^^ crcOf X3) := crcOf_xor3 e12 e13
  have HN : Hid ((xor3 X1 X2 X3).length = m) := (xor3_len e12 e13).trans N1.out
  have HG : Hid (∀ k, k < m → ∃ (k1 : k < X1.length) (k2 : k < X2.length) (k3 : k < X3.length), (xor3 X1 X2 X3)[k]? = some (X1[k] ^^^ X2[k] ^^^ X3[k])) := fun k hk =>
    ⟨by rw [N1.out]; exact hk, by rw [N2.out]; exact hk, by rw [N3.out]; exact hk, xor3_get _ _ _⟩
  clear e12 e13
  generalize xor3 X1 X2 X3 = X at *
  have hmk := make_bytes m m (by omega) (by omega)
  have HS : Hid (XorRel w X m (.int .i64 0) (w.alloc (.cells (List.replicate m (Value.int .u8 0)).toArray 5))) :=
    ⟨0, rfl, Nat.zero_le _, by rw [xor_start]; exact Ob.made w _ _, (Below.refl _ w).alloc (Nat.le_refl _) _⟩
  simp only [List.toArray_replicate] at hmk HS
  go_enter Try.func7, Try.ntmps7
  go_wp2_with fail
  go_loopw [21] (fun i wr => XorRel w X m i wr) (fun i _ => m - (intOf i).toNat)
  case atStart => exact HS.out
  case round =>
    obtain ⟨k, rfl, hk, ho, hb⟩ := hrel
    by_cases hlt : k < m
    · obtain ⟨k1, k2, k3, hz⟩ := HG.out k hlt
      obtain ⟨r1, o1, rfl, q1, _, h1⟩ := (S1.out.below hb).byte hlt
      obtain ⟨r2, o2, rfl, q2, _, h2⟩ := (S2.out.below hb).byte hlt
      obtain ⟨r3, o3, rfl, q3, _, h3⟩ := (S3.out.below hb).byte hlt
      have hcell := (ho.cell k).trans (xor_get HN.out hlt)
      have hfr := ho.frozen k
      have x1 := u8_xor_c X1[k] X2[k]
      have x2 := u8_xor_c (X1[k] ^^^ X2[k]) X3[k]
      have HO := Lib.hid ho
      have HB := Lib.hid hb
      have HZ := Lib.hid hz
      clear ho hb hz
      generalize X1[k] ^^^ X2[k] ^^^ X3[k] = z at *
      generalize X1[k] ^^^ X2[k] = y at *
      go_wp2_with fail
      have d1 : World.cell? { heap := wr.heap, tape := wr.tape, drawn := wr.drawn + 1, os := wr.os, output := wr.output } ⟨r1, o1 + k, none⟩ = _ := h1
      have d2 : World.cell? { heap := wr.heap, tape := wr.tape, drawn := wr.drawn + 1, os := wr.os, output := wr.output } ⟨r2, o2 + k, none⟩ = _ := h2
      have d3 : World.cell? { heap := wr.heap, tape := wr.tape, drawn := wr.drawn + 1, os := wr.os, output := wr.output } ⟨r3, o3 + k, none⟩ = _ := h3
      have dc : World.cell? { heap := wr.heap, tape := wr.tape, drawn := wr.drawn + 1, os := wr.os, output := wr.output } ⟨w.heap.size, k, none⟩ = _ := hcell
      have df : World.frozen? { heap := wr.heap, tape := wr.tape, drawn := wr.drawn + 1, os := wr.os, output := wr.output } ⟨w.heap.size, k, none⟩ = _ := hfr
      have i1 : k < n := by omega
      have i2 : k < n2 := by omega
      have i3 : k < n3 := by omega
      have j0 : (0 : Int) ≤ (k : Int) := by omega
      have j1 : (k : Int) < (n : Int) := by omega
      have j2 : (k : Int) < (n2 : Int) := by omega
      have j3 : (k : Int) < (n3 : Int) := by omega
      have j4 : (k : Int) < (m : Int) := by omega
      go_still_tail 17, (by kernel_rfl)
      clear d1 d2 d3 h1 h2 h3 x1 x2 dc df
      change wpList _ _ _ _ _ (wr.drewN 1)
      have HO2 := Lib.hid (HO.out.keep (w' := wr.drewN 1) rfl)
      have HB2 := Lib.hid (below_drewN HB.out 1)
      have hcell2 : (wr.drewN 1).cell? ⟨w.heap.size, k, none⟩ = _ := hcell
      have hfr2 : (wr.drewN 1).frozen? ⟨w.heap.size, k, none⟩ = _ := hfr
      clear hcell hfr HO HB
      generalize wr.drewN 1 = w2 at *
      go_wp2_with fail
      go_roundw
      case rel =>
        refine ⟨k + 1, by go_num, by omega, ?_, HB2.out.setCell (p := ⟨w.heap.size, k, none⟩) (Nat.le_refl _) _⟩
        rw [← xor_step HN.out hlt HZ.out]
        exact HO2.out.put k _
      case measure => simp [intOf]; omega
    · obtain rfl : k = m := by omega
      rw [xor_end HN.out] at ho
      have SX : Hid (Sl wr wr.heap.size (some ⟨w.heap.size, 0, none⟩) k k (bv X)) := (Ob.sl (n := k) ho (by rw [bv_len]; exact HN.out) (by unfold maxLen; omega)).more (B' := wr.heap.size) ho.lt
      have HB := Lib.hid hb
      have T1 := Lib.hid ((S1.out.below hb).more hb.size)
      have T2 := Lib.hid ((S2.out.below hb).more hb.size)
      have T3 := Lib.hid ((S3.out.below hb).more hb.size)
      clear ho hb
      have s12 := crc_xor2 (crcOf X1) (crcOf X2)
      have s123 := crc_xor2 (crcOf X1 ^^^ crcOf X2) (crcOf X3)
      have Q0 : Hid (∀ d os, Calls Try.prog 8 #[.slice (some ⟨w.heap.size, 0, none⟩) k k] (grow (redrawn wr d) os) fun e w'' => e = .returned (.int .u32 ((crcOf X1 ^^^ crcOf X2 ^^^ crcOf X3).toNat : Int)) ∧ ∃ p : Regrown, w'' = grow (redrawn wr p.d) p.os) := fun d os => by have := sum_regrown SX.out d os; rw [HX.out] at this; exact this
      have Q1 : Hid (∀ d os, Calls Try.prog 8 #[.slice A k c] (grow (redrawn wr d) os) fun e w'' => e = .returned (.int .u32 ((crcOf X1).toNat : Int)) ∧ ∃ p : Regrown, w'' = grow (redrawn wr p.d) p.os) := fun d os => sum_regrown T1.out d os
      have Q2 : Hid (∀ d os, Calls Try.prog 8 #[.slice A2 k c2] (grow (redrawn wr d) os) fun e w'' => e = .returned (.int .u32 ((crcOf X2).toNat : Int)) ∧ ∃ p : Regrown, w'' = grow (redrawn wr p.d) p.os) := fun d os => sum_regrown T2.out d os
      have Q3 : Hid (∀ d os, Calls Try.prog 8 #[.slice A3 k c3] (grow (redrawn wr d) os) fun e w'' => e = .returned (.int .u32 ((crcOf X3).toNat : Int)) ∧ ∃ p : Regrown, w'' = grow (redrawn wr p.d) p.os) := fun d os => sum_regrown T3.out d os
      have QR : Hid (∀ d os, Calls Try.prog 3 #[] (grow (redrawn wr d) os) fun e w'' => e = .returned (.bool true) ∧ ∃ p : Regrown, w'' = grow (redrawn wr p.d) p.os) := fun d os => Calls.regrown_of (runs_any _)
      generalize (crcOf X1 ^^^ crcOf X2 ^^^ crcOf X3).toNat = t0 at *
      generalize (crcOf X1 ^^^ crcOf X2).toNat = t12 at *
      generalize (crcOf X1).toNat = t1 at *
      generalize (crcOf X2).toNat = t2 at *
      generalize (crcOf X3).toNat = t3 at *
      have i1 : (k : Int) ≤ (c : Int) := by omega
      have i2 : (k : Int) ≤ (c2 : Int) := by omega
      have i3 : (k : Int) ≤ (c3 : Int) := by omega
      have i0 : (0 : Int) ≤ (k : Int) := by omega
      clear hlt hk hmin hm1 hm2 hm3 hm4
      go_wp2_with fail
      refine wp_region_quiet_below (by kernel_rfl) (by kernel_rfl) ?_
      repeat (go_big_quiet_step ((first | (go_at_call 3; exact QR.out _ _) | (go_at_call 8; first | with_reducible exact Q0.out _ _ | with_reducible exact Q1.out _ _ | with_reducible exact Q2.out _ _ | with_reducible exact Q3.out _ _))))
      refine wpQuiet_nil ?_
      intro _ hw'
      obtain ⟨⟨dq, osq⟩, hw''⟩ := hw'
      subst hw''
      go_wp2_with fail
      go_ret
      exact ⟨rfl, below_step HB.out (below_regrown wr dq osq)⟩
end Go.Proofs.Ytfehafeopoejgaa
