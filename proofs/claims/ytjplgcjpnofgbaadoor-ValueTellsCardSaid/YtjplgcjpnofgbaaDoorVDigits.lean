/- The reference's digits: the same as the library's numeral. -/
import Derived.Test.YtjplgcjpnofgbaaDoorVQuote
import Derived.Lib.ItoaLen
namespace Go.Proofs.YtjplgcjpnofgbaaDoor
set_option linter.unusedVariables false
open Go.RowKit

def DRel (u0 : Nat) (w : World) (u s : Value) (wr : World) : Prop :=
  ∃ (m : Nat) (l : List UInt8), m < 18446744073709551616 ∧ u = .int .u64 (m : Int) ∧ s = .string ⟨l.toArray⟩ ∧ Lib.decDigits m ++ l = Lib.decDigits u0 ∧ Below w.heap.size w wr

theorem dec_big {m : Nat} (h : ¬ m < 10) : Lib.decDigits m = Lib.decDigits (m / 10) ++ [UInt8.ofNat (48 + m % 10)] := by rw [Lib.decDigits, dif_neg h]
theorem dec_small {m : Nat} (h : m < 10) : Lib.decDigits m = [UInt8.ofNat (48 + m % 10)] := by rw [Lib.decDigits, dif_pos h, Nat.mod_eq_of_lt h]
theorem dec_len {m : Nat} (h : m < 18446744073709551616) : (Lib.decDigits m).length ≤ 20 := by
  rw [Lib.decDigits_length]
  exact Lib.nDigits_le20 m h
theorem str_add (a b : List UInt8) : (⟨a.toArray⟩ : ByteArray) ++ ⟨b.toArray⟩ = ⟨(a ++ b).toArray⟩ := by
  have e : ∀ a b : ByteArray, a.data = b.data → a = b := fun a b h => by cases a; cases b; simp_all
  apply e
  simp [ByteArray.data_append]

set_option maxHeartbeats 1600000 in
theorem digits_any (n : Int) (h0 : -9223372036854775808 ≤ n) (h1 : n ≤ 9223372036854775807) (w : World) :
    Calls Tryd.prog 45 #[.int .i64 n] w fun e w' => e = .returned (.string ⟨(Lib.itoa n).toArray⟩) ∧ Below w.heap.size w w' := by
  by_cases hneg : n < 0
  · obtain ⟨ku, m0, hw1, hw2, hm0, hm1⟩ : ∃ (ku : Int) (m0 : Nat), IntKind.u64.wrap n = ku ∧ IntKind.u64.wrap (-ku) = (m0 : Int) ∧ m0 = n.natAbs ∧ m0 < 18446744073709551616 := by
      refine ⟨n + 18446744073709551616, n.natAbs, ?_, ?_, rfl, by omega⟩
      · rw [IntKind.wrap_u64]; omega
      · rw [IntKind.wrap_u64]; omega
    have HN : Hid (Lib.itoa n = 45 :: Lib.decDigits m0) := by show _ = _; unfold Lib.itoa; rw [if_pos hneg, hm0]
    have HM := Lib.hid hm1
    have HLEN := Lib.hid (dec_len hm1)
    clear hm0 hm1
    go_enter Tryd.func45, Tryd.ntmps45
    go_wp2_with fail
    go_loopw [3, 4] (fun u s wr => DRel m0 w u s wr) (fun u _ _ => (intOf u).toNat)
    case atStart => exact ⟨m0, [], HM.out, rfl, rfl, by simp, Below.refl _ _⟩
    case round =>
      obtain ⟨m, l, hm, rfl, rfl, hd, hb⟩ := hrel
      have HD := Lib.hid hd
      have HB := Lib.hid hb
      clear hd hb
      have hx : ((UInt8.ofNat (48 + m % 10)).toNat : Int) = 48 + (m : Int) % 10 := by
        have := ofNat_toNat (show 48 + m % 10 < 256 by omega)
        rw [this]; omega
      have hcv : (convert 37 9 (.slice (some ⟨wr.heap.size, 0, none⟩) 1 1)).run Tryd.prog (wr.alloc (.cells #[.int .u8 (48 + (m : Int) % 10)] 5)) = .ok (.string ⟨[UInt8.ofNat (48 + m % 10)].toArray⟩) (wr.alloc (.cells #[.int .u8 (48 + (m : Int) % 10)] 5)) := by
        have := conv_text Tryd.underlying37 Tryd.underlying5 Tryd.underlying9 (Sl.lit wr 5 (bv [UInt8.ofNat (48 + m % 10)]) 1 rfl (by simp [maxLen]))
        simp only [bv, List.map_cons, List.map_nil, hx] at this
        exact this
      have hll : l.length ≤ 21 := by
        have h1 := congrArg List.length HD.out
        have h2 := HLEN.out
        simp at h1
        omega
      have HS := Lib.hid (show Lib.decDigits m = (if m < 10 then [] else Lib.decDigits (m / 10)) ++ [UInt8.ofNat (48 + m % 10)] by
        split
        · rename_i h; rw [dec_small h]; rfl
        · rename_i h; exact dec_big h)
      have HX := Lib.hid hx
      clear hx
      generalize hdd : UInt8.ofNat (48 + m % 10) = dd at *
      clear hdd
      have HB2 := Lib.hid (HB.out.alloc HB.out.size (.cells #[.int .u8 (48 + (m : Int) % 10)] 5))
      by_cases hs : m < 10
      · have hz : (m : Int) / 10 = 0 := by omega
        go_wp2_with fail
        go_ret
        refine ⟨?_, HB2.out⟩
        have e := HS.out
        rw [if_pos hs] at e
        rw [HN.out, ← HD.out, e]
        rw [show (⟨#[dd]⟩ : ByteArray) = ⟨[dd].toArray⟩ from rfl, str_add]
        try rw [show (⟨#[45]⟩ : ByteArray) = ⟨[45].toArray⟩ from rfl, str_add]
        rfl
      · have hz : ((m : Int) / 10 == 0) = false := by rw [beq_eq_false_iff_ne]; omega
        go_wp2_with fail
        go_roundw
        case rel =>
          have e := HS.out
          rw [if_neg hs] at e
          refine ⟨m / 10, dd :: l, by omega, by go_num, ?_, ?_, HB2.out⟩
          · rw [show (⟨#[dd]⟩ : ByteArray) = ⟨[dd].toArray⟩ from rfl, str_add]
            rfl
          · rw [← HD.out, e]; simp
        case measure => simp [intOf]; omega
  · have HN : Hid (Lib.itoa n = Lib.decDigits n.toNat) := by show _ = _; unfold Lib.itoa; rw [if_neg hneg]
    have hm1 : n.toNat < 18446744073709551616 := by omega
    have hnn : (n.toNat : Int) = n := by omega
    generalize n.toNat = m0 at *
    subst hnn
    have HM := Lib.hid hm1
    have HLEN := Lib.hid (dec_len hm1)
    clear hm1
    go_enter Tryd.func45, Tryd.ntmps45
    go_wp2_with fail
    go_loopw [3, 4] (fun u s wr => DRel m0 w u s wr) (fun u _ _ => (intOf u).toNat)
    case atStart => exact ⟨m0, [], HM.out, rfl, rfl, by simp, Below.refl _ _⟩
    case round =>
      obtain ⟨m, l, hm, rfl, rfl, hd, hb⟩ := hrel
      have HD := Lib.hid hd
      have HB := Lib.hid hb
      clear hd hb
      have hx : ((UInt8.ofNat (48 + m % 10)).toNat : Int) = 48 + (m : Int) % 10 := by
        have := ofNat_toNat (show 48 + m % 10 < 256 by omega)
        rw [this]; omega
      have hcv : (convert 37 9 (.slice (some ⟨wr.heap.size, 0, none⟩) 1 1)).run Tryd.prog (wr.alloc (.cells #[.int .u8 (48 + (m : Int) % 10)] 5)) = .ok (.string ⟨[UInt8.ofNat (48 + m % 10)].toArray⟩) (wr.alloc (.cells #[.int .u8 (48 + (m : Int) % 10)] 5)) := by
        have := conv_text Tryd.underlying37 Tryd.underlying5 Tryd.underlying9 (Sl.lit wr 5 (bv [UInt8.ofNat (48 + m % 10)]) 1 rfl (by simp [maxLen]))
        simp only [bv, List.map_cons, List.map_nil, hx] at this
        exact this
      have hll : l.length ≤ 21 := by
        have h1 := congrArg List.length HD.out
        have h2 := HLEN.out
        simp at h1
        omega
      have HS := Lib.hid (show Lib.decDigits m = (if m < 10 then [] else Lib.decDigits (m / 10)) ++ [UInt8.ofNat (48 + m % 10)] by
        split
        · rename_i h; rw [dec_small h]; rfl
        · rename_i h; exact dec_big h)
      have HX := Lib.hid hx
      clear hx
      generalize hdd : UInt8.ofNat (48 + m % 10) = dd at *
      clear hdd
      have HB2 := Lib.hid (HB.out.alloc HB.out.size (.cells #[.int .u8 (48 + (m : Int) % 10)] 5))
      by_cases hs : m < 10
      · have hz : (m : Int) / 10 = 0 := by omega
        go_wp2_with fail
        go_ret
        refine ⟨?_, HB2.out⟩
        have e := HS.out
        rw [if_pos hs] at e
        rw [HN.out, ← HD.out, e]
        rw [show (⟨#[dd]⟩ : ByteArray) = ⟨[dd].toArray⟩ from rfl, str_add]
        try rw [show (⟨#[45]⟩ : ByteArray) = ⟨[45].toArray⟩ from rfl, str_add]
        rfl
      · have hz : ((m : Int) / 10 == 0) = false := by rw [beq_eq_false_iff_ne]; omega
        go_wp2_with fail
        go_roundw
        case rel =>
          have e := HS.out
          rw [if_neg hs] at e
          refine ⟨m / 10, dd :: l, by omega, by go_num, ?_, ?_, HB2.out⟩
          · rw [show (⟨#[dd]⟩ : ByteArray) = ⟨[dd].toArray⟩ from rfl, str_add]
            rfl
          · rw [← HD.out, e]; simp
        case measure => simp [intOf]; omega
end Go.Proofs.YtjplgcjpnofgbaaDoor
