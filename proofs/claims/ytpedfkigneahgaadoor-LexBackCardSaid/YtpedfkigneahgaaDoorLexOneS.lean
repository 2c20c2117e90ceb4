/- one of package lex: a byte of a quoted text, and by how many it is written. -/
import Derived.Test.YtpedfkigneahgaaDoorLexOne
namespace Go.Proofs.YtpedfkigneahgaaDoor
set_option linter.unusedVariables false
open Go.RowKit

set_option maxRecDepth 100000 in
theorem or16f : ∀ x : Fin 16, ∀ y : Fin 16, (x.val * 16) ||| y.val = 16 * x.val + y.val := by decide +kernel
theorem u8_or16 {x y : Nat} (hx : x < 16) (hy : y < 16) : bits .or .u8 ((x : Int) * 16) (y : Int) = ((16 * x + y : Nat) : Int) := by
  rw [u8_or _ _ (by omega) (by omega) (by omega) (by omega)]
  have := or16f ⟨x, hx⟩ ⟨y, hy⟩
  dsimp only at this
  rw [show ((x : Int) * 16).toNat = x * 16 by omega, show ((y : Int)).toNat = y by omega, this]

/-- one's answer. -/
def oneV (l : List UInt8) : Value := .tuple #[.int .u8 ((((oneB l).map Prod.fst).getD 0).toNat : Int), .int .i64 ((((oneB l).map Prod.snd).getD 0 : Nat) : Int)]
theorem oneV_none {l : List UInt8} (h : oneB l = none) : oneV l = .tuple #[.int .u8 0, .int .i64 0] := by unfold oneV; rw [h]; rfl
theorem oneV_some {l : List UInt8} {x : UInt8} {k : Nat} (h : oneB l = some (x, k)) : oneV l = .tuple #[.int .u8 (x.toNat : Int), .int .i64 (k : Int)] := by unfold oneV; rw [h]; rfl
theorem list_three {l : List UInt8} {c a b : UInt8} (h0 : l[0]? = some c) (h1 : l[1]? = some a) (h2 : l[2]? = some b) : ∃ r, l = c :: a :: b :: r := by
  match l, h0, h1, h2 with
  | x :: y :: z :: r, h0, h1, h2 => simp at h0 h1 h2; subst h0 h1 h2; exact ⟨r, rfl⟩
theorem list_one {l : List UInt8} {c : UInt8} (h0 : l[0]? = some c) : ∃ r, l = c :: r := by
  match l, h0 with
  | x :: r, h0 => simp at h0; subst h0; exact ⟨r, rfl⟩

set_option maxHeartbeats 1600000 in
theorem one_any (s : ByteArray) (hs : s.size ≤ maxLen) (h0 : 0 < s.size) (w : World) :
    Calls Tryd.prog 28 #[.string s] w fun e w' => e = .returned (oneV s.data.toList) ∧ w' = w := by
  have hl := data_len s
  have hc0 := data_at h0
  unfold maxLen at hs
  generalize hcc : s[0] = c at *
  have hal := alone_any c w
  have HA := Lib.hid hal
  clear hal
  cases ho : odd8 c with
  | false =>
    rw [ho] at HA
    obtain ⟨r, hr⟩ := list_one hc0
    have HR : Hid (oneV s.data.toList = .tuple #[.int .u8 (c.toNat : Int), .int .i64 ((1 : Nat) : Int)]) := by show _ = _; rw [hr]; exact oneV_some (oneB_plain ho)
    clear hl hc0 hr ho
    go_enter Tryd.func28, Tryd.ntmps28
    go_wp2_with (go_at_call 32; refine HA.out.mono ?_; rintro e w' ⟨rfl, rfl⟩)
    go_ret2
    exact ⟨by rw [HR.out]; rfl, rfl⟩
  | true =>
    rw [ho] at HA
    by_cases h92 : c = 92
    · subst h92
      replace HA : Hid (Calls Tryd.prog 32 #[.int .u8 92] w fun e w' => e = .returned (.bool (!true)) ∧ w' = w) := HA
      by_cases h3 : s.size < 3
      · obtain ⟨r, hr⟩ := list_one hc0
        have HR : Hid (oneV s.data.toList = .tuple #[.int .u8 0, .int .i64 0]) := by show _ = _; rw [hr] at hl ⊢; exact oneV_none (oneB_short (by simp only [List.length_cons] at hl; omega))
        clear hl hc0 hr ho
        go_enter Tryd.func28, Tryd.ntmps28
        go_wp2_with (go_at_call 32; refine HA.out.mono ?_; rintro e w' ⟨rfl, rfl⟩)
        go_ret2
        exact ⟨by rw [HR.out]; rfl, rfl⟩
      · have h1' : 1 < s.size := by omega
        have h2' : 2 < s.size := by omega
        have hc1 := data_at h1'
        have hc2 := data_at h2'
        generalize hca : s[1] = a at *
        generalize hcb : s[2] = b at *
        obtain ⟨r, hr⟩ := list_three hc0 hc1 hc2
        have hsa := sixteenth_any a w
        have hsb := sixteenth_any b w
        have HSA := Lib.hid hsa
        have HSB := Lib.hid hsb
        clear hsa hsb hc0 hc1 hc2 hl ho
        have HR := Lib.hid hr
        clear hr
        cases ha : hexv a with
        | none =>
          rw [ha] at HSA
          have HV : Hid (oneV s.data.toList = .tuple #[.int .u8 0, .int .i64 0]) := by show _ = _; rw [HR.out]; exact oneV_none (by rw [oneB_hex, ha, hexB_none1])
          have hb1 : ((hexv b).getD 0) < 16 := by
            cases hb : hexv b with
            | none => simp
            | some y => simpa using hexv_lt hb
          generalize (hexv b).getD 0 = y at *
          generalize (hexv b).isSome = yo at *
          clear ha
          have hx : ((none : Option Nat).getD 0 : Nat) = 0 := rfl
          go_enter Tryd.func28, Tryd.ntmps28
          go_wp2_with (first | (go_at_call 32; refine HA.out.mono ?_; rintro e w' ⟨rfl, rfl⟩) | (go_at_call 33; first | ((with_reducible refine HSA.out.mono ?_); rintro e w' ⟨rfl, rfl⟩) | ((with_reducible refine HSB.out.mono ?_); rintro e w' ⟨rfl, rfl⟩)))
          go_ret2
          exact ⟨by rw [HV.out]; rfl, rfl⟩
        | some x =>
          rw [ha] at HSA
          have hx := hexv_lt ha
          cases hb : hexv b with
          | none =>
            rw [hb] at HSB
            have HV : Hid (oneV s.data.toList = .tuple #[.int .u8 0, .int .i64 0]) := by show _ = _; rw [HR.out]; exact oneV_none (by rw [oneB_hex, hb, hexB_none2])
            clear ha hb
            go_enter Tryd.func28, Tryd.ntmps28
            go_wp2_with (first | (go_at_call 32; refine HA.out.mono ?_; rintro e w' ⟨rfl, rfl⟩) | (go_at_call 33; first | ((with_reducible refine HSA.out.mono ?_); rintro e w' ⟨rfl, rfl⟩) | ((with_reducible refine HSB.out.mono ?_); rintro e w' ⟨rfl, rfl⟩)))
            go_ret2
            exact ⟨by rw [HV.out]; rfl, rfl⟩
          | some y =>
            rw [hb] at HSB
            have hy := hexv_lt hb
            have hor := u8_or16 hx hy
            have hsum : ((UInt8.ofNat (16 * x + y)).toNat : Int) = 16 * (x : Int) + (y : Int) := by
              rw [ofNat_toNat (by omega)]; omega
            have hal2 := alone_any (UInt8.ofNat (16 * x + y)) w
            have HV := Lib.hid (show oneB (92 :: a :: b :: r) = if odd8 (UInt8.ofNat (16 * x + y)) = true then some (UInt8.ofNat (16 * x + y), 3) else none by rw [oneB_hex, ha, hb, hexB_some])
            clear ha hb
            rw [hsum] at hal2
            have HSUM := Lib.hid hsum
            clear hsum
            have HA2 := Lib.hid hal2
            clear hal2
            generalize hzz : UInt8.ofNat (16 * x + y) = z at *
            cases hoz : odd8 z with
            | true =>
              rw [hoz] at HA2
              have HV2 : Hid (oneV s.data.toList = .tuple #[.int .u8 (16 * (x : Int) + (y : Int)), .int .i64 ((3 : Nat) : Int)]) := by
                show _ = _
                rw [HR.out, ← HSUM.out]
                exact oneV_some (by rw [HV.out, if_pos hoz])
              clear hoz hzz
              go_enter Tryd.func28, Tryd.ntmps28
              go_wp2_with (first | (go_at_call 32; first | ((with_reducible refine HA.out.mono ?_); rintro e w' ⟨rfl, rfl⟩) | ((with_reducible refine HA2.out.mono ?_); rintro e w' ⟨rfl, rfl⟩)) | (go_at_call 33; first | ((with_reducible refine HSA.out.mono ?_); rintro e w' ⟨rfl, rfl⟩) | ((with_reducible refine HSB.out.mono ?_); rintro e w' ⟨rfl, rfl⟩)))
              go_ret2
              exact ⟨by rw [HV2.out]; rfl, rfl⟩
            | false =>
              rw [hoz] at HA2
              have HV2 : Hid (oneV s.data.toList = .tuple #[.int .u8 0, .int .i64 0]) := by
                show _ = _
                rw [HR.out]
                exact oneV_none (by rw [HV.out, if_neg (by rw [hoz]; simp)])
              clear hoz hzz
              go_enter Tryd.func28, Tryd.ntmps28
              go_wp2_with (first | (go_at_call 32; first | ((with_reducible refine HA.out.mono ?_); rintro e w' ⟨rfl, rfl⟩) | ((with_reducible refine HA2.out.mono ?_); rintro e w' ⟨rfl, rfl⟩)) | (go_at_call 33; first | ((with_reducible refine HSA.out.mono ?_); rintro e w' ⟨rfl, rfl⟩) | ((with_reducible refine HSB.out.mono ?_); rintro e w' ⟨rfl, rfl⟩)))
              go_ret2
              exact ⟨by rw [HV2.out]; rfl, rfl⟩
    · have h92' : ((c.toNat : Int) != 92) = true := by
        rw [bne_iff_ne]
        intro h
        exact h92 (UInt8.toNat_inj.1 (by have : (92 : UInt8).toNat = 92 := rfl; omega))
      obtain ⟨r, hr⟩ := list_one hc0
      have HR : Hid (oneV s.data.toList = .tuple #[.int .u8 0, .int .i64 0]) := by show _ = _; rw [hr]; exact oneV_none (oneB_odd ho h92)
      clear hl hc0 hr ho h92
      go_enter Tryd.func28, Tryd.ntmps28
      go_wp2_with (go_at_call 32; refine HA.out.mono ?_; rintro e w' ⟨rfl, rfl⟩)
      go_ret2
      exact ⟨by rw [HR.out]; rfl, rfl⟩
end Go.Proofs.YtpedfkigneahgaaDoor
