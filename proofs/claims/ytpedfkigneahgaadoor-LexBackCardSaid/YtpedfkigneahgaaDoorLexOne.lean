/- alone, sixteenth, mark, one of package lex. -/
import Derived.Test.YtpedfkigneahgaaDoorLexBits
import Derived.Test.YtpedfkigneahgaaDoorVNameV
import Derived.Test.YtpedfkigneahgaaDoorConvText
namespace Go.Proofs.YtpedfkigneahgaaDoor
set_option linter.unusedVariables false
open Go.RowKit

theorem ret_pair {a b c d : Value} (h1 : a = c) (h2 : b = d) : Ending.returned (.tuple #[a, b]) = .returned (.tuple #[c, d]) := by rw [h1, h2]
theorem ret_three {a b c d e f : Value} (h1 : a = d) (h2 : b = e) (h3 : c = f) : Ending.returned (.tuple #[a, b, c]) = .returned (.tuple #[d, e, f]) := by rw [h1, h2, h3]
theorem int_eq {k : IntKind} {a b : Int} (h : a = b) : Value.int k a = .int k b := by rw [h]
theorem bool_eq {a b : Bool} (h : a = b) : Value.bool a = .bool b := by rw [h]
theorem strv_eq {a b : ByteArray} (h : a = b) : Value.string a = .string b := by rw [h]

theorem odd8_t {c : UInt8} (h : c.toNat < 32 ∨ 126 < c.toNat ∨ c.toNat = 34 ∨ c.toNat = 92) : odd8 c = true := by simpa [odd8, or_assoc] using h
theorem odd8_f {c : UInt8} (h : ¬ (c.toNat < 32 ∨ 126 < c.toNat ∨ c.toNat = 34 ∨ c.toNat = 92)) : odd8 c = false := by
  rw [← Bool.not_eq_true]
  intro h'
  exact h (by simpa [odd8, or_assoc] using h')
theorem byte_ways7 (c : UInt8) : ((c.toNat : Int) < 32) ∨ ((32 ≤ (c.toNat : Int) ∧ 126 < (c.toNat : Int))) ∨ ((c.toNat : Int) = 34) ∨ ((c.toNat : Int) = 92) ∨ ((32 ≤ (c.toNat : Int) ∧ (c.toNat : Int) ≤ 126) ∧ ((c.toNat : Int) == 34) = false ∧ ((c.toNat : Int) == 92) = false ∧ ((c.toNat : Int) != 34) = true ∧ ((c.toNat : Int) != 92) = true) := by
  simp only [beq_eq_false_iff_ne, bne_iff_ne]; omega

set_option maxHeartbeats 800000 in
theorem alone_any (c : UInt8) (w : World) : Calls Tryd.prog 32 #[.int .u8 (c.toNat : Int)] w fun e w' => e = .returned (.bool (!odd8 c)) ∧ w' = w := by
  rcases byte_ways7 c with a | a | a | a | a
  case inr.inr.inl =>
    obtain rfl : c = 34 := UInt8.toNat_inj.1 (by have : (34 : UInt8).toNat = 34 := rfl; omega)
    clear a
    go_enter Tryd.func32, Tryd.ntmps32
    go_wp2_with fail
    go_ret
    exact ⟨rfl, rfl⟩
  case inr.inr.inr.inl =>
    obtain rfl : c = 92 := UInt8.toNat_inj.1 (by have : (92 : UInt8).toNat = 92 := rfl; omega)
    clear a
    go_enter Tryd.func32, Tryd.ntmps32
    go_wp2_with fail
    go_ret
    exact ⟨rfl, rfl⟩
  case inr.inr.inr.inr =>
    have HO : Hid (odd8 c = false) := odd8_f (by obtain ⟨a1, a2, a3, _⟩ := a; simp only [beq_eq_false_iff_ne] at a2 a3; omega)
    go_enter Tryd.func32, Tryd.ntmps32
    go_wp2_with fail
    go_ret
    exact ⟨ret_bool (by rw [HO.out]; rfl), rfl⟩
  all_goals
    have HO : Hid (odd8 c = true) := odd8_t (by omega)
    go_enter Tryd.func32, Tryd.ntmps32
    go_wp2_with fail
    go_ret
    exact ⟨ret_bool (by rw [HO.out]; first | rfl | exact decide_eq_false (by omega)), rfl⟩

theorem hexv_dgt {c : UInt8} (h : dgt c = true) : hexv c = some (c.toNat - 48) := by unfold hexv; rw [if_pos h]
theorem hexv_let {c : UInt8} (h : dgt c = false) (h2 : 97 ≤ c.toNat ∧ c.toNat ≤ 102) : hexv c = some (c.toNat - 87) := by unfold hexv; rw [if_neg (by rw [h]; simp), if_pos h2]
theorem hexv_none {c : UInt8} (h : dgt c = false) (h2 : ¬ (97 ≤ c.toNat ∧ c.toNat ≤ 102)) : hexv c = none := by unfold hexv; rw [if_neg (by rw [h]; simp), if_neg h2]
theorem hexv_lt {c : UInt8} {x : Nat} (h : hexv c = some x) : x < 16 := by
  unfold hexv at h
  split at h
  · rename_i hd; cases h; unfold dgt at hd; simp at hd; omega
  · split at h
    · cases h; omega
    · cases h

set_option maxHeartbeats 800000 in
theorem sixteenth_any (c : UInt8) (w : World) : Calls Tryd.prog 33 #[.int .u8 (c.toNat : Int)] w fun e w' => e = .returned (.tuple #[.int .u8 (((hexv c).getD 0 : Nat) : Int), .bool (hexv c).isSome]) ∧ w' = w := by
  have hd := digit_any c w
  have HD := Lib.hid hd
  have hlt := c.toNat_lt
  clear hd
  cases h : dgt c with
  | true =>
    rw [h] at HD
    have HX := Lib.hid (hexv_dgt h)
    have hb : 48 ≤ (c.toNat : Int) ∧ (c.toNat : Int) ≤ 57 := by unfold dgt at h; simp at h; omega
    clear h
    go_enter Tryd.func33, Tryd.ntmps33
    go_wp2_with (go_at_call 14; refine HD.out.mono ?_; rintro e w' ⟨rfl, rfl⟩)
    go_ret2
    exact ⟨ret_pair (int_eq (by rw [HX.out]; show (c.toNat : Int) - 48 = ((c.toNat - 48 : Nat) : Int); omega)) (by rw [HX.out]; rfl), rfl⟩
  | false =>
    rw [h] at HD
    have three : (c.toNat : Int) < 97 ∨ (97 ≤ (c.toNat : Int) ∧ (c.toNat : Int) ≤ 102) ∨ (97 ≤ (c.toNat : Int) ∧ 102 < (c.toNat : Int)) := by omega
    rcases three with a | a | a
    case inr.inl =>
      have HX := Lib.hid (hexv_let h (by omega))
      clear h
      go_enter Tryd.func33, Tryd.ntmps33
      go_wp2_with (go_at_call 14; refine HD.out.mono ?_; rintro e w' ⟨rfl, rfl⟩)
      go_ret2
      exact ⟨ret_pair (int_eq (by rw [HX.out]; show (c.toNat : Int) - 97 + 10 = ((c.toNat - 87 : Nat) : Int); omega)) (by rw [HX.out]; rfl), rfl⟩
    all_goals
      have HX := Lib.hid (hexv_none h (by omega))
      clear h
      go_enter Tryd.func33, Tryd.ntmps33
      go_wp2_with (go_at_call 14; refine HD.out.mono ?_; rintro e w' ⟨rfl, rfl⟩)
      go_ret2
      exact ⟨by rw [HX.out]; rfl, rfl⟩

/-- One byte in a slice of its own, as a text. -/
theorem conv_one (c : UInt8) (w : World) : (convert 52 9 (.slice (some ⟨w.heap.size, 0, none⟩) 1 1)).run Tryd.prog (w.alloc (.cells #[.int .u8 (c.toNat : Int)] 5)) = .ok (.string ⟨#[c]⟩) (w.alloc (.cells #[.int .u8 (c.toNat : Int)] 5)) :=
  conv_text Tryd.underlying52 Tryd.underlying5 Tryd.underlying9 (Sl.lit w 5 (bv [c]) 1 rfl (by simp [maxLen]))

theorem conv_lit (c : UInt8) (k : Int) (h : (c.toNat : Int) = k) (w : World) : (convert 52 9 (.slice (some ⟨w.heap.size, 0, none⟩) 1 1)).run Tryd.prog (w.alloc (.cells #[.int .u8 k] 5)) = .ok (.string ⟨#[c]⟩) (w.alloc (.cells #[.int .u8 k] 5)) := by
  subst h
  exact conv_one c w

/-- mark's answer. -/
def markV (c : UInt8) : Value := .tuple #[.string (if mrk c = true then ⟨#[c]⟩ else ⟨#[]⟩), .bool (mrk c)]
theorem mrk_ways (c : UInt8) : c = 123 ∨ c = 125 ∨ c = 40 ∨ c = 41 ∨ c = 46 ∨ c = 44 ∨ c = 59 ∨ c = 61 ∨ c = 60 ∨ c = 62 ∨ c = 33 ∨ mrk c = false := by
  unfold mrk
  simp only [Bool.or_eq_false_iff, decide_eq_false_iff_not]
  by_cases c = 123 <;> by_cases c = 125 <;> by_cases c = 40 <;> by_cases c = 41 <;> by_cases c = 46 <;> by_cases c = 44 <;> by_cases c = 59 <;> by_cases c = 61 <;> by_cases c = 60 <;> by_cases c = 62 <;> by_cases c = 33 <;> simp_all
set_option maxHeartbeats 1600000 in
theorem mark_any (c : UInt8) (w : World) : Calls Tryd.prog 20 #[.int .u8 (c.toNat : Int)] w fun e w' => e = .returned (markV c) ∧ Below w.heap.size w w' := by
  have hc0 := conv_lit 123 123 rfl w
  have hc1 := conv_lit 125 125 rfl w
  have hc2 := conv_lit 40 40 rfl w
  have hc3 := conv_lit 41 41 rfl w
  have hc4 := conv_lit 46 46 rfl w
  have hc5 := conv_lit 44 44 rfl w
  have hc6 := conv_lit 59 59 rfl w
  have hc7 := conv_lit 61 61 rfl w
  have hc8 := conv_lit 60 60 rfl w
  have hc9 := conv_lit 62 62 rfl w
  have hc10 := conv_lit 33 33 rfl w
  have HB : Hid (∀ k : Int, Below w.heap.size w (w.alloc (.cells #[.int .u8 k] 5))) := Lib.hid fun k => (Below.refl _ _).alloc (Nat.le_refl _) _
  rcases mrk_ways c with rfl | rfl | rfl | rfl | rfl | rfl | rfl | rfl | rfl | rfl | rfl | h
  case inr.inr.inr.inr.inr.inr.inr.inr.inr.inr.inr =>
    have e : ∀ k : UInt8, mrk k = true → ((c.toNat : Int) == (k.toNat : Int)) = false := fun k hk => by
      rw [beq_eq_false_iff_ne]
      intro he
      have : c = k := UInt8.toNat_inj.1 (by omega)
      rw [this, hk] at h
      cases h
    have e1 : ((c.toNat : Int) == 123) = false := e 123 rfl
    have e2 : ((c.toNat : Int) == 125) = false := e 125 rfl
    have e3 : ((c.toNat : Int) == 40) = false := e 40 rfl
    have e4 : ((c.toNat : Int) == 41) = false := e 41 rfl
    have e5 : ((c.toNat : Int) == 46) = false := e 46 rfl
    have e6 : ((c.toNat : Int) == 44) = false := e 44 rfl
    have e7 : ((c.toNat : Int) == 59) = false := e 59 rfl
    have e8 : ((c.toNat : Int) == 61) = false := e 61 rfl
    have e9 : ((c.toNat : Int) == 60) = false := e 60 rfl
    have e10 : ((c.toNat : Int) == 62) = false := e 62 rfl
    have e11 : ((c.toNat : Int) == 33) = false := e 33 rfl
    have HH := Lib.hid h
    clear e h
    go_enter Tryd.func20, Tryd.ntmps20
    go_wp2_with fail
    go_ret2
    exact ⟨by unfold markV; rw [HH.out]; rfl, Below.refl _ _⟩
  all_goals
    go_enter Tryd.func20, Tryd.ntmps20
    go_wp2_with fail
    go_ret2
    exact ⟨rfl, HB.out _⟩
end Go.Proofs.YtpedfkigneahgaaDoor
