/- PolicyDeep's closure: the name of a number. -/
import Derived.Test.YtincnopaclmppaaPolDeepM
import Derived.Test.YtincnopaclmppaaConvText
namespace Go.Proofs.Ytincnopaclmppaa
set_option linter.unusedVariables false
open Go.RowKit

set_option maxRecDepth 100000 in
set_option maxHeartbeats 800000 in
theorem dname_any (i : Nat) (hi : i < 100) (w : World) :
    Calls Try.prog 9 #[.int .i64 (i : Int)] w fun e w' => e = .returned (.string (nmD i)) ∧ Below w.heap.size w w' := by
  have h1 : IntKind.u8.wrap (97 + (i : Int) / 26) = 97 + (i : Int) / 26 := by rw [IntKind.wrap_u8]; omega
  have h2 : IntKind.u8.wrap (97 + (i : Int) % 26) = 97 + (i : Int) % 26 := by rw [IntKind.wrap_u8]; omega
  obtain ⟨a, ha⟩ : ∃ a, UInt8.ofNat (97 + i / 26) = a := ⟨_, rfl⟩
  obtain ⟨b, hb⟩ : ∃ b, UInt8.ofNat (97 + i % 26) = b := ⟨_, rfl⟩
  have e1 : (97 + (i : Int) / 26) = (a.toNat : Int) := by rw [← ha]; rw [UInt8.toNat_ofNat']; omega
  have e2 : (97 + (i : Int) % 26) = (b.toNat : Int) := by rw [← hb]; rw [UInt8.toNat_ofNat']; omega
  have hs : Sl (w.alloc (.cells #[.int .u8 (97 + (i : Int) / 26), .int .u8 (97 + (i : Int) % 26)] 5)) (w.heap.size + 1) (some ⟨w.heap.size, 0, none⟩) 2 2 (bv [a, b]) := by
    have := Sl.lit w 5 (bv [a, b]) 2 rfl (by simp [maxLen])
    rw [e1, e2]
    exact this
  have kc := conv_text (src := 22) (dst := 9) Try.underlying22 Try.underlying5 Try.underlying9 hs
  have HN : Hid (nmD i = (⟨#[112]⟩ : ByteArray) ++ ⟨[a, b].toArray⟩) := by show _ = _; rw [← ha, ← hb]; rfl
  clear e1 e2 hs ha hb
  go_enter Try.func9, Try.ntmps9
  go_wp2_with fail
  go_ret
  exact ⟨by rw [HN.out]; rfl, (Below.refl _ _).alloc (Nat.le_refl _) _⟩
end Go.Proofs.Ytincnopaclmppaa
