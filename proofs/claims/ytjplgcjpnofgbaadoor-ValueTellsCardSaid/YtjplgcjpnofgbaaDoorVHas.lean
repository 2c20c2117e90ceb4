/- Has: the project's and the reference's. -/
import Derived.Test.YtjplgcjpnofgbaaDoorVals
namespace Go.Proofs.YtjplgcjpnofgbaaDoor
set_option linter.unusedVariables false
open Go.RowKit Go.Sort

set_option maxHeartbeats 1600000 in
theorem vhas_any {w : World} {B n c : Nat} {A : Option Addr} {l : List Vl} (h : Vs w B A n c l) (hB : B ≤ w.heap.size) (k0 n0 : Int) (s0 : ByteArray) :
    Calls Tryd.prog 27 #[.slice A n c, .agg #[.int .i64 k0, .int .i64 n0, .string s0]] w fun e w' => e = .returned (.bool (hasB l ⟨k0, n0, s0⟩)) ∧ Below w.heap.size w w' := by
  have hlen := h.1
  have hcap := h.2.2.1
  have hle := h.2.1
  unfold maxLen at hcap
  have hb0 := Bx.made w k0 n0 s0
  have hvs : Vs (w.alloc (.cells #[.int .i64 k0, .int .i64 n0, .string s0] 26)) B A n c l := h.keep fun k hk => Below.heap_alloc w _ k (by omega)
  have hd : Below w.heap.size w (w.alloc (.cells #[.int .i64 k0, .int .i64 n0, .string s0] 26)) := (Below.refl _ _).alloc (Nat.le_refl _) _
  have hsz := size_al w (.cells #[.int .i64 k0, .int .i64 n0, .string s0] 26)
  have H0 := Lib.hid hb0
  have HV := Lib.hid hvs
  have HD := Lib.hid hd
  have HL := Lib.hid hlen
  clear h hb0 hvs hd hlen
  generalize hw1 : w.alloc (.cells #[.int .i64 k0, .int .i64 n0, .string s0] 26) = w1 at *
  have HW := Lib.hid hw1
  clear hw1
  go_enter Tryd.func27, Tryd.ntmps27
  go_wp2_with fail
  rw [HW.out]
  go_loopw [9] (fun i wr => ∃ k : Nat, k ≤ n ∧ i = .int .i64 k ∧ HasTo l ⟨k0, n0, s0⟩ k ∧ Below w1.heap.size w1 wr) (fun i _ => n - (intOf i).toNat)
  case atStart => exact ⟨0, Nat.zero_le _, rfl, fun j x _ hj => by omega, Below.refl _ _⟩
  case round =>
    obtain ⟨k, hk, rfl, ht, hb⟩ := hrel
    have HT := Lib.hid ht
    have HB := Lib.hid hb
    by_cases hlt : k < n
    · obtain ⟨b, o, x, rfl, hbB, hx, hok, x0, x1, x2⟩ := (HV.out.below (hb.mono (by omega))).at_ hlt
      obtain ⟨kx, nx, sx⟩ := x
      have y := (H0.out.then_ hb).c3
      have HX := Lib.hid hx
      have hlt2 : w.heap.size < wr.heap.size := by have := hb.size; omega
      have hve := val_eq kx nx k0 n0 sx s0
      clear ht hb hx hok
      cases he : veq ⟨kx, nx, sx⟩ ⟨k0, n0, s0⟩
      · rw [he] at hve
        have HE := Lib.hid he
        clear he
        go_wp2_with fail
        go_roundw
        case rel => exact ⟨k + 1, by omega, by go_num, HT.out.step HX.out HE.out, HB.out.alloc HB.out.size _⟩
        case measure => simp [intOf]; omega
      · rw [he] at hve
        have HE := Lib.hid he
        clear he
        go_wp2_with fail
        go_ret
        exact ⟨ret_bool (has_true HX.out HE.out).symm, (HD.out.trans (HB.out.mono (by omega))).alloc (by omega) _⟩
    · obtain rfl : k = n := by omega
      clear ht hb
      go_wp2_with fail
      go_ret
      exact ⟨ret_bool (HT.out.all HL.out).symm, HD.out.trans (HB.out.mono (by omega))⟩

set_option maxHeartbeats 1600000 in
theorem vrefhas_any {w : World} {B n c : Nat} {A : Option Addr} {l : List Vl} (h : Vs w B A n c l) (hB : B ≤ w.heap.size) (k0 n0 : Int) (s0 : ByteArray) :
    Calls Tryd.prog 28 #[.slice A n c, .agg #[.int .i64 k0, .int .i64 n0, .string s0]] w fun e w' => e = .returned (.bool (hasB l ⟨k0, n0, s0⟩)) ∧ Below w.heap.size w w' := by
  have hlen := h.1
  have hcap := h.2.2.1
  have hle := h.2.1
  unfold maxLen at hcap
  have hb0 := Bx.made w k0 n0 s0
  have hvs : Vs (w.alloc (.cells #[.int .i64 k0, .int .i64 n0, .string s0] 26)) B A n c l := h.keep fun k hk => Below.heap_alloc w _ k (by omega)
  have hd : Below w.heap.size w (w.alloc (.cells #[.int .i64 k0, .int .i64 n0, .string s0] 26)) := (Below.refl _ _).alloc (Nat.le_refl _) _
  have hsz := size_al w (.cells #[.int .i64 k0, .int .i64 n0, .string s0] 26)
  have H0 := Lib.hid hb0
  have HV := Lib.hid hvs
  have HD := Lib.hid hd
  have HL := Lib.hid hlen
  clear h hb0 hvs hd hlen
  generalize hw1 : w.alloc (.cells #[.int .i64 k0, .int .i64 n0, .string s0] 26) = w1 at *
  have HW := Lib.hid hw1
  clear hw1
  go_enter Tryd.func28, Tryd.ntmps28
  go_wp2_with fail
  rw [HW.out]
  go_loopw [9] (fun i wr => ∃ k : Nat, k ≤ n ∧ i = .int .i64 k ∧ HasTo l ⟨k0, n0, s0⟩ k ∧ Below w1.heap.size w1 wr) (fun i _ => n - (intOf i).toNat)
  case atStart => exact ⟨0, Nat.zero_le _, rfl, fun j x _ hj => by omega, Below.refl _ _⟩
  case round =>
    obtain ⟨k, hk, rfl, ht, hb⟩ := hrel
    have HT := Lib.hid ht
    have HB := Lib.hid hb
    by_cases hlt : k < n
    · obtain ⟨b, o, x, rfl, hbB, hx, hok, x0, x1, x2⟩ := (HV.out.below (hb.mono (by omega))).at_ hlt
      obtain ⟨kx, nx, sx⟩ := x
      have y := (H0.out.then_ hb).c3
      have HX := Lib.hid hx
      have hlt2 : w.heap.size < wr.heap.size := by have := hb.size; omega
      have hve := val_eq kx nx k0 n0 sx s0
      clear ht hb hx hok
      cases he : veq ⟨kx, nx, sx⟩ ⟨k0, n0, s0⟩
      · rw [he] at hve
        have HE := Lib.hid he
        clear he
        go_wp2_with fail
        go_roundw
        case rel => exact ⟨k + 1, by omega, by go_num, HT.out.step HX.out HE.out, HB.out.alloc HB.out.size _⟩
        case measure => simp [intOf]; omega
      · rw [he] at hve
        have HE := Lib.hid he
        clear he
        go_wp2_with fail
        go_ret
        exact ⟨ret_bool (has_true HX.out HE.out).symm, (HD.out.trans (HB.out.mono (by omega))).alloc (by omega) _⟩
    · obtain rfl : k = n := by omega
      clear ht hb
      go_wp2_with fail
      go_ret
      exact ⟨ret_bool (HT.out.all HL.out).symm, HD.out.trans (HB.out.mono (by omega))⟩

end Go.Proofs.YtjplgcjpnofgbaaDoor
