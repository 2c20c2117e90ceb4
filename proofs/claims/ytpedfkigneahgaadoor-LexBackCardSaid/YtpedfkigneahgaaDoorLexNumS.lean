/- above, number of package lex. -/
import Derived.Test.YtpedfkigneahgaaDoorLexNum
namespace Go.Proofs.YtpedfkigneahgaaDoor
set_option linter.unusedVariables false
open Go.RowKit

def nmV (o : Option Int) : Value := .tuple #[.int .i64 (o.getD 0), .bool o.isSome]
theorem numD_le {most n : Nat} {l : List UInt8} (h : decD most l = some n) : n ≤ most := by
  unfold decD at h
  split at h
  · cases h
  · rename_i hh
    cases h
    omega
set_option maxHeartbeats 800000 in
theorem above_any (s : ByteArray) (hs : s.size ≤ 1000000) (hd : AllD s.data.toList) (most : Nat) (hm : 9 ≤ most) (hm2 : most ≤ 9223372036854775807) (w : World) :
    Calls Tryd.prog 18 #[.string s, .int .i64 (most : Int)] w fun e w' => e = .returned (nmV ((decD most s.data.toList).map fun (n : Nat) => (n : Int))) ∧ w' = w := by
  have hb := below_any s hs hd most hm (by omega) w
  cases ho : decD most s.data.toList with
  | none =>
    rw [ho] at hb
    have HB : Hid (Calls Tryd.prog 27 #[.string s, .int .i64 (-(most : Int))] w fun e w' => e = .returned (.tuple #[.int .i64 0, .bool false]) ∧ w' = w) := hb
    clear hb ho hd
    go_enter Tryd.func18, Tryd.ntmps18
    go_wp2_with (go_at_call 27; refine HB.out.mono ?_; rintro e w' ⟨rfl, rfl⟩)
    go_ret2
    exact ⟨rfl, rfl⟩
  | some m =>
    rw [ho] at hb
    have hml := numD_le ho
    have HB : Hid (Calls Tryd.prog 27 #[.string s, .int .i64 (-(most : Int))] w fun e w' => e = .returned (.tuple #[.int .i64 (-(m : Int)), .bool true]) ∧ w' = w) := hb.mono fun e w' hh => ⟨by rw [hh.1]; unfold numP; simp, hh.2⟩
    clear hb ho hd
    go_enter Tryd.func18, Tryd.ntmps18
    go_wp2_with (go_at_call 27; refine HB.out.mono ?_; rintro e w' ⟨rfl, rfl⟩)
    go_ret2
    exact ⟨by first | rfl | (unfold nmV; exact ret_pair (int_eq (by simp)) rfl), rfl⟩

theorem ext_drop (s : ByteArray) (k : Nat) : (s.extract k s.size).data.toList = s.data.toList.drop k := by
  have : (s.data.toList).length = s.size := data_len s
  simp [ByteArray.data_extract, Array.toList_extract, List.extract]
  rw [List.take_of_length_le (by rw [List.length_drop, this]; exact Nat.le_refl _)]
theorem ext_mid (s : ByteArray) (a b : Nat) : (s.extract a b).data.toList = (s.data.toList.drop a).take (b - a) := by
  simp [ByteArray.data_extract, Array.toList_extract, List.extract]
theorem ext_size (s : ByteArray) {a b : Nat} (hb : b ≤ s.size) : (s.extract a b).size = b - a := by rw [ByteArray.size_extract]; omega

/-- number's answer: behind a '-', or not. -/
def numbA : List UInt8 → Option Int
  | [] => none
  | c :: r => if c = 45 then (decD 9223372036854775808 r).bind fun (n : Nat) => if n = 0 then none else some (-(n : Int)) else (decD 9223372036854775807 (c :: r)).map fun (n : Nat) => (n : Int)
set_option maxHeartbeats 800000 in
theorem number_any (s : ByteArray) (hs : s.size ≤ 1000000) {c : UInt8} {r : List UInt8} (hl : s.data.toList = c :: r) (hr : AllD r) (hc : c = 45 ∨ dgt c = true) (w : World) :
    Calls Tryd.prog 17 #[.string s] w fun e w' => e = .returned (nmV (numbA s.data.toList)) ∧ w' = w := by
  have h0 : 0 < s.size := by rw [← data_len s, hl]; simp
  have hc0 : s[0] = c := by
    have := data_at h0
    rw [hl] at this
    simp at this
    exact this.symm
  by_cases h45 : c = 45
  · have hb := below_any (s.extract 1 s.size) (by rw [ext_size _ (Nat.le_refl _)]; omega) (by rw [ext_drop, hl]; exact hr) 9223372036854775808 (by omega) (by omega) w
    rw [ext_drop, hl] at hb
    simp only [List.drop_succ_cons, List.drop_zero] at hb
    have HV : Hid (numbA s.data.toList = (decD 9223372036854775808 r).bind fun (n : Nat) => if n = 0 then none else some (-(n : Int))) := by show _ = _; rw [hl, numbA, if_pos h45]
    subst h45
    have e45 : (45 : UInt8).toNat = 45 := rfl
    cases ho : decD 9223372036854775808 r with
    | none =>
      rw [ho] at hb HV
      have HB : Hid (Calls Tryd.prog 27 #[.string (s.extract 1 s.size), .int .i64 (-9223372036854775808)] w fun e w' => e = .returned (.tuple #[.int .i64 0, .bool false]) ∧ w' = w) := hb
      clear hb ho hr hl hc
      go_enter Tryd.func17, Tryd.ntmps17
      go_wp2_with (go_at_call 27; refine HB.out.mono ?_; rintro e w' ⟨rfl, rfl⟩)
      go_ret2
      exact ⟨by rw [HV.out]; rfl, rfl⟩
    | some m =>
      rw [ho] at hb HV
      have hml := numD_le ho
      have HB : Hid (Calls Tryd.prog 27 #[.string (s.extract 1 s.size), .int .i64 (-9223372036854775808)] w fun e w' => e = .returned (.tuple #[.int .i64 (-(m : Int)), .bool true]) ∧ w' = w) := hb.mono fun e w' hh => ⟨by rw [hh.1]; unfold numP; simp, hh.2⟩
      clear hb ho hr hl hc
      by_cases hz : m = 0
      · subst hz
        have HB' : Hid (Calls Tryd.prog 27 #[.string (s.extract 1 s.size), .int .i64 (-9223372036854775808)] w fun e w' => e = .returned (.tuple #[.int .i64 0, .bool true]) ∧ w' = w) := HB
        go_enter Tryd.func17, Tryd.ntmps17
        go_wp2_with (go_at_call 27; refine HB'.out.mono ?_; rintro e w' ⟨rfl, rfl⟩)
        go_ret2
        exact ⟨by rw [HV.out]; rfl, rfl⟩
      · have hne : ((-(m : Int)) != 0) = true := by rw [bne_iff_ne]; omega
        have HZ := Lib.hid hz
        clear hz
        go_enter Tryd.func17, Tryd.ntmps17
        go_wp2_with (go_at_call 27; refine HB.out.mono ?_; rintro e w' ⟨rfl, rfl⟩)
        go_ret2
        exact ⟨by rw [HV.out, Option.bind_some, if_neg HZ.out]; rfl, rfl⟩
  · have hd : dgt c = true := hc.resolve_left h45
    have ha := above_any s hs (by rw [hl]; intro x hx; rcases List.mem_cons.1 hx with rfl | hx; exact hd; exact hr x hx) 9223372036854775807 (by omega) (by omega) w
    have HV : Hid (numbA s.data.toList = (decD 9223372036854775807 s.data.toList).map fun (n : Nat) => (n : Int)) := by show _ = _; rw [hl, numbA, if_neg h45]
    have hne : ((c.toNat : Int) == 45) = false := by
      rw [beq_eq_false_iff_ne]
      intro h
      exact h45 (UInt8.toNat_inj.1 (by have : (45 : UInt8).toNat = 45 := rfl; omega))
    rw [← HV.out] at ha
    have HA : Hid (Calls Tryd.prog 18 #[.string s, .int .i64 9223372036854775807] w fun e w' => e = .returned (nmV (numbA s.data.toList)) ∧ w' = w) := ha
    clear ha hd hl hr hc h45
    generalize numbA s.data.toList = o at *
    have HO : Hid (nmV o = .tuple #[.int .i64 (o.getD 0), .bool o.isSome]) := rfl
    generalize o.getD 0 = on at *
    generalize o.isSome = os at *
    rw [HO.out] at HA ⊢
    go_enter Tryd.func17, Tryd.ntmps17
    go_wp2_with (go_at_call 18; refine HA.out.mono ?_; rintro e w' ⟨rfl, rfl⟩)
    go_ret2
    exact ⟨rfl, rfl⟩
end Go.Proofs.YtpedfkigneahgaaDoor
