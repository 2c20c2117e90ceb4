/- bailiffref1.Num and Text once more: behind them, blocks that hold no bytes stand as they were. -/
import Derived.Test.YtjpkemamfccfdaaRefText
namespace Go.Proofs.Ytjpkemamfccfdaa
set_option linter.unusedVariables false
open Go.RowKit

/-- Known blocks of another type than E stand. -/
def KeepsT (E : TypeId) (w w' : World) : Prop := ∀ g t cs, t ≠ E → Ob w g t cs → Ob w' g t cs
abbrev RKeeps (w w' : World) : Prop := KeepsT 5 w w'
theorem KeepsT.refl {E : TypeId} (w : World) : KeepsT E w w := fun _ _ _ _ h => h
theorem RKeeps.refl (w : World) : RKeeps w w := KeepsT.refl w
theorem KeepsT.trans {E : TypeId} {w w' w'' : World} (h : KeepsT E w w') (k : KeepsT E w' w'') : KeepsT E w w'' := fun g t cs ht ho => k g t cs ht (h g t cs ht ho)
theorem KeepsT.alloc {E : TypeId} (w : World) (o : Obj) : KeepsT E w (w.alloc o) := fun g t cs _ h => h.keep (Below.heap_alloc w o g h.lt)
theorem KeepsT.of_below {E : TypeId} {w w' : World} (h : Below w.heap.size w w') : KeepsT E w w' := fun g t cs _ ho => ho.below h ho.lt
theorem keeps_own {w w' : World} {base n size : Nat} {E : TypeId} {v : Value} {xs : List Value} (h : w.ownsRow base E size v n xs) (hg : w.grownBy w' v.ownBlock) : KeepsT E w w' := fun g t cs ht ho => by
  refine ho.keep (hg.block g ho.lt fun e => ?_)
  rcases h.2 with ⟨rfl, _⟩ | ⟨g', cap, cur, rfl, _, hb, _⟩
  · simp [Value.ownBlock] at e
  · simp only [Value.ownBlock, Option.some.injEq] at e
    subst e
    unfold Ob at ho
    rw [hb] at ho
    injection ho with ho
    injection ho with _ h2 _
    exact ht h2.symm

section
variable {P : Program} {T E : TypeId} {i : TypeInfo}

/-- append(out, x) with one byte, out being the call's own row; the byte's block has just been made. -/
theorem append_oneK (ht : P.underlying T = some (.slice E)) (hi : P.info? E = some i) (hz : i.zero = some (.int .u8 0)) (hs : i.size = 1) (hb : i.bytes = 1)
    {w : World} {base n c ty : Nat} {A : Option Addr} {xs : List Value} (h : w.ownsRow base E 1 (.slice A n c) n xs) (hn : n ≤ 140737488355327) (hbase : base ≤ w.heap.size) (x : Int) :
    ∃ A' c' w', (Builtin.append_ #[T, T] ty #[.slice A n c, .slice (some ⟨w.heap.size, 0, none⟩) 1 1]).run P (w.alloc (.cells #[.int .u8 x] E)) = .ok (.slice A' (n + 1) c') w' ∧
      w'.ownsRow base E 1 (.slice A' (n + 1) c') (n + 1) (xs ++ [.int .u8 x]) ∧ Below base w w' ∧ KeepsT E w w' := by
  obtain ⟨v', w', hrun, h2, h3, h4⟩ := run_append_own (P := P) (w.alloc (.cells #[.int .u8 x] E)) base T ty E i (.int .u8 0) 1 1 ht hi hz hs hb rfl (by omega) (.slice A n c) n xs (h.alloc _)
    ⟨w.heap.size, 0, none⟩ 1 1 [.int .u8 x] rfl (by
      intro j u hu
      match j, hu with
      | 0, hu => simp at hu; subst hu; simp [Addr.add, World.cell?_alloc_at]
      | j + 1, hu => simp at hu) (by simp [one_byte]) (by unfold maxLen; omega) (by omega) (by simp; omega)
  have hform : ∃ A' c', v' = .slice A' (n + 1) c' := by
    rcases h2.2 with ⟨_, hz⟩ | ⟨g, cap, cur, hv, _⟩
    · omega
    · exact ⟨_, _, hv⟩
  obtain ⟨A', c', rfl⟩ := hform
  refine ⟨A', c', w', hrun, h2, ?_, (KeepsT.alloc _ _).trans (keeps_own (h.alloc _) h3)⟩
  refine ((Below.refl base w).alloc hbase _).grown h3 (by simp; omega) (fun k hk => ?_)
  exact (h.lt k hk).1

/-- append(out, s...) of a text. -/
theorem append_textK (ht : P.underlying T = some (.slice E)) (hi : P.info? E = some i) (hz : i.zero = some (.int .u8 0)) (hs : i.size = 1) (hb : i.bytes = 1) {S : TypeId} (hS : P.underlying S = some .string)
    {w : World} {base n c ty : Nat} {A : Option Addr} {xs : List Value} (h : w.ownsRow base E 1 (.slice A n c) n xs) (s : ByteArray) (hn : n + s.size ≤ 140737488355328) (hbase : base ≤ w.heap.size) :
    ∃ A' c' w', (Builtin.append_ #[T, S] ty #[.slice A n c, .string s]).run P w = .ok (.slice A' (n + s.size) c') w' ∧
      w'.ownsRow base E 1 (.slice A' (n + s.size) c') (n + s.size) (xs ++ bv s.data.toList) ∧ Below base w w' ∧ KeepsT E w w' := by
  obtain ⟨v', w', hrun, h2, h3, h4⟩ := Lib.run_append_own_string (P := P) w base T S ty E i ht hS hi hz hs hb (.slice A n c) n xs h s (by unfold maxLen; omega) (by omega) hbase
  have hform : ∃ A' c', v' = .slice A' (n + s.size) c' := by
    rcases h2.2 with ⟨hv, hz⟩ | ⟨g, cap, cur, hv, _⟩
    · exact ⟨_, _, by rw [hv, hz]⟩
    · exact ⟨_, _, hv⟩
  obtain ⟨A', c', rfl⟩ := hform
  refine ⟨A', c', w', hrun, ?_, (Below.refl base w).grown h3 hbase (fun k hk => (h.lt k hk).1), keeps_own h h3⟩
  have e : Lib.strCells s = bv s.data.toList := by simp [Lib.strCells, bv]
  rw [← e]; exact h2

end

def RefNumRelK (w : World) (base : Nat) (l all : List UInt8) (u out : Value) (wr : World) : Prop :=
  ∃ (m n c : Nat) (A : Option Addr) (done : List UInt8), u = .int .u64 (m : Int) ∧ out = .slice A n c ∧ wr.ownsRow base 5 1 (.slice A n c) n (bv (l ++ done)) ∧ done ++ enc m = all ∧ Below base w wr ∧ RKeeps w wr

set_option maxHeartbeats 1600000 in
set_option maxRecDepth 20000 in
theorem refnum_keep {w : World} {base n c : Nat} {A : Option Addr} {l : List UInt8} {k : Int} (h : w.ownsRow base 5 1 (.slice A n c) n (bv l)) (hB : base ≤ w.heap.size) (hn : n ≤ 70368744177664) (hk1 : -9223372036854775808 ≤ k) (hk2 : k ≤ 9223372036854775807) :
    Calls Try.prog 51 #[.slice A n c, .int .i64 k] w fun e w' => ∃ A' n' c', e = .returned (.slice A' n' c') ∧ w'.ownsRow base 5 1 (.slice A' n' c') n' (bv (l ++ numB k)) ∧ Below base w w' ∧ RKeeps w w' := by
  obtain ⟨i, hi, hz0, hz1, hz2⟩ := info_parts u8info
  have hlen : l.length = n := by have := h.1; rw [bv_len] at this; omega
  have hstart : RefNumRelK w base l (numB k) (.int .u64 (zig k : Nat)) (.slice A n c) w := ⟨zig k, n, c, _, [], rfl, rfl, by simpa using h, rfl, Below.refl _ _, RKeeps.refl _⟩
  have HS := Lib.hid hstart
  have HL := Lib.hid hlen
  clear h hlen hstart
  have H10 := Lib.hid (numB_len hk1 hk2)
  by_cases hneg : k < 0
  case' neg => have HU : Hid (k * 2 = (zig k : Int)) := by show _ = _; unfold zig; rw [if_neg hneg]; omega
  case' pos => obtain ⟨ku, ku2, hw1, hw2, hw3⟩ := zig_ref hk1 hneg
  all_goals
    go_enter Try.func51, Try.ntmps51
    go_wp2_with fail
    go_loopw [0, 5] (fun out u wr => RefNumRelK w base l (numB k) u out wr) (fun _ u _ => (intOf u).toNat)
    case atStart =>
      first | exact HS.out | (rw [HU.out]; exact HS.out)
    case round =>
      obtain ⟨m, n1, c1, A1, done, rfl, rfl, hown, hdone, hbel, hkeep⟩ := hrel
      have HD := Lib.hid hdone
      have hl1 : n1 = l.length + done.length := by have := hown.1; simp [bv_len] at this; omega
      have hd10 : done.length + (enc m).length ≤ 10 := by rw [← List.length_append, HD.out]; exact H10.out
      have hp := enc_pos m
      have hlb : l.length = n := HL.out
      have hnb : n1 ≤ 140737488355327 := by omega
      clear hdone hl1 hd10 hp hlb
      have hm0 : 0 ≤ (m : Int) := by omega
      have hwrap : IntKind.u8.wrap (m : Int) = (m : Int) % 256 := IntKind.wrap_u8' _
      by_cases hbig : 128 ≤ m
      · have hor : bits .or .u8 ((m : Int) % 256) 128 = (m : Int) % 128 + 128 := by rw [u8_or128 (by omega) (by omega)]; omega
        obtain ⟨A2, c2, w2, hap, hown2, hbel2, hkeep2⟩ := append_oneK (P := Try.prog) (ty := 61) Try.underlying61 hi hz0 hz1 hz2 hown hnb (Nat.le_trans hB hbel.size) ((m : Int) % 128 + 128)
        have HO2 := Lib.hid hown2
        have HAP := Lib.hid hap
        clear hown hnb hown2 hap
        go_wp2_with (at_builtin; refine wpList_append_run rfl _ _ _ _ rfl rfl rfl HAP.out ?_)
        go_roundw
        case rel =>
          refine ⟨m / 128, n1 + 1, c2, A2, done ++ [UInt8.ofNat (m % 128 + 128)], by go_num, rfl, ?_, ?_, hbel.trans hbel2, hkeep.trans hkeep2⟩
          · have e := HO2.out
            rw [← List.append_assoc, bv_app]
            have e2 : bv [UInt8.ofNat (m % 128 + 128)] = [.int .u8 ((m : Int) % 128 + 128)] := by
              simp only [bv, List.map_cons, List.map_nil, ofNat_toNat (show m % 128 + 128 < 256 by omega)]
              simp
            rw [e2]; exact e
          · rw [List.append_assoc, List.singleton_append, ← enc_big hbig]; exact HD.out
        case measure => simp [intOf]; omega
      · obtain ⟨A2, c2, w2, hap, hown2, hbel2, hkeep2⟩ := append_oneK (P := Try.prog) (ty := 61) Try.underlying61 hi hz0 hz1 hz2 hown hnb (Nat.le_trans hB hbel.size) ((m : Int) % 256)
        have HO2 := Lib.hid hown2
        have HAP := Lib.hid hap
        clear hown hnb hown2 hap
        go_wp2_with (at_builtin; refine wpList_append_run rfl _ _ _ _ rfl rfl rfl HAP.out ?_)
        go_ret
        refine ⟨A2, n1 + 1, c2, rfl, ?_, hbel.trans hbel2, hkeep.trans hkeep2⟩
        have e := HO2.out
        rw [← HD.out, enc_small (by omega), ← List.append_assoc, bv_app]
        have e2 : bv [UInt8.ofNat m] = [.int .u8 ((m : Int) % 256)] := by
          simp only [bv, List.map_cons, List.map_nil, ofNat_toNat (show m < 256 by omega)]
          rw [show (m : Int) % 256 = (m : Int) from by omega]
        rw [e2]; exact e

set_option maxHeartbeats 800000 in
theorem reftext_keep {w : World} {base n c : Nat} {A : Option Addr} {l : List UInt8} {s : ByteArray} (h : w.ownsRow base 5 1 (.slice A n c) n (bv l)) (hB : base ≤ w.heap.size) (hn : n ≤ 70368744177664) (hs : s.size ≤ 35184372088832) :
    Calls Try.prog 52 #[.slice A n c, .string s] w fun e w' => ∃ A' n' c', e = .returned (.slice A' n' c') ∧ w'.ownsRow base 5 1 (.slice A' n' c') n' (bv (l ++ textB s.data.toList)) ∧ Below base w w' ∧ RKeeps w w' := by
  obtain ⟨i, hi, hz0, hz1, hz2⟩ := info_parts u8info
  have hc := refnum_keep (k := (s.size : Int)) h hB hn (by omega) (by omega)
  have hlen : l.length = n := by have := h.1; rw [bv_len] at this; omega
  have HC := Lib.hid hc
  have HL := Lib.hid hlen
  clear hc hlen h
  go_enter Try.func52, Try.ntmps52
  go_wp2_with fail
  refine HC.out.mono ?_
  rintro e w1 ⟨A1, n1, c1, rfl, hown, hbel, hkeep⟩
  have hn1 : n1 = n + (numB (s.size : Int)).length := by have := hown.1; have e := HL.out; simp [bv_len] at this; omega
  have hnl := numB_len (n := (s.size : Int)) (by omega) (by omega)
  obtain ⟨A2, c2, w2, hap, hown2, hbel2, hkeep2⟩ := append_textK (P := Try.prog) (ty := 61) Try.underlying61 hi hz0 hz1 hz2 Try.underlying9 hown s (by omega) (Nat.le_trans hB hbel.size)
  have HO := Lib.hid hown2
  have HAP := Lib.hid hap
  clear hown hown2 hap hn1 hnl
  go_wp2_with (at_builtin; refine wpList_append_run rfl _ _ _ _ rfl rfl rfl HAP.out ?_)
  go_ret
  refine ⟨A2, _, c2, rfl, ?_, hbel.trans hbel2, hkeep.trans hkeep2⟩
  have e := HO.out
  rw [textB, ← List.append_assoc, bv_app]
  have e2 : (s.data.toList.length : Int) = (s.size : Int) := by rw [Array.length_toList]; rfl
  rw [e2]
  exact e
end Go.Proofs.Ytjpkemamfccfdaa
