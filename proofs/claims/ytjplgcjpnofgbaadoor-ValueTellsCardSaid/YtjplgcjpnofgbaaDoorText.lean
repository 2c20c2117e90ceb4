/- pack.Text and pack.Read. -/
import Derived.Test.YtjplgcjpnofgbaaDoorNum
namespace Go.Proofs.YtjplgcjpnofgbaaDoor
open Go.RowKit

/-- The bytes of a text. -/
def textB (s : List UInt8) : List UInt8 := numB (s.length : Int) ++ s

set_option maxHeartbeats 800000 in
theorem text_any {w : World} {B n c : Nat} {A : Option Addr} {l : List UInt8} {s : ByteArray} (h : Sl w B A n c (bv l)) (hB : B ≤ w.heap.size) (hn : n ≤ 70368744177664) (hs : s.size ≤ 35184372088832) :
    Calls Tryd.prog 42 #[.slice A n c, .string s] w fun e w' => ∃ A' n' c', e = .returned (.slice A' n' c') ∧ w'.ownsRow w.heap.size 5 1 (.slice A' n' c') n' (bv (l ++ textB s.data.toList)) ∧ Below w.heap.size w w' := by
  obtain ⟨i, hi, hz0, hz1, hz2⟩ := info_parts u8info
  have hc := num_any (k := (s.size : Int)) h hB hn (by omega) (by omega)
  have hlen := h.len
  rw [bv_len] at hlen
  have HC := Lib.hid hc
  have HL := Lib.hid hlen
  clear hc hlen h
  go_enter Tryd.func42, Tryd.ntmps42
  go_wp2_with fail
  refine HC.out.mono ?_
  rintro e w1 ⟨A1, n1, c1, rfl, hown, hbel⟩
  have hn1 : n1 = n + (numB (s.size : Int)).length := by have := hown.1; have e := HL.out; simp [bv_len] at this; omega
  have hnl := numB_len (n := (s.size : Int)) (by omega) (by omega)
  obtain ⟨A2, c2, w2, hap, hown2, hbel2⟩ := append_text (P := Tryd.prog) (ty := 37) Tryd.underlying37 hi hz0 hz1 hz2 Tryd.underlying9 hown s (by omega) hbel.size
  have HO := Lib.hid hown2
  have HAP := Lib.hid hap
  clear hown hown2 hap hn1 hnl
  go_wp2_with (at_builtin; refine wpList_append_run rfl _ _ _ _ rfl rfl rfl HAP.out ?_)
  go_ret
  refine ⟨A2, _, c2, rfl, ?_, hbel.trans hbel2⟩
  have e := HO.out
  rw [textB, ← List.append_assoc, bv_app]
  have e2 : (s.data.toList.length : Int) = (s.size : Int) := by rw [Array.length_toList]; rfl
  rw [e2]
  exact e

theorem num_nil (w : World) (k : Int) (hk1 : -9223372036854775808 ≤ k) (hk2 : k ≤ 9223372036854775807) :
    Calls Tryd.prog 41 #[.slice none 0 0, .int .i64 k] w fun e w' => ∃ A n c, e = .returned (.slice A n c) ∧ w'.ownsRow w.heap.size 5 1 (.slice A n c) n (bv (numB k)) ∧ Below w.heap.size w w' :=
  num_any (l := []) (Sl.nil_ w 0) (by omega) (by omega) hk1 hk2
theorem text_nil (w : World) (s : ByteArray) (hs : s.size ≤ 35184372088832) :
    Calls Tryd.prog 42 #[.slice none 0 0, .string s] w fun e w' => ∃ A n c, e = .returned (.slice A n c) ∧ w'.ownsRow w.heap.size 5 1 (.slice A n c) n (bv (textB s.data.toList)) ∧ Below w.heap.size w w' :=
  text_any (l := []) (Sl.nil_ w 0) (by omega) (by omega) hs

/-- A reader: its bytes, its place, what is wrong; it and its bytes lie from block lo on. -/
def Rdr (w : World) (t : TypeId) (lo r : Nat) (l : List UInt8) (p : Nat) (wrong : Int) : Prop :=
  ∃ A n c, Ob w r t #[.slice A n c, .int .i64 (p : Int), .int .i64 wrong] ∧ Sl w r A n c (bv l) ∧ p ≤ n ∧ n ≤ 70368744177664 ∧ lo ≤ r ∧ ∀ ad, A = some ad → lo ≤ ad.block

section
variable {w w' : World} {t : TypeId} {bs r : Nat} {l : List UInt8} {p : Nat} {q : Int}
theorem Rdr.lt (h : Rdr w t bs r l p q) : r < w.heap.size := by
  obtain ⟨A, n, c, h, _⟩ := h
  exact h.lt
theorem Rdr.keep (h : Rdr w t bs r l p q) (hk : ∀ k, bs ≤ k → k ≤ r → w'.heap[k]? = w.heap[k]?) : Rdr w' t bs r l p q := by
  obtain ⟨A, n, c, h, hs, hp, hn, hlo, had⟩ := h
  exact ⟨A, n, c, h.keep (hk r hlo (Nat.le_refl _)), hs.keep_from had (fun k h1 h2 => hk k h1 (by omega)), hp, hn, hlo, had⟩
theorem Rdr.only {s : Nat} (h : Rdr w t bs r l p q) (ho : Only s w w') (hs : r < s ∨ s < bs) : Rdr w' t bs r l p q :=
  h.keep fun k h1 h2 => ho.heap (by have := h.lt; omega) (by omega)
theorem Rdr.below {B : Nat} (h : Rdr w t bs r l p q) (ho : Below B w w') (hs : r < B) : Rdr w' t bs r l p q :=
  h.keep fun k _ hk => ho.block k (by omega)
theorem Rdr.then_ (h : Rdr w t bs r l p q) (ho : Below w.heap.size w w') : Rdr w' t bs r l p q := h.below ho h.lt
end

set_option maxHeartbeats 800000 in
theorem read_any {w : World} {B n c : Nat} {A : Option Addr} {l : List UInt8} (h : Sl w B A n c (bv l)) (hn : n ≤ 70368744177664) :
    Calls Tryd.prog 30 #[.slice A n c] w fun e w' => ∃ r, e = .returned (.pointer (some ⟨r, 0, none⟩)) ∧ Rdr w' 67 w.heap.size r l 0 0 ∧ Below w.heap.size w w' := by
  obtain ⟨i, hi, hz0, hz1, hz2⟩ := info_parts u8info
  obtain ⟨A2, c2, w2, hap, hown2, hbel2⟩ := append_row (P := Tryd.prog) (ty := 37) (c := 0) Tryd.underlying37 hi hz0 hz1 hz2 (World.ownsRow_nil w w.heap.size 5 1) h one_bv (by omega) (Nat.le_refl _)
  have hsl := Sl.of_own hown2
  have HAD := Lib.hid (own_from hown2 rfl)
  simp only [Nat.zero_add, List.nil_append] at hap hsl
  have HSL := Lib.hid hsl
  have HAP := Lib.hid hap
  clear hown2 hsl hap h
  go_enter Tryd.func30, Tryd.ntmps30
  go_wp2_with (at_builtin; refine wpList_append_run rfl _ _ _ _ rfl rfl rfl HAP.out ?_)
  go_ret
  refine ⟨w2.heap.size, rfl, ⟨A2, n, c2, Ob.made _ _ _, HSL.out.keep (fun k hk => Below.heap_alloc _ _ k hk), Nat.zero_le _, hn, hbel2.size, HAD.out⟩, hbel2.alloc hbel2.size _⟩
end Go.Proofs.YtjplgcjpnofgbaaDoor
