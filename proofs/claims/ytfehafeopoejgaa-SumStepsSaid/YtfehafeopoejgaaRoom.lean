/- bailiffbook.Roomy and Intact over bytes. -/
import Derived.Test.YtfehafeopoejgaaMake
import Derived.Test.YtfehafeopoejgaaSame
namespace Go.Proofs.Ytfehafeopoejgaa
set_option linter.unusedVariables false
open Go.RowKit

/-- copy(to, from): 'to' is a known block, no shorter than 'from'. -/
theorem copy_into {P : Program} {T E : TypeId} {i : TypeInfo} (ht : P.underlying T = some (.slice E)) (hi : P.info? E = some i) (hs : i.size = 1)
    {w : World} {B g n d m c ty : Nat} {A : Option Addr} {xs : List Value} {cur : Array Value} {t : TypeId} (hg : Ob w g t cur) (h : Sl w B A n c xs) (hd : n ≤ d) (hn : n ≤ cur.size) (h1 : ∀ v ∈ xs, v.oneCell' = true) :
    ∃ w', (Builtin.copy_ #[T, T] ty #[.slice (some ⟨g, 0, none⟩) d m, .slice A n c]).run P w = .ok (.int .i64 (n : Int)) w' ∧ Ob w' g t (xs ++ cur.toList.drop n).toArray ∧ w'.heap.size = w.heap.size ∧ Only g w w' := by
  have hlen := h.len
  have hsz : (P.info? E).map (·.size) = some 1 := by rw [hi]; simp [hs]
  have hmin : Nat.min n d = n := Nat.min_eq_left hd
  by_cases h0 : n = 0
  · subst h0
    obtain rfl : xs = [] := List.eq_nil_of_length_eq_zero hlen
    refine ⟨w, run_copy_none (P := P) w T T ty E _ A d m 0 c ht hsz hmin, by simpa using hg, rfl, Only.refl⟩
  · obtain ⟨b, o, e, hb, hc⟩ : ∃ b o, A = some ⟨b, o, none⟩ ∧ b < B ∧ ∀ j u, xs[j]? = some u → w.cell? ⟨b, o + j, none⟩ = some u := h.2.2.2.resolve_left h0
    subst e
    have hr := run_copy_row (P := P) w T T ty E g 0 d m ⟨b, o, none⟩ n c cur t xs ht hsz hg (by rw [hlen, hmin]) (fun j v hj => by
      have := hc j v hj
      by_cases hj0 : j = 0
      · subst hj0; simpa [Addr.add] using this
      · simpa [Addr.add, hj0] using this) (by omega) h1
    refine ⟨w.setRow g (cur.toList.take 0 ++ (xs ++ cur.toList.drop (0 + xs.length))).toArray, by rw [hr]; simp [goInt, hlen], ?_, by simp [World.setRow], ⟨rfl, rfl, rfl, by simp [World.setRow], fun k hk hne => setRow_other w g k _ (fun e => hne (by rw [e]))⟩⟩
    have := setRow_heap w g cur (cur.toList.take 0 ++ (xs ++ cur.toList.drop (0 + xs.length))).toArray t _ hg
    unfold Ob
    rw [this, hlen]
    simp

/-- The cells of Roomy's row when the places up to k have been written. -/
def roomCells (l : List UInt8) (n k : Nat) (x : Int) : Array Value := (bv l ++ List.replicate (k - n) (Value.int .u8 x) ++ List.replicate (n + 80 - k) (Value.int .u8 0)).toArray

theorem room_step {l : List UInt8} {n k : Nat} {x : Int} (hl : l.length = n) (h1 : n ≤ k) (h2 : k < n + 80) : (roomCells l n k x).setIfInBounds k (.int .u8 x) = roomCells l n (k + 1) x := by
  unfold roomCells
  rw [List.setIfInBounds_toArray]
  congr 1
  have e1 : n + 80 - k = (n + 80 - (k + 1)) + 1 := by omega
  have e2 : k + 1 - n = (k - n) + 1 := by omega
  rw [e1, e2, List.replicate_succ, List.replicate_succ', List.set_append_right _ _ (by simp [bv_len, hl]; omega)]
  have e3 : k - (bv l ++ List.replicate (k - n) (Value.int .u8 x)).length = 0 := by simp [bv_len, hl]; omega
  rw [e3]
  simp
theorem room_get {l : List UInt8} {n k : Nat} {x : Int} (hl : l.length = n) (h1 : n ≤ k) (h2 : k < n + 80) : (roomCells l n k x)[k]? = some (.int .u8 0) := by
  unfold roomCells
  have e1 : n + 80 - k = (n + 80 - (k + 1)) + 1 := by omega
  rw [List.getElem?_toArray, List.getElem?_append_right (by simp [bv_len, hl]; omega)]
  have e3 : k - (bv l ++ List.replicate (k - n) (Value.int .u8 x)).length = 0 := by simp [bv_len, hl]; omega
  rw [e3, e1, List.replicate_succ]
  rfl
theorem room_end {l : List UInt8} {n : Nat} {x : UInt8} : roomCells l n (n + 80) (x.toNat : Int) = (bv (l ++ List.replicate 80 x)).toArray := by
  unfold roomCells
  rw [bv_app]
  simp [bv]

def RoomRel (w : World) (l : List UInt8) (n : Nat) (x : Int) (i : Value) (wr : World) : Prop :=
  ∃ k : Nat, i = .int .i64 (k : Int) ∧ n ≤ k ∧ k ≤ n + 80 ∧ Ob wr w.heap.size 5 (roomCells l n k x) ∧ Below w.heap.size w wr

set_option maxHeartbeats 1600000 in
theorem roomy_any {w : World} {B n c : Nat} {A : Option Addr} {l : List UInt8} {x : UInt8} {m : Int} (hm : (x.toNat : Int) = m) (h : Sl w B A n c (bv l)) (hB : B ≤ w.heap.size) (hn : n ≤ 70368744177664) :
    Calls Try.prog 9 #[.slice A n c, .int .u8 m] w fun e w' => e = .returned (.slice (some ⟨w.heap.size, 0, none⟩) (n + 80) (n + 80)) ∧ Ob w' w.heap.size 5 (bv (l ++ List.replicate 80 x)).toArray ∧ Below w.heap.size w w' := by
  obtain ⟨i, hi, hz0, hz1, hz2⟩ := info_parts u8info
  have hmk := make_bytes (n + 80) (n + 80) (by omega) (by omega)
  simp only [Int.natCast_add, Int.cast_ofNat_Int] at hmk
  have hob := Ob.made w 5 (List.replicate (n + 80) (Value.int .u8 0)).toArray
  have hsl : Sl (w.alloc (.cells (List.replicate (n + 80) (Value.int .u8 0)).toArray 5)) B A n c (bv l) := h.keep fun k hk => Below.heap_alloc w _ k (by omega)
  obtain ⟨w1, hcp, hob1, hz, honly⟩ := copy_into (P := Try.prog) (ty := 3) (m := n + 80) (d := n + 80) Try.underlying24 hi hz1 hob hsl (by omega) (by simp) one_bv
  have hlen : l.length = n := by rw [← bv_len]; exact h.len
  have hbel : Below w.heap.size w w1 := ((Below.refl _ w).alloc (Nat.le_refl _) _).trans (honly.below (by simp) (Nat.le_refl _))
  have hstart : RoomRel w l n m (.int .i64 (n : Int)) w1 := by
    refine ⟨n, rfl, Nat.le_refl _, by omega, ?_, hbel⟩
    have e : roomCells l n n m = (bv l ++ (List.replicate (n + 80) (Value.int .u8 0)).toArray.toList.drop n).toArray := by
      unfold roomCells
      simp
    rw [e]; exact hob1
  have HS := Lib.hid hstart
  have HL := Lib.hid hlen
  have HM := Lib.hid hm
  simp only [List.toArray_replicate] at hcp
  clear h hob hsl hob1 hz honly hlen hbel hstart hm
  go_enter Try.func9, Try.ntmps9
  go_wp2_with fail
  go_loopw [6] (fun i wr => RoomRel w l n m i wr) (fun i _ => n + 80 - (intOf i).toNat)
  case atStart => exact HS.out
  case round =>
    obtain ⟨k, rfl, k1, k2, ho, hb⟩ := hrel
    have HO := Lib.hid ho
    have HB := Lib.hid hb
    by_cases hlt : k < n + 80
    · have hcell := (ho.cell k).trans (room_get HL.out k1 hlt)
      have hfr := ho.frozen k
      clear ho hb
      go_wp2_with fail
      go_roundw
      case rel =>
        refine ⟨k + 1, by go_num, by omega, by omega, ?_, HB.out.setCell (p := ⟨w.heap.size, k, none⟩) (Nat.le_refl _) _⟩
        rw [← room_step HL.out k1 hlt]
        exact HO.out.put k _
      case measure => simp [intOf]; omega
    · obtain rfl : k = n + 80 := by omega
      clear ho hb
      go_wp2_with fail
      go_ret
      refine ⟨rfl, ?_, HB.out⟩
      rw [← room_end (n := n), HM.out]
      exact HO.out

set_option maxHeartbeats 1600000 in
theorem intact_any {w : World} {B B' n c c' : Nat} {A A' : Option Addr} {l : List UInt8} {x : UInt8} {m : Int} (hm : (x.toNat : Int) = m) (h : Sl w B A (n + 80) c (bv (l ++ List.replicate 80 x))) (h' : Sl w B' A' n c' (bv l)) (hn : n ≤ 70368744177664) :
    Calls Try.prog 13 #[.slice A (n + 80) c, .slice A' n c', .int .u8 m] w fun e w' => e = .returned (.bool true) ∧ Below w.heap.size w w' := by
  have hlen : l.length = n := by rw [← bv_len]; exact h'.len
  have hcn := h.le
  have hcap := h.cap
  unfold maxLen at hcap
  have ht : Sl w B A n c (bv l) := by
    have := h.take (k := n) (by omega)
    rwa [← bv_take, List.take_left' hlen] at this
  have hsame := same_any ht h'
  have e0 : decide (l = l) = true := by simp
  rw [e0] at hsame
  have H := Lib.hid h
  have HL := Lib.hid hlen
  have HM := Lib.hid hm
  have HSAME := Lib.hid hsame
  clear h h' ht hsame hlen hm
  go_enter Try.func13, Try.ntmps13
  go_wp2_with fail
  refine HSAME.out.mono ?_
  rintro e w1 ⟨rfl, q, rfl⟩
  go_wp2_with fail
  go_loop [7] (fun i => ∃ k : Nat, i = .int .i64 (k : Int) ∧ n ≤ k ∧ k ≤ n + 80) (fun i => n + 80 - (intOf i).toNat)
  case atStart => exact ⟨n, rfl, Nat.le_refl _, by omega⟩
  case round =>
    obtain ⟨k, rfl, k1, k2⟩ := hrel
    by_cases hlt : k < n + 80
    · obtain ⟨b, o, rfl, _, hl, hc⟩ := H.out.byte hlt
      have hx : (l ++ List.replicate 80 x)[k] = x := by
        rw [List.getElem_append_right (by have := HL.out; omega), List.getElem_replicate]
      rw [hx, HM.out] at hc
      have HX := Lib.hid hx
      clear hx
      go_wp2_with fail
      go_round
      case rel => exact ⟨k + 1, by go_num, by omega, by omega⟩
      case measure => simp [intOf]; omega
    · obtain rfl : k = n + 80 := by omega
      go_wp2_with fail
      go_ret
      exact ⟨rfl, below_drewN (Below.refl _ _) q⟩

end Go.Proofs.Ytfehafeopoejgaa
