/- bailiffbook.Roomy and Intact over values. -/
import Derived.Test.YtjplgcjpnofgbaaDoorVApp
import Derived.Test.YtjplgcjpnofgbaaDoorVSame
import Derived.Test.YtjplgcjpnofgbaaDoorMake
namespace Go.Proofs.YtjplgcjpnofgbaaDoor
set_option linter.unusedVariables false
open Go.RowKit

def v0 : Vl := ⟨0, 0, ⟨#[]⟩⟩
theorem madeVals (c : Nat) : madeCells (Value.agg #[.int .i64 0, .int .i64 0, .string ⟨#[]⟩]).cells (c * 3) = (cells3 (List.replicate c v0)).toArray := by
  apply Array.ext
  · simp [madeCells, cells3_len]
  · intro i h1 h2
    have hi : i < c * 3 := by rw [size_madeCells] at h1; exact h1
    have hj : (List.replicate c v0)[i / 3]? = some v0 := by rw [List.getElem?_replicate, if_pos (by omega)]
    obtain ⟨a0, a1, a2⟩ := cells3_at hj
    have e : (cells3 (List.replicate c v0)).toArray[i]? = some (cells3 (List.replicate c v0)).toArray[i] := Array.getElem?_eq_getElem h2
    rw [List.getElem?_toArray] at e
    have hm : i % 3 = 0 ∧ i = i / 3 * 3 ∨ i % 3 = 1 ∧ i = i / 3 * 3 + 1 ∨ i % 3 = 2 ∧ i = i / 3 * 3 + 2 := by omega
    have hL : (madeCells (Value.agg #[.int .i64 0, .int .i64 0, .string ⟨#[]⟩]).cells (c * 3))[i] = (#[Value.int .i64 0, .int .i64 0, .string ⟨#[]⟩] : Array Value)[i % 3]! := by
      simp [madeCells, Value.cells]
    rw [hL]
    rcases hm with ⟨h3, h4⟩ | ⟨h3, h4⟩ | ⟨h3, h4⟩
    · rw [← h4] at a0; rw [h3]; exact Option.some.inj (a0.symm.trans e)
    · rw [← h4] at a1; rw [h3]; exact Option.some.inj (a1.symm.trans e)
    · rw [← h4] at a2; rw [h3]; exact Option.some.inj (a2.symm.trans e)

theorem make_vals (n : Nat) (h : n ≤ 1000000) (W : World) :
    (Instr.makeSlice 30 (.int .i64 (n : Int)) (.int .i64 (n : Int))).run Tryd.prog W = .ok (.slice (some ⟨W.heap.size, 0, none⟩) n n) (W.alloc (.cells (cells3 (List.replicate n v0)).toArray 26)) := by
  obtain ⟨i, hi, hz, hs, hb⟩ := val_parts
  have hr := run_make (P := Tryd.prog) W 30 26 i _ Tryd.underlying30 hi hz .i64 .i64 n n (by omega) (by omega) (by rw [hb]; omega) (by omega)
  rw [hs] at hr
  simp only [Int.toNat_natCast, madeVals] at hr
  exact hr

theorem copy_vals {w : World} {B g n d m c ty : Nat} {A : Option Addr} {l : List Vl} {cur : Array Value} {t : TypeId} (hg : Ob w g t cur) (h : Vs w B A n c l) (hd : n ≤ d) (hn : n * 3 ≤ cur.size) :
    ∃ w', (Builtin.copy_ #[30, 30] ty #[.slice (some ⟨g, 0, none⟩) d m, .slice A n c]).run Tryd.prog w = .ok (.int .i64 (n : Int)) w' ∧ Ob w' g t (cells3 l ++ cur.toList.drop (n * 3)).toArray ∧ w'.heap.size = w.heap.size ∧ Only g w w' := by
  obtain ⟨i, hi, hz, hs, hb⟩ := val_parts
  have hu := Tryd.underlying30
  have hlen := h.1
  have hmin : Nat.min n d = n := Nat.min_eq_left hd
  have hl : ∀ (x : Addr), (loadCells x 0).run Tryd.prog w = .ok #[] w := fun x => by simpa using run_loadCells_list (P := Tryd.prog) w x [] (by simp)
  rcases h.2.2.2.1 with h0 | ⟨b, o, e, hb', hc⟩
  · subst h0
    obtain rfl : l = [] := List.eq_nil_of_length_eq_zero hlen
    refine ⟨w, ?_, by simpa [cells3] using hg, rfl, Only.refl⟩
    cases A <;> simp [Builtin.copy_, run_underlying hu, Builtin.lenOf, Builtin.firstCells, sizeOf, typeInfo, hi, hmin, storeCells, hl, goInt]
  · subst e
    have add : ∀ j : Nat, (⟨b, o, none⟩ : Addr).add j = ⟨b, o + j, none⟩ := fun j => by by_cases hj : j = 0 <;> simp [Addr.add, hj]
    have hsrc : ∀ j u, (cells3 l)[j]? = some u → w.cell? ((⟨b, o, none⟩ : Addr).add j) = some u := fun j u hu => by
      rw [add]
      obtain ⟨i', v, hv, hcase⟩ := cells3_of hu
      obtain ⟨c0, c1, c2⟩ := hc i' v hv
      rcases hcase with ⟨rfl, rfl⟩ | ⟨rfl, rfl⟩ | ⟨rfl, rfl⟩
      · exact c0
      · exact c1
      · exact c2
    have hll : (cells3 l).length = n * 3 := by rw [cells3_len, hlen]
    have hld := run_loadCells_list (P := Tryd.prog) w ⟨b, o, none⟩ (cells3 l) hsrc
    have hst := run_storeCells_at Tryd.prog g 0 t (cells3 l) 0 cur w hg (by rw [hll]; simpa using hn) cells3_one
    rw [hll] at hld
    refine ⟨w.setRow g (cur.toList.take 0 ++ (cells3 l ++ cur.toList.drop (0 + (cells3 l).length))).toArray, ?_, ?_, by simp [World.setRow], ⟨rfl, rfl, rfl, by simp [World.setRow], fun k hk hne => setRow_other w g k _ (fun e => hne (by rw [e]))⟩⟩
    · simp [Builtin.copy_, run_underlying hu, Builtin.lenOf, Builtin.firstCells, sizeOf, typeInfo, hi, hs, hmin, hld, hst, goInt]
    · have := setRow_heap w g cur (cur.toList.take 0 ++ (cells3 l ++ cur.toList.drop (0 + (cells3 l).length))).toArray t _ hg
      unfold Ob
      rw [this, hll]
      simp

theorem cells3_set {l : List Vl} {k : Nat} (x : Vl) (hk : k < l.length) :
    (((cells3 l).toArray.setIfInBounds (k * 3) (.int .i64 x.k)).setIfInBounds (k * 3 + 1) (.int .i64 x.n)).setIfInBounds (k * 3 + 2) (.string x.s) = (cells3 (l.set k x)).toArray := by
  simp only [List.setIfInBounds_toArray]
  congr 1
  induction l generalizing k with
  | nil => simp at hk
  | cons v r ih =>
    cases k with
    | zero => rfl
    | succ k =>
      have e : (k + 1) * 3 = k * 3 + 1 + 1 + 1 := by omega
      rw [e]
      simp only [cells3, List.set_cons_succ, List.cons.injEq, true_and]
      exact ih (by simpa using hk)

def roomL (l : List Vl) (n k : Nat) (x : Vl) : List Vl := l ++ List.replicate (k - n) x ++ List.replicate (n + 80 - k) v0
theorem roomL_len {l : List Vl} {n k : Nat} {x : Vl} (hl : l.length = n) (h1 : n ≤ k) (h2 : k ≤ n + 80) : (roomL l n k x).length = n + 80 := by
  unfold roomL
  simp [hl]
  omega
theorem roomL_step {l : List Vl} {n k : Nat} {x : Vl} (hl : l.length = n) (h1 : n ≤ k) (h2 : k < n + 80) : (roomL l n k x).set k x = roomL l n (k + 1) x := by
  unfold roomL
  have e1 : n + 80 - k = (n + 80 - (k + 1)) + 1 := by omega
  have e2 : k + 1 - n = (k - n) + 1 := by omega
  rw [e1, e2, List.replicate_succ, List.replicate_succ', List.set_append_right _ _ (by simp [hl]; omega)]
  have e3 : k - (l ++ List.replicate (k - n) x).length = 0 := by simp [hl]; omega
  rw [e3]
  simp
theorem roomL_get {l : List Vl} {n k : Nat} {x : Vl} (hl : l.length = n) (h1 : n ≤ k) (h2 : k < n + 80) : (roomL l n k x)[k]? = some v0 := by
  unfold roomL
  have e1 : n + 80 - k = (n + 80 - (k + 1)) + 1 := by omega
  rw [List.getElem?_append_right (by simp [hl]; omega)]
  have e3 : k - (l ++ List.replicate (k - n) x).length = 0 := by simp [hl]; omega
  rw [e3, e1, List.replicate_succ]
  rfl
theorem roomL_end {l : List Vl} {n : Nat} {x : Vl} : roomL l n (n + 80) x = l ++ List.replicate 80 x := by
  unfold roomL
  simp

def VRoomRel (wb : World) (g : Nat) (l : List Vl) (n : Nat) (x : Vl) (i : Value) (wr : World) : Prop :=
  ∃ k : Nat, i = .int .i64 (k : Int) ∧ n ≤ k ∧ k ≤ n + 80 ∧ Ob wr g 26 (cells3 (roomL l n k x)).toArray ∧ Below g wb wr

set_option maxHeartbeats 1600000 in
theorem vroomy_any {w : World} {B n c : Nat} {A : Option Addr} {l : List Vl} (x : Vl) (h : Vs w B A n c l) (hB : B ≤ w.heap.size) (hn : n ≤ 900000) :
    Calls Tryd.prog 16 #[.slice A n c, .agg #[.int .i64 x.k, .int .i64 x.n, .string x.s]] w fun e w' => e = .returned (.slice (some ⟨w.heap.size + 1, 0, none⟩) (n + 80) (n + 80)) ∧ Ob w' (w.heap.size + 1) 26 (cells3 (l ++ List.replicate 80 x)).toArray ∧ Below w.heap.size w w' := by
  obtain ⟨kx, nx, sx⟩ := x
  have hmk := make_vals (n + 80) (by omega)
  simp only [Int.natCast_add, Int.cast_ofNat_Int] at hmk
  have hbx := Bx.made w kx nx sx
  have hsz := size_al w (.cells #[.int .i64 kx, .int .i64 nx, .string sx] 26)
  have hd : Below w.heap.size w (w.alloc (.cells #[.int .i64 kx, .int .i64 nx, .string sx] 26)) := (Below.refl _ _).alloc (Nat.le_refl _) _
  have hsl1 : Vs (w.alloc (.cells #[.int .i64 kx, .int .i64 nx, .string sx] 26)) B A n c l := h.keep fun k hk => Below.heap_alloc w _ k (by omega)
  have hob := Ob.made (w.alloc (.cells #[.int .i64 kx, .int .i64 nx, .string sx] 26)) 26 (cells3 (List.replicate (n + 80) v0)).toArray
  have hsl : Vs ((w.alloc (.cells #[.int .i64 kx, .int .i64 nx, .string sx] 26)).alloc (.cells (cells3 (List.replicate (n + 80) v0)).toArray 26)) B A n c l := hsl1.keep fun k hk => Below.heap_alloc _ _ k (by omega)
  rw [hsz] at hob
  obtain ⟨w1, hcp, hob1, hz, honly⟩ := copy_vals (ty := 3) (m := n + 80) (d := n + 80) hob hsl (by omega) (by simp [cells3_len]; omega)
  have hlen : l.length = n := h.1
  have hbel : Below (w.heap.size + 1) (w.alloc (.cells #[.int .i64 kx, .int .i64 nx, .string sx] 26)) w1 := ((Below.refl _ _).alloc (by omega) _).trans (honly.below (by rw [size_al]; omega) (Nat.le_refl _))
  have hstart : VRoomRel (w.alloc (.cells #[.int .i64 kx, .int .i64 nx, .string sx] 26)) (w.heap.size + 1) l n ⟨kx, nx, sx⟩ (.int .i64 (n : Int)) w1 := by
    refine ⟨n, rfl, Nat.le_refl _, by omega, ?_, hbel⟩
    have e : (cells3 (roomL l n n ⟨kx, nx, sx⟩)).toArray = (cells3 l ++ (cells3 (List.replicate (n + 80) v0)).toArray.toList.drop (n * 3)).toArray := by
      unfold roomL
      have e1 : List.replicate (n + 80) v0 = List.replicate n v0 ++ List.replicate 80 v0 := List.replicate_append_replicate.symm
      have e2 : (cells3 (List.replicate n v0)).length = n * 3 := by rw [cells3_len, List.length_replicate]
      rw [e1]
      simp only [cells3_app]
      rw [List.drop_left' e2, Nat.sub_self, Nat.add_sub_cancel_left, List.replicate_zero, show cells3 [] = [] from rfl, List.append_nil]
    rw [e]; exact hob1
  have HS := Lib.hid hstart
  have HL := Lib.hid hlen
  have HX := Lib.hid hbx
  have HD := Lib.hid hd
  have HSZ := Lib.hid hsz
  clear h hob hsl hsl1 hob1 hz honly hlen hbel hstart hbx hd hsz
  go_enter Tryd.func16, Tryd.ntmps16
  go_wp2_with fail
  go_loopw [6] (fun i wr => VRoomRel (w.alloc (.cells #[.int .i64 kx, .int .i64 nx, .string sx] 26)) (w.heap.size + 1) l n ⟨kx, nx, sx⟩ i wr) (fun i _ => n + 80 - (intOf i).toNat)
  case atStart => exact HS.out
  case round =>
    obtain ⟨k, rfl, k1, k2, ho, hb⟩ := hrel
    have HO := Lib.hid ho
    have HB := Lib.hid hb
    by_cases hlt : k < n + 80
    · obtain ⟨q0, q1, q2⟩ := cells3_at (roomL_get (x := ⟨kx, nx, sx⟩) HL.out k1 hlt)
      have z0 := (ho.cell (k * 3)).trans ((List.getElem?_toArray ..).trans q0)
      have z1 := (ho.cell (k * 3 + 1)).trans ((List.getElem?_toArray ..).trans q1)
      have z2 := (ho.cell (k * 3 + 2)).trans ((List.getElem?_toArray ..).trans q2)
      have f0 := ho.frozen (k * 3)
      have f1 := ho.frozen (k * 3 + 1)
      have f2 := ho.frozen (k * 3 + 2)
      have c0 := (Bx.below HX.out hb (by omega)).c3
      clear ho hb q0 q1 q2
      go_wp2_with fail
      go_roundw
      case rel =>
        refine ⟨k + 1, by go_num, by omega, by omega, ?_, ((HB.out.setCell (p := ⟨w.heap.size + 1, k * 3, none⟩) (Nat.le_refl _) _).setCell (p := ⟨w.heap.size + 1, k * 3 + 1, none⟩) (Nat.le_refl _) _).setCell (p := ⟨w.heap.size + 1, k * 3 + 2, none⟩) (Nat.le_refl _) _⟩
        rw [← roomL_step HL.out k1 hlt, ← cells3_set _ (by rw [roomL_len HL.out k1 (by omega)]; exact hlt)]
        exact ((HO.out.put _ _).put _ _).put _ _
      case measure => simp [intOf]; omega
    · obtain rfl : k = n + 80 := by omega
      clear ho hb
      go_wp2_with fail
      go_ret
      refine ⟨rfl, ?_, HD.out.trans (HB.out.mono (by omega))⟩
      rw [← roomL_end (n := n)]
      exact HO.out

set_option maxHeartbeats 1600000 in
theorem vintact_any {w : World} {B B' n c c' : Nat} {A A' : Option Addr} {l : List Vl} (x : Vl) (h : Vs w B A (n + 80) c (l ++ List.replicate 80 x)) (h' : Vs w B' A' n c' l) (hB : B ≤ w.heap.size) (hB' : B' ≤ w.heap.size) (hn : n ≤ 900000) :
    Calls Tryd.prog 29 #[.slice A (n + 80) c, .slice A' n c', .agg #[.int .i64 x.k, .int .i64 x.n, .string x.s]] w fun e w' => e = .returned (.bool true) ∧ Below w.heap.size w w' := by
  have hlen : l.length = n := h'.1
  have hcn := h.2.1
  have hcap := h.2.2.1
  unfold maxLen at hcap
  have ht : Vs w B A n c l := by
    have := h.take (k := n) (by omega)
    rwa [List.take_left' hlen] at this
  have keep1 : ∀ {n c : Nat} {B : Nat} {A : Option Addr} {l : List Vl} (o : Obj), B ≤ w.heap.size → Vs w B A n c l → Vs (w.alloc o) B A n c l := fun o hB h => h.keep fun k hk => Below.heap_alloc w _ k (by omega)
  have hsame := vsame_any (keep1 (.cells #[.int .i64 x.k, .int .i64 x.n, .string x.s] 26) hB ht) (keep1 _ hB' h')
  have hd : Below w.heap.size w (w.alloc (.cells #[.int .i64 x.k, .int .i64 x.n, .string x.s] 26)) := (Below.refl _ _).alloc (Nat.le_refl _) _
  have H := Lib.hid (keep1 (.cells #[.int .i64 x.k, .int .i64 x.n, .string x.s] 26) hB h)
  have HL := Lib.hid hlen
  have HSAME := Lib.hid hsame
  have HD := Lib.hid hd
  clear h h' ht hsame hlen hd keep1
  obtain ⟨kx, nx, sx⟩ := x
  have hve := val_eq kx nx kx nx sx sx
  rw [veq_true rfl] at hve
  have c0 := (Bx.made w kx nx sx).c3
  go_enter Tryd.func29, Tryd.ntmps29
  go_wp2_with fail
  refine HSAME.out.mono ?_
  rintro e w1 ⟨rfl, q, rfl⟩
  go_wp2_with fail
  go_loopw [7] (fun i wr => ∃ k : Nat, i = .int .i64 (k : Int) ∧ n ≤ k ∧ k ≤ n + 80 ∧ ∃ q, wr = (w.alloc (.cells #[.int .i64 kx, .int .i64 nx, .string sx] 26)).drewN q) (fun i _ => n + 80 - (intOf i).toNat)
  case atStart => exact ⟨n, rfl, Nat.le_refl _, by omega, q, rfl⟩
  case round =>
    obtain ⟨k, rfl, k1, k2, q, rfl⟩ := hrel
    by_cases hlt : k < n + 80
    · obtain ⟨b, o, y, rfl, _, hy, _, y0, y1, y2⟩ := H.out.at_ hlt
      have hx : y = ⟨kx, nx, sx⟩ := by
        rw [List.getElem?_append_right (by have := HL.out; omega), List.getElem?_replicate, if_pos (by have := HL.out; omega)] at hy
        exact (Option.some.inj hy).symm
      subst hx
      clear hy
      go_wp2_with fail
      go_quiet (fail)
      go_wp2
      go_roundw
      case rel => exact ⟨k + 1, by go_num, by omega, by omega, _, rfl⟩
      case measure => simp [intOf]; omega
    · obtain rfl : k = n + 80 := by omega
      go_wp2_with fail
      go_ret
      exact ⟨rfl, below_drewN HD.out q⟩
end Go.Proofs.YtjplgcjpnofgbaaDoor
