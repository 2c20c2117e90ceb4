/- bailiffref1.Num, Text and PutValue on a row of the caller's: behind them only that row's block has changed. -/
import Derived.Test.YtjplgcjpnofgbaaDoorRefKeep
import Derived.Test.YtjplgcjpnofgbaaDoorVPut
import Derived.Maps.AppendAt
namespace Go.Proofs.YtjplgcjpnofgbaaDoor
set_option linter.unusedVariables false
open Go.RowKit

/-- From w on only block r, and what is new, has changed; the row v lies in r, or in what is new. -/
def Rest (r : Nat) (w wr : World) (v : Value) : Prop := w.grownBy wr (some r) ∧ (v.ownBlock = some r ∨ ∃ b, v.ownBlock = some b ∧ w.heap.size ≤ b)
theorem Rest.start {r : Nat} {w : World} {v : Value} (h : v.ownBlock = some r) : Rest r w w v := ⟨⟨rfl, rfl, rfl, Nat.le_refl _, fun _ _ _ => rfl⟩, .inl h⟩
theorem Rest.grown {r : Nat} {w wr w2 : World} {v : Value} (h : Rest r w wr v) (o : Obj) (g : (wr.alloc o).grownBy w2 v.ownBlock) : w.grownBy w2 (some r) := by
  obtain ⟨h1, h2⟩ := h
  refine ⟨g.os.trans h1.os, g.tape.trans h1.tape, g.output.trans h1.output, by have := g.size; have := h1.size; rw [size_al] at *; omega, fun k hk hr => ?_⟩
  have hne : some k ≠ v.ownBlock := by
    rcases h2 with h2 | ⟨b, h2, h3⟩
    · rw [h2]; exact hr
    · rw [h2]; rintro e; injection e with e; omega
  exact ((g.block k (by have := h1.size; rw [size_al]; omega) hne).trans (Below.heap_alloc wr o k (by have := h1.size; omega))).trans (h1.block k hk hr)
theorem Rest.grown0 {r : Nat} {w wr w2 : World} {v : Value} (h : Rest r w wr v) (g : wr.grownBy w2 v.ownBlock) : w.grownBy w2 (some r) := by
  obtain ⟨h1, h2⟩ := h
  refine ⟨g.os.trans h1.os, g.tape.trans h1.tape, g.output.trans h1.output, Nat.le_trans h1.size g.size, fun k hk hr => ?_⟩
  have hne : some k ≠ v.ownBlock := by
    rcases h2 with h2 | ⟨b, h2, h3⟩
    · rw [h2]; exact hr
    · rw [h2]; rintro e; injection e with e; omega
  exact (g.block k (Nat.lt_of_lt_of_le hk h1.size) hne).trans (h1.block k hk hr)

section
variable {P : Program} {T E : TypeId} {i : TypeInfo}

/-- append(out, x) with one byte, out being the call's own row; the byte's block has just been made. -/
theorem append_oneO (ht : P.underlying T = some (.slice E)) (hi : P.info? E = some i) (hz : i.zero = some (.int .u8 0)) (hs : i.size = 1) (hb : i.bytes = 1)
    {w : World} {base n c ty : Nat} {A : Option Addr} {xs : List Value} (h : w.ownsRow base E 1 (.slice A n c) n xs) (hn : n ≤ 140737488355327) (hbase : base ≤ w.heap.size) (x : Int) :
    ∃ A' c' w', (Builtin.append_ #[T, T] ty #[.slice A n c, .slice (some ⟨w.heap.size, 0, none⟩) 1 1]).run P (w.alloc (.cells #[.int .u8 x] E)) = .ok (.slice A' (n + 1) c') w' ∧
      w'.ownsRow base E 1 (.slice A' (n + 1) c') (n + 1) (xs ++ [.int .u8 x]) ∧ Below base w w' ∧ (∀ r w0, Rest r w0 w (.slice A n c) → Rest r w0 w' (.slice A' (n + 1) c')) := by
  obtain ⟨v', w', hrun, h2, h3, h4, h5⟩ := run_append_own_at (P := P) (w.alloc (.cells #[.int .u8 x] E)) base T ty E i (.int .u8 0) 1 1 ht hi hz hs hb rfl (by omega) (.slice A n c) n xs (h.alloc _)
    ⟨w.heap.size, 0, none⟩ 1 1 [.int .u8 x] rfl (by
      intro j u hu
      match j, hu with
      | 0, hu => simp at hu; subst hu; simp [Addr.add, World.cell?_alloc_at]
      | j + 1, hu => simp at hu) (by simp [one_byte]) (by unfold maxLen; omega) (by omega) (by simp; omega)
  have hform : ∃ A' c', v' = .slice A' (n + 1) c' := by
    rcases h2.2 with ⟨_, hz⟩ | ⟨g, cap, cur, hv, _⟩
    · omega
    · exact ⟨_, _, hv⟩
  obtain ⟨A', c', rfl⟩ := hform
  refine ⟨A', c', w', hrun, h2, ?_, fun r w0 hr => ⟨hr.grown _ h3, ?_⟩⟩
  rotate_left
  · rcases h5 with h5 | h5
    · rw [h5]; exact hr.2
    · exact .inr ⟨_, h5, by have := hr.1.size; rw [size_al]; omega⟩
  refine ((Below.refl base w).alloc hbase _).grown h3 (by simp; omega) (fun k hk => ?_)
  exact (h.lt k hk).1

/-- append(out, s...) of a text. -/
theorem append_textO (ht : P.underlying T = some (.slice E)) (hi : P.info? E = some i) (hz : i.zero = some (.int .u8 0)) (hs : i.size = 1) (hb : i.bytes = 1) {S : TypeId} (hS : P.underlying S = some .string)
    {w : World} {base n c ty : Nat} {A : Option Addr} {xs : List Value} (h : w.ownsRow base E 1 (.slice A n c) n xs) (s : ByteArray) (hn : n + s.size ≤ 140737488355328) (hbase : base ≤ w.heap.size) :
    ∃ A' c' w', (Builtin.append_ #[T, S] ty #[.slice A n c, .string s]).run P w = .ok (.slice A' (n + s.size) c') w' ∧
      w'.ownsRow base E 1 (.slice A' (n + s.size) c') (n + s.size) (xs ++ bv s.data.toList) ∧ Below base w w' ∧ (∀ r w0, Rest r w0 w (.slice A n c) → w0.grownBy w' (some r)) := by
  obtain ⟨v', w', hrun, h2, h3, h4⟩ := Lib.run_append_own_string (P := P) w base T S ty E i ht hS hi hz hs hb (.slice A n c) n xs h s (by unfold maxLen; omega) (by omega) hbase
  have hform : ∃ A' c', v' = .slice A' (n + s.size) c' := by
    rcases h2.2 with ⟨hv, hz⟩ | ⟨g, cap, cur, hv, _⟩
    · exact ⟨_, _, by rw [hv, hz]⟩
    · exact ⟨_, _, hv⟩
  obtain ⟨A', c', rfl⟩ := hform
  refine ⟨A', c', w', hrun, ?_, (Below.refl base w).grown h3 hbase (fun k hk => (h.lt k hk).1), fun r w0 hr => hr.grown0 h3⟩
  have e : Lib.strCells s = bv s.data.toList := by simp [Lib.strCells, bv]
  rw [← e]; exact h2

end

def RefNumRelO (r : Nat) (w0 w : World) (base : Nat) (l all : List UInt8) (u out : Value) (wr : World) : Prop :=
  ∃ (m n c : Nat) (A : Option Addr) (done : List UInt8), u = .int .u64 (m : Int) ∧ out = .slice A n c ∧ wr.ownsRow base 5 1 (.slice A n c) n (bv (l ++ done)) ∧ done ++ enc m = all ∧ Below base w wr ∧ Rest r w0 wr (.slice A n c)

set_option maxHeartbeats 1600000 in
set_option maxRecDepth 20000 in
theorem refnum_only {r : Nat} {w0 w : World} {base n c : Nat} {A : Option Addr} {l : List UInt8} {k : Int} (h : w.ownsRow base 5 1 (.slice A n c) n (bv l)) (hB : base ≤ w.heap.size) (hn : n ≤ 70368744177664) (hk1 : -9223372036854775808 ≤ k) (hk2 : k ≤ 9223372036854775807) (hr : Rest r w0 w (.slice A n c)) :
    Calls Tryd.prog 43 #[.slice A n c, .int .i64 k] w fun e w' => ∃ A' n' c', e = .returned (.slice A' n' c') ∧ w'.ownsRow base 5 1 (.slice A' n' c') n' (bv (l ++ numB k)) ∧ Below base w w' ∧ Rest r w0 w' (.slice A' n' c') := by
  obtain ⟨i, hi, hz0, hz1, hz2⟩ := info_parts u8info
  have hlen : l.length = n := by have := h.1; rw [bv_len] at this; omega
  have hstart : RefNumRelO r w0 w base l (numB k) (.int .u64 (zig k : Nat)) (.slice A n c) w := ⟨zig k, n, c, _, [], rfl, rfl, by simpa using h, rfl, Below.refl _ _, hr⟩
  have HS := Lib.hid hstart
  have HL := Lib.hid hlen
  clear h hlen hstart hr
  have H10 := Lib.hid (numB_len hk1 hk2)
  by_cases hneg : k < 0
  case' neg => have HU : Hid (k * 2 = (zig k : Int)) := by show _ = _; unfold zig; rw [if_neg hneg]; omega
  case' pos => obtain ⟨ku, ku2, hw1, hw2, hw3⟩ := zig_ref hk1 hneg
  all_goals
    go_enter Tryd.func43, Tryd.ntmps43
    go_wp2_with fail
    go_loopw [0, 5] (fun out u wr => RefNumRelO r w0 w base l (numB k) u out wr) (fun _ u _ => (intOf u).toNat)
    case atStart =>
      first | exact HS.out | (rw [HU.out]; exact HS.out)
    case round =>
      obtain ⟨m, n1, c1, A1, done, rfl, rfl, hown, hdone, hbel, hkeep⟩ := hrel
      have HD := Lib.hid hdone
      have hl1 : n1 = l.length + done.length := by have := hown.1; simp [bv_len] at this; omega
      have hd10 : done.length + (enc m).length ≤ 10 := by rw [← List.length_append, HD.out]; exact H10.out
      have hp := enc_pos m
      have hlb : l.length = n := HL.out
      have hnb : n1 ≤ 140737488355327 := by omega
      clear hdone hl1 hd10 hp hlb
      have hm0 : 0 ≤ (m : Int) := by omega
      have hwrap : IntKind.u8.wrap (m : Int) = (m : Int) % 256 := IntKind.wrap_u8' _
      by_cases hbig : 128 ≤ m
      · have hor : bits .or .u8 ((m : Int) % 256) 128 = (m : Int) % 128 + 128 := by rw [u8_or128 (by omega) (by omega)]; omega
        obtain ⟨A2, c2, w2, hap, hown2, hbel2, hkeep2⟩ := append_oneO (P := Tryd.prog) (ty := 37) Tryd.underlying37 hi hz0 hz1 hz2 hown hnb (Nat.le_trans hB hbel.size) ((m : Int) % 128 + 128)
        have HO2 := Lib.hid hown2
        have HAP := Lib.hid hap
        clear hown hnb hown2 hap
        go_wp2_with (at_builtin; refine wpList_append_run rfl _ _ _ _ rfl rfl rfl HAP.out ?_)
        go_roundw
        case rel =>
          refine ⟨m / 128, n1 + 1, c2, A2, done ++ [UInt8.ofNat (m % 128 + 128)], by go_num, rfl, ?_, ?_, hbel.trans hbel2, hkeep2 _ _ hkeep⟩
          · have e := HO2.out
            rw [← List.append_assoc, bv_app]
            have e2 : bv [UInt8.ofNat (m % 128 + 128)] = [.int .u8 ((m : Int) % 128 + 128)] := by
              simp only [bv, List.map_cons, List.map_nil, ofNat_toNat (show m % 128 + 128 < 256 by omega)]
              simp
            rw [e2]; exact e
          · rw [List.append_assoc, List.singleton_append, ← enc_big hbig]; exact HD.out
        case measure => simp [intOf]; omega
      · obtain ⟨A2, c2, w2, hap, hown2, hbel2, hkeep2⟩ := append_oneO (P := Tryd.prog) (ty := 37) Tryd.underlying37 hi hz0 hz1 hz2 hown hnb (Nat.le_trans hB hbel.size) ((m : Int) % 256)
        have HO2 := Lib.hid hown2
        have HAP := Lib.hid hap
        clear hown hnb hown2 hap
        go_wp2_with (at_builtin; refine wpList_append_run rfl _ _ _ _ rfl rfl rfl HAP.out ?_)
        go_ret
        refine ⟨A2, n1 + 1, c2, rfl, ?_, hbel.trans hbel2, hkeep2 _ _ hkeep⟩
        have e := HO2.out
        rw [← HD.out, enc_small (by omega), ← List.append_assoc, bv_app]
        have e2 : bv [UInt8.ofNat m] = [.int .u8 ((m : Int) % 256)] := by
          simp only [bv, List.map_cons, List.map_nil, ofNat_toNat (show m < 256 by omega)]
          rw [show (m : Int) % 256 = (m : Int) from by omega]
        rw [e2]; exact e

set_option maxHeartbeats 800000 in
theorem reftext_only {r : Nat} {w0 w : World} {base n c : Nat} {A : Option Addr} {l : List UInt8} {s : ByteArray} (h : w.ownsRow base 5 1 (.slice A n c) n (bv l)) (hB : base ≤ w.heap.size) (hn : n ≤ 70368744177664) (hs : s.size ≤ 35184372088832) (hr : Rest r w0 w (.slice A n c)) :
    Calls Tryd.prog 44 #[.slice A n c, .string s] w fun e w' => ∃ A' n' c', e = .returned (.slice A' n' c') ∧ w'.ownsRow base 5 1 (.slice A' n' c') n' (bv (l ++ textB s.data.toList)) ∧ Below base w w' ∧ w0.grownBy w' (some r) := by
  obtain ⟨i, hi, hz0, hz1, hz2⟩ := info_parts u8info
  have hc := refnum_only (k := (s.size : Int)) h hB hn (by omega) (by omega) hr
  have hlen : l.length = n := by have := h.1; rw [bv_len] at this; omega
  have HC := Lib.hid hc
  have HL := Lib.hid hlen
  clear hc hlen h hr
  go_enter Tryd.func44, Tryd.ntmps44
  go_wp2_with fail
  refine HC.out.mono ?_
  rintro e w1 ⟨A1, n1, c1, rfl, hown, hbel, hkeep⟩
  have hn1 : n1 = n + (numB (s.size : Int)).length := by have := hown.1; have e := HL.out; simp [bv_len] at this; omega
  have hnl := numB_len (n := (s.size : Int)) (by omega) (by omega)
  obtain ⟨A2, c2, w2, hap, hown2, hbel2, hkeep2⟩ := append_textO (P := Tryd.prog) (ty := 37) Tryd.underlying37 hi hz0 hz1 hz2 Tryd.underlying9 hown s (by omega) (Nat.le_trans hB hbel.size)
  have HO := Lib.hid hown2
  have HAP := Lib.hid hap
  clear hown hown2 hap hn1 hnl
  go_wp2_with (at_builtin; refine wpList_append_run rfl _ _ _ _ rfl rfl rfl HAP.out ?_)
  go_ret
  refine ⟨A2, _, c2, rfl, ?_, hbel.trans hbel2, hkeep2 _ _ hkeep⟩
  have e := HO.out
  rw [textB, ← List.append_assoc, bv_app]
  have e2 : (s.data.toList.length : Int) = (s.size : Int) := by rw [Array.length_toList]; rfl
  rw [e2]
  exact e
set_option maxHeartbeats 1600000 in
theorem vrefput_only {r : Nat} {w : World} {base n c : Nat} {A : Option Addr} {l : List UInt8} (h : w.ownsRow base 5 1 (.slice A n c) n (bv l)) (hB : base ≤ w.heap.size) (hn : n ≤ 1000000) {k m : Int} {s : ByteArray} (hk : -9223372036854775808 ≤ k ∧ k ≤ 9223372036854775807) (hm : -9223372036854775808 ≤ m ∧ m ≤ 9223372036854775807) (hs : s.size ≤ 1000000) (hown : (Value.slice A n c).ownBlock = some r) :
    Calls Tryd.prog 20 #[.slice A n c, .agg #[.int .i64 k, .int .i64 m, .string s]] w fun e w' => ∃ A' n' c', e = .returned (.slice A' n' c') ∧ w'.ownsRow base 5 1 (.slice A' n' c') n' (bv (l ++ putB ⟨k, m, s⟩)) ∧ Below base w w' ∧ w.grownBy w' (some r) := by
  have hlen : l.length = n := by have := h.1; rw [bv_len] at this; omega
  have hlt0 : r < w.heap.size := by
    rcases h.2 with ⟨hv, _⟩ | ⟨g, cap, cur, hv, _, hg, _⟩
    · rw [hv] at hown; cases hown
    · rw [hv] at hown
      simp only [Value.ownBlock, Option.some.injEq] at hown
      subst hown
      rcases Nat.lt_or_ge g w.heap.size with hlt | hge
      · exact hlt
      · rw [Array.getElem?_eq_none hge] at hg; cases hg
  have h0 := refnum_only (k := k) (h.alloc (.cells #[.int .i64 k, .int .i64 m, .string s] 26)) (by rw [size_al]; omega) (by omega) hk.1 hk.2 (Rest.start hown)
  have END : ∀ w3 : World, (w.alloc (.cells #[.int .i64 k, .int .i64 m, .string s] 26)).grownBy w3 (some r) → w.grownBy w3 (some r) := fun _ g =>
    ⟨g.os, g.tape, g.output, by have := g.size; rw [size_al] at this; omega, fun j hj hne => (g.block j (by rw [size_al]; omega) hne).trans (Below.heap_alloc w _ j hj)⟩
  have BOX : ∀ w3 : World, (w.alloc (.cells #[.int .i64 k, .int .i64 m, .string s] 26)).grownBy w3 (some r) → Bx w3 w.heap.size k m s := fun _ g =>
    Ob.keep (Bx.made w k m s) (g.block _ (by rw [size_al]; omega) (by rintro e; injection e with e; omega))
  have HEND := Lib.hid END
  have HBOX := Lib.hid BOX
  have HL := Lib.hid hlen
  have H0 := Lib.hid h0
  have HN := Lib.hid (numB_len hk.1 hk.2)
  have HB := Lib.hid hB
  clear h h0 hlen hB hown hlt0 END BOX
  go_enter Tryd.func20, Tryd.ntmps20
  go_wp2_with fail
  refine H0.out.mono ?_
  rintro e w1 ⟨A1, n1, c1, rfl, hown, hb1, hk1⟩
  have HK1 := Lib.hid hk1
  have HN1 : Hid (n1 ≤ 1000010) := by show _ ≤ _; have := hown.1; have e := HL.out; have e2 := HN.out; simp [bv_len] at this; omega
  have b1 := Bx.c3 (HBOX.out _ hk1.1)
  have D1 := Lib.hid (((Below.refl base w).alloc HB.out _).trans hb1)
  have HB1 : Hid (base ≤ w1.heap.size) := Nat.le_trans HB.out D1.out.size
  have O1 := Lib.hid hown
  clear hown hb1 hk1
  by_cases h3 : k = 3
  · subst h3
    have HT : Hid (inT 3 = true) := rfl
    have C2 := Lib.hid (fun hn1 : n1 ≤ 1000010 => reftext_only (s := s) O1.out HB1.out (by omega) (by omega) HK1.out)
    go_wp2_with fail
    refine (C2.out HN1.out).mono ?_
    rintro e w3 ⟨A3, n3, c3, rfl, hown, hb3, hg3⟩
    have G3 := Lib.hid (HEND.out _ hg3)
    have O3 := Lib.hid hown
    have D3 := Lib.hid (D1.out.trans hb3)
    clear hown hb3 hg3
    go_wp2_with fail
    go_ret
    refine ⟨A3, n3, c3, rfl, ?_, D3.out, G3.out⟩
    rw [put_text HT.out, ← List.append_assoc]
    exact O3.out
  by_cases h5 : k = 5
  · subst h5
    have HT : Hid (inT 5 = true) := rfl
    have C2 := Lib.hid (fun hn1 : n1 ≤ 1000010 => reftext_only (s := s) O1.out HB1.out (by omega) (by omega) HK1.out)
    go_wp2_with fail
    refine (C2.out HN1.out).mono ?_
    rintro e w3 ⟨A3, n3, c3, rfl, hown, hb3, hg3⟩
    have G3 := Lib.hid (HEND.out _ hg3)
    have O3 := Lib.hid hown
    have D3 := Lib.hid (D1.out.trans hb3)
    clear hown hb3 hg3
    go_wp2_with fail
    go_ret
    refine ⟨A3, n3, c3, rfl, ?_, D3.out, G3.out⟩
    rw [put_text HT.out, ← List.append_assoc]
    exact O3.out
  · have h3' : (k == 3) = false := by rw [beq_eq_false_iff_ne]; exact h3
    have h5' : (k == 5) = false := by rw [beq_eq_false_iff_ne]; exact h5
    have HT : Hid (inT k = false) := by show _ = _; unfold inT; rw [decide_eq_false h3, decide_eq_false h5]; rfl
    clear h3 h5
    have C2 := Lib.hid (fun hn1 : n1 ≤ 1000010 => refnum_only (k := m) O1.out HB1.out (by omega) hm.1 hm.2 HK1.out)
    go_wp2_with fail
    refine (C2.out HN1.out).mono ?_
    rintro e w3 ⟨A3, n3, c3, rfl, hown, hb3, hg3⟩
    have G3 := Lib.hid (HEND.out _ hg3.1)
    have O3 := Lib.hid hown
    have D3 := Lib.hid (D1.out.trans hb3)
    clear hown hb3 hg3
    go_wp2_with fail
    go_ret
    refine ⟨A3, n3, c3, rfl, ?_, D3.out, G3.out⟩
    rw [put_num HT.out, ← List.append_assoc]
    exact O3.out
end Go.Proofs.YtjplgcjpnofgbaaDoor
