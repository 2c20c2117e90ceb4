/- The reader's In and Text. -/
import Derived.Test.YtjplgcjpnofgbaaDoorRNum
import Derived.Laws.BytesArg
namespace Go.Proofs.YtjplgcjpnofgbaaDoor
open Go.RowKit

theorem Only.of_drewN {r k : Nat} {w w' : World} (h : Only r (w.drewN k) w') : Only r w w' := ⟨h.os, h.tape, h.output, h.size, h.block⟩

theorem conv_text {P : Program} {w : World} {src dst e : TypeId} {B n c : Nat} {A : Option Addr} {l : List UInt8} (hs : P.underlying src = some (.slice e)) (he : P.underlying e = some (.int .u8)) (hd : P.underlying dst = some .string)
    (h : Sl w B A n c (bv l)) : (convert src dst (.slice A n c)).run P w = .ok (.string ⟨l.toArray⟩) w := by
  have hlen := h.len
  rw [bv_len] at hlen
  have fin : ∀ ad : Addr, A = some ad → (∀ j u, (bv l)[j]? = some u → w.cell? (ad.add j) = some u) → (convert src dst (.slice A n c)).run P w = .ok (.string ⟨l.toArray⟩) w := by
    rintro ad rfl hc
    have hb : bv l = (l.map fun x : UInt8 => (x.toNat : Int)).map (Value.int .u8) := by simp [bv]
    have hl : (loadCells ad n).run P w = .ok ((l.map fun x : UInt8 => (x.toNat : Int)).map (Value.int .u8)).toArray w := by
      have := run_loadCells_list (P := P) w ad (bv l) hc
      rw [bv_len, hlen, hb] at this
      exact this
    rw [run_convert_bytes_string w src dst e ad n c hs he hd, run_bytesToString w ad n c _ hl, foldl_push_bytes]
    simp [ByteArray.empty, ByteArray.emptyWithCapacity, Function.comp_def]
    rfl
  rcases h.2.2.2 with h0 | ⟨b, o, e, hb, hc⟩
  · subst h0
    obtain rfl : l = [] := List.eq_nil_of_length_eq_zero hlen
    rcases A with _ | ad
    · exact run_convert_bytes_nil w src e hs he 0 c dst hd
    · exact fin ad rfl (fun j u hu => by simp [bv] at hu)
  · refine fin _ e fun j u hu => ?_
    have := hc j u hu
    by_cases hj : j = 0
    · subst hj; simpa [Addr.add] using this
    · simpa [Addr.add, hj] using this

section
variable {w : World} {bs r p : Nat} {l : List UInt8} {q : Int}

theorem Rdr.cells {t : TypeId} (h : Rdr w t bs r l p q) : ∃ A n c, w.cell? ⟨r, 0, none⟩ = some (.slice A n c) ∧ w.cell? ⟨r, 1, none⟩ = some (.int .i64 (p : Int)) ∧ w.cell? ⟨r, 2, none⟩ = some (.int .i64 q) ∧
    w.frozen? ⟨r, 0, none⟩ = false ∧ w.frozen? ⟨r, 1, none⟩ = false ∧ w.frozen? ⟨r, 2, none⟩ = false ∧ Sl w r A n c (bv l) ∧ l.length = n ∧ p ≤ n ∧ n ≤ 70368744177664 := by
  obtain ⟨A, n, c, ho, hs, hp, hn, _, _⟩ := h
  have hl := hs.len
  rw [bv_len] at hl
  exact ⟨A, n, c, ho.cell 0, ho.cell 1, ho.cell 2, ho.frozen 0, ho.frozen 1, ho.frozen 2, hs, hl, hp, hn⟩

theorem fail_back {k a : Nat} (h : Rdr w 67 bs r l p 0) (ha : a ≤ p) : Calls Tryd.prog 51 #[.pointer (some ⟨r, 0, none⟩), .int .i64 (a : Int)] (w.drewN k) fun e w' =>
    e = .returned (.tuple #[]) ∧ Rdr w' 67 bs r l a 7 ∧ Only r w w' := by
  refine (fail_any (a : Int) (h.drewN k)).mono fun _ _ hh => ?_
  unfold failTo at hh
  rw [if_neg (by omega)] at hh
  obtain ⟨e1, e2, e3, _⟩ := hh
  exact ⟨e1, by simpa using e2, e3.of_drewN⟩

set_option maxHeartbeats 1600000 in
theorem rin_any {lo hi : Int} (h : Rdr w 67 bs r l p q) : Calls Tryd.prog 48 #[.pointer (some ⟨r, 0, none⟩), .int .i64 lo, .int .i64 hi] w fun e w' =>
    e = .returned (.int .i64 (rIn l p q lo hi).1) ∧ Rdr w' 67 bs r l (rIn l p q lo hi).2.1 (rIn l p q lo hi).2.2 ∧ Only r w w' := by
  have hnum := rnum_any h
  obtain ⟨A, n, c, h0, h1, h2, f0, f1, f2, hs, hl, hp, hn⟩ := h.cells
  have hfacts := rNum_facts (l := l) (p := p) (q := q) (by omega)
  obtain ⟨x, p1, q1⟩ : Int × Nat × Int := rNum l p q
  generalize hr : rNum l p q = res at *
  obtain ⟨x, p1, q1⟩ := res
  have hdef : rIn l p q lo hi = if q1 ≠ 0 then (0, p1, q1) else if x < lo ∨ hi < x then (0, p, 7) else (x, p1, q1) := by unfold rIn; rw [hr]
  have HDEF := Lib.hid hdef
  have HN := Lib.hid hnum
  have HF := Lib.hid hfacts
  clear hdef hnum hfacts hr hs hl
  go_enter Tryd.func48, Tryd.ntmps48
  go_wp2_with fail
  refine HN.out.mono ?_
  rintro e w1 ⟨rfl, hr1, ho1⟩
  obtain ⟨A1, n1, c1, g0, g1, g2, e0, e1, e2, hs1, hl1, hp1, hn1⟩ := hr1.cells
  have HR1 := Lib.hid hr1
  have HO1 := Lib.hid ho1
  clear hr1 ho1 hs1 hl1 h0 h1 h2 f0 f1 f2
  by_cases hq1 : q1 = 0
  · obtain rfl : q1 = 0 := hq1
    by_cases hlo : x < lo
    · go_wp2_with fail
      refine (fail_back (k := 0) HR1.out (HF.out.2.1)).mono ?_
      rintro e w2 ⟨rfl, hr2, ho2⟩
      have HR2 := Lib.hid hr2
      have HO2 := Lib.hid ho2
      clear hr2 ho2
      go_wp2_with fail
      go_ret
      rw [HDEF.out, if_neg (by simp), if_pos (by omega)]
      exact ⟨rfl, HR2.out, HO1.out.trans HO2.out⟩
    · by_cases hhi : hi < x
      · go_wp2_with fail
        refine (fail_back (k := 0) HR1.out (HF.out.2.1)).mono ?_
        rintro e w2 ⟨rfl, hr2, ho2⟩
        have HR2 := Lib.hid hr2
        have HO2 := Lib.hid ho2
        clear hr2 ho2
        go_wp2_with fail
        go_ret
        rw [HDEF.out, if_neg (by simp), if_pos (by omega)]
        exact ⟨rfl, HR2.out, HO1.out.trans HO2.out⟩
      · go_wp2_with fail
        go_ret
        rw [HDEF.out, if_neg (by simp), if_neg (by omega)]
        exact ⟨rfl, HR1.out, HO1.out⟩
  · have hq' : (q1 != 0) = true := by rw [bne_iff_ne]; exact hq1
    have HQ := Lib.hid hq1
    clear hq1
    go_wp2_with fail
    go_ret
    rw [HDEF.out, if_pos HQ.out]
    exact ⟨rfl, HR1.out, HO1.out⟩

set_option maxHeartbeats 3200000 in
theorem rtext_any {most : Int} (h : Rdr w 67 bs r l p q) : Calls Tryd.prog 49 #[.pointer (some ⟨r, 0, none⟩), .int .i64 most] w fun e w' =>
    e = .returned (.string ⟨(rText l p q most).1.toArray⟩) ∧ Rdr w' 67 bs r l (rText l p q most).2.1 (rText l p q most).2.2 ∧ Only r w w' := by
  have hin := rin_any (lo := 0) (hi := most) h
  obtain ⟨A, n, c, h0, h1, h2, f0, f1, f2, hs, hl, hp, hn⟩ := h.cells
  have hfacts := rIn_facts (l := l) (p := p) (q := q) (lo := 0) (hi := most) (by omega)
  generalize hr : rIn l p q 0 most = res at *
  obtain ⟨x, p1, q1⟩ := res
  have hdef : rText l p q most = if q1 ≠ 0 then ([], p1, q1) else if (l.length : Int) - p1 < x then ([], p, 7) else ((l.drop p1).take x.toNat, p1 + x.toNat, q1) := by unfold rText; rw [hr]
  have HDEF := Lib.hid hdef
  have HN := Lib.hid hin
  have HF := Lib.hid hfacts
  clear hdef hin hfacts hr hs hl
  go_enter Tryd.func49, Tryd.ntmps49
  go_wp2_with fail
  refine HN.out.mono ?_
  rintro e w1 ⟨rfl, hr1, ho1⟩
  obtain ⟨A1, n1, c1, g0, g1, g2, e0, e1, e2, hs1, hl1, hp1, hn1⟩ := hr1.cells
  have hnc := hs1.le
  have hcap := hs1.cap
  unfold maxLen at hcap
  have HR1 := Lib.hid hr1
  have HO1 := Lib.hid ho1
  have HS1 := Lib.hid hs1
  have HL1 := Lib.hid hl1
  clear hr1 ho1 hs1 hl1 h0 h1 h2 f0 f1 f2
  by_cases hq1 : q1 = 0
  · obtain rfl : q1 = 0 := hq1
    have hx0 : 0 ≤ x := (HF.out.2.2.2.2.2 rfl).2.2.1
    obtain ⟨m, rfl⟩ := Int.eq_ofNat_of_zero_le hx0
    have hm63 : (m : Int) ≤ 9223372036854775807 := HF.out.2.2.2.1
    by_cases hfit : n1 < p1 + m
    · have hd : decide ((n1 : Int) - (p1 : Int) < (m : Int)) = true := by simp; omega
      go_wp2_with fail
      go_quiet (fail)
      go_wp2_with fail
      refine (fail_back HR1.out (HF.out.2.1)).mono ?_
      rintro e w2 ⟨rfl, hr2, ho2⟩
      have HR2 := Lib.hid hr2
      have HO2 := Lib.hid ho2
      clear hr2 ho2
      go_wp2_with fail
      go_ret
      rw [HDEF.out, if_neg (by simp), if_pos (by have := HL1.out; omega)]
      exact ⟨rfl, HR2.out, HO1.out.trans HO2.out⟩
    · have hd : decide ((n1 : Int) - (p1 : Int) < (m : Int)) = false := by simp; omega
      have hsl : Sl w1 r (if c1 = p1 then A1 else A1.map (·.add p1)) m (c1 - p1) (bv ((l.drop p1).take m)) := by
        rw [bv_take, bv_drop]; exact (HS1.out.drop hp1).take (by omega)
      have hcv : ∀ k, (convert 37 9 (.slice (if c1 = p1 then A1 else A1.map (·.add p1)) m (c1 - p1))).run Tryd.prog (w1.drewN k) = .ok (.string ⟨((l.drop p1).take m).toArray⟩) (w1.drewN k) :=
        fun k => conv_text Tryd.underlying37 Tryd.underlying5 Tryd.underlying9 (hsl.drewN k)
      clear hsl
      generalize hstr : (⟨((l.drop p1).take m).toArray⟩ : ByteArray) = str at hcv
      have HSTR := Lib.hid hstr
      clear hstr
      rcases Nat.lt_or_ge p1 c1 with hpc | hpc
      · have hne : ¬ c1 = p1 := by omega
        simp only [if_neg hne] at hcv
        go_wp2_with fail
        go_quiet (fail)
        go_wp2_with fail
        go_quiet (fail)
        go_wp2_with fail
        go_ret
        rw [HDEF.out, if_neg (by simp), if_neg (by have := HL1.out; omega)]
        exact ⟨by rw [← HSTR.out]; rfl, (HR1.out.drewN _).move (p' := p1 + m) (by have := HL1.out; omega) (by rw [Int.natCast_add]), (HO1.out.drewN _).setCell (p := ⟨r, 1, none⟩) rfl _⟩
      · obtain rfl : c1 = p1 := by omega
        obtain rfl : n1 = c1 := by omega
        obtain rfl : m = 0 := by omega
        simp only [if_pos, Nat.sub_self] at hcv
        go_wp2_with fail
        go_quiet (fail)
        go_wp2_with fail
        go_quiet (fail)
        go_wp2_with fail
        go_ret
        rw [HDEF.out, if_neg (by simp), if_neg (by have := HL1.out; omega)]
        exact ⟨by rw [← HSTR.out]; rfl, (HR1.out.drewN _).move (by have := HL1.out; show n1 + 0 ≤ _; omega) rfl, (HO1.out.drewN _).setCell (p := ⟨r, 1, none⟩) rfl _⟩
  · have hq' : (q1 != 0) = true := by rw [bne_iff_ne]; exact hq1
    have HQ := Lib.hid hq1
    clear hq1
    go_wp2_with fail
    go_ret
    rw [HDEF.out, if_pos HQ.out]
    exact ⟨rfl, HR1.out, HO1.out⟩
end
end Go.Proofs.YtjplgcjpnofgbaaDoor
