/- PolicyDeep: its policies in memory as they grow. -/
import Derived.Test.YtincnopaclmppaaPolDeepM
import Derived.Test.YtincnopaclmppaaGr
import Derived.Test.YtincnopaclmppaaPolRight
namespace Go.Proofs.Ytincnopaclmppaa
set_option linter.unusedVariables false
open Go.RowKit

/-- One more row of cells behind a row of the call's own. -/
theorem push_raw {P : Program} {T E : TypeId} {i : TypeInfo} {z : Value} {k by_ : Nat} (ht : P.underlying T = some (.slice E)) (hi : P.info? E = some i) (hz : i.zero = some z) (hs : i.size = k) (hb : i.bytes = by_) (hzs : z.cells.size = k) (hk : 0 < k) (hby : by_ ≤ 1000)
    {w : World} {base n c ty : Nat} {A : Option Addr} {xs ys : List Value} (h : w.ownsRow base E k (.slice A n c) n xs) (hy : ys.length = k) (h1 : ∀ v ∈ ys, v.oneCell' = true) (hn : n < 1000000) (hbase : base ≤ w.heap.size) :
    ∃ A' c' w', (Builtin.append_ #[T, T] ty #[.slice A n c, .slice (some ⟨w.heap.size, 0, none⟩) 1 1]).run P (w.alloc (.cells ys.toArray E)) = .ok (.slice A' (n + 1) c') w' ∧
      w'.ownsRow base E k (.slice A' (n + 1) c') (n + 1) (xs ++ ys) ∧ Below base w w' ∧ w.grownBy w' (Value.slice A n c).ownBlock ∧
      ((Value.slice A' (n + 1) c').ownBlock = (Value.slice A n c).ownBlock ∨ (Value.slice A' (n + 1) c').ownBlock = some (w.heap.size + 1)) := by
  have e1 : Below w.heap.size w (w.alloc (.cells ys.toArray E)) := (Below.refl _ _).alloc (Nat.le_refl _) _
  have hf : Fl (w.alloc (.cells ys.toArray E)) k (some ⟨w.heap.size, 0, none⟩) 1 ys := by
    refine ⟨by rw [hy, Nat.one_mul], h1, .inr ⟨w.heap.size, 0, rfl, fun j u hu => ?_⟩⟩
    have := (Ob.made w E ys.toArray).cell j
    rw [Nat.zero_add, this, List.getElem?_toArray]
    exact hu
  obtain ⟨A', c', w', r, o, b, g, hob⟩ := append_rows (ty := ty) (c2 := 1) ht hi hz hs hb hzs hk hby (h.alloc (.cells ys.toArray E)) hf (by omega) (by rw [size_al]; omega)
  exact ⟨A', c', w', r, o, (e1.mono hbase).trans b, ⟨g.os.trans e1.os, g.tape.trans e1.tape, g.output.trans e1.output, Nat.le_trans e1.size g.size, fun k hk hne => (g.block k (by rw [size_al]; omega) hne).trans (e1.block k hk)⟩, by rwa [size_al] at hob⟩
def rulV (x : ByteArray) : List Value := [.string x, .bool false, .slice none 0 0, .slice none 0 0, .slice none 0 0]
def leafV (x : ByteArray) (A : Option Addr) (n c : Nat) : List Value := [.string x, .bool false, .int .i64 3, .slice none 0 0, .slice A n c, .slice none 0 0, .slice none 0 0]
def setV (x : ByteArray) (A : Option Addr) (n c : Nat) : List Value := [.string x, .bool true, .int .i64 4, .slice none 0 0, .slice none 0 0, .slice A n c, .slice none 0 0]
theorem rulinfo : (Try.prog.info? 37).map (fun i => (i.zero, i.size, i.bytes)) = some (some (.agg #[.string ⟨#[]⟩, .bool false, .slice none 0 0, .slice none 0 0, .slice none 0 0]), 5, 96) := by kernel_rfl
theorem polinfo : (Try.prog.info? 31).map (fun i => (i.zero, i.size, i.bytes)) = some (some (.agg #[.string ⟨#[]⟩, .bool false, .int .i64 0, .slice none 0 0, .slice none 0 0, .slice none 0 0, .slice none 0 0]), 7, 128) := by kernel_rfl
theorem Rw.map {α β : Type} {k : Nat} {P : List Value → α → Prop} {P' : List Value → β → Prop} {w : World} {R : Nat → Prop} {A : Option Addr} {n c : Nat} {l : List α} (h : Rw k P w R A n c l) (f : α → β) (hP : ∀ vs x, P vs x → P' vs (f x)) : Rw k P' w R A n c (l.map f) := by
  obtain ⟨h1, h2, h3, h4⟩ := h
  refine ⟨by rw [List.length_map]; exact h1, h2, h3, ?_⟩
  rcases h4 with h4 | ⟨b, o, e, hb, hlt, hc⟩
  · exact .inl h4
  · refine .inr ⟨b, o, e, hb, hlt, fun j x hx => ?_⟩
    rw [List.getElem?_map, Option.map_eq_some_iff] at hx
    obtain ⟨y, hy, rfl⟩ := hx
    obtain ⟨vs, a1, a2, a3⟩ := hc j y hy
    exact ⟨vs, a1, a2, hP vs y a3⟩
/-- A row of rules without anything but their names. -/
theorem flat_rus {w : World} {base n c : Nat} {A : Option Addr} {xs : List ByteArray} {R : Nat → Prop} (h : w.ownsRow base 37 5 (.slice A n c) n (xs.flatMap rulV)) (hl : xs.length = n) (hn : n ≤ 1000000) (hok : ∀ x ∈ xs, x.size ≤ maxLen) (hR : ∀ ad, A = some ad → base ≤ ad.block → R ad.block) : Rus w R A n c (xs.map rulD) := by
  have := Rw.flat_own (okp := fun x : ByteArray => x.size ≤ maxLen) h (by omega) hl (fun _ => rfl) hok hR
  exact this.map rulD fun vs x ⟨e, hx⟩ => ⟨none, 0, 0, none, 0, 0, none, 0, 0, e, hx, Rw.nil_ _ _ _ _, Rw.nil_ _ _ _ _, Rw.nil_ _ _ _ _⟩
/-- One more rule. -/
theorem push_rul {w : World} {base n c : Nat} {A : Option Addr} {xs : List ByteArray} (h : w.ownsRow base 37 5 (.slice A n c) n (xs.flatMap rulV)) (x : ByteArray) (hn : n < 1000000) (hbase : base ≤ w.heap.size) :
    ∃ A' c' w', (Builtin.append_ #[27, 27] 27 #[.slice A n c, .slice (some ⟨w.heap.size, 0, none⟩) 1 1]).run Try.prog (w.alloc (.cells #[.string x, .bool false, .slice none 0 0, .slice none 0 0, .slice none 0 0] 37)) = .ok (.slice A' (n + 1) c') w' ∧
      w'.ownsRow base 37 5 (.slice A' (n + 1) c') (n + 1) ((xs ++ [x]).flatMap rulV) ∧ Below base w w' ∧ w.grownBy w' (Value.slice A n c).ownBlock ∧
      ((Value.slice A' (n + 1) c').ownBlock = (Value.slice A n c).ownBlock ∨ (Value.slice A' (n + 1) c').ownBlock = some (w.heap.size + 1)) := by
  obtain ⟨i, hi, hz, hs, hb⟩ := info_of rulinfo
  have e : (xs ++ [x]).flatMap rulV = xs.flatMap rulV ++ rulV x := by simp
  rw [e]
  exact push_raw Try.underlying27 hi hz hs hb rfl (by omega) (by omega) h (ys := rulV x) rfl (by intro v hv; simp [rulV] at hv; rcases hv with rfl | rfl | rfl | rfl | rfl <;> rfl) hn hbase

/-- Kids that are finished, and a last one whose rules still grow. -/
def KInv (w : World) (base : Nat) (A : Option Addr) (q c : Nat) (ks : List Pol) (id : ByteArray) (A2 : Option Addr) (n2 c2 : Nat) (xs : List ByteArray) : Prop :=
  ∃ raw : List (List Value), w.ownsRow base 31 7 (.slice A q c) q (raw.flatten ++ leafV id A2 n2 c2) ∧ (raw.length = ks.length ∧ q = ks.length + 1 ∧ ∀ y ∈ raw, y.length = 7) ∧
    (∀ (j : Nat) vs p, raw[j]? = some vs → ks[j]? = some p → PolAt w (fun b => base ≤ b ∧ some b ≠ (Value.slice A q c).ownBlock ∧ some b ≠ (Value.slice A2 n2 c2).ownBlock) 1 vs p) ∧
    w.ownsRow base 37 5 (.slice A2 n2 c2) n2 (xs.flatMap rulV) ∧ (xs.length = n2 ∧ (∀ x ∈ xs, x.size ≤ maxLen) ∧ id.size ≤ maxLen) ∧ ((Value.slice A2 n2 c2).ownBlock = none ∨ (Value.slice A2 n2 c2).ownBlock ≠ (Value.slice A q c).ownBlock) ∧ base ≤ w.heap.size
/-- The last one, finished. -/
theorem leaf_at {w : World} {base n2 c2 : Nat} {A2 : Option Addr} {xs : List ByteArray} {id : ByteArray} {R : Nat → Prop} (h : w.ownsRow base 37 5 (.slice A2 n2 c2) n2 (xs.flatMap rulV)) (hl : xs.length = n2) (hn : n2 ≤ 1000000) (hok : ∀ x ∈ xs, x.size ≤ maxLen) (hid : id.size ≤ maxLen) (hR : ∀ ad, A2 = some ad → base ≤ ad.block → R ad.block) :
    PolAt w R 1 (leafV id A2 n2 c2) (.mk id false 3 [] (xs.map rulD) [] []) :=
  ⟨none, 0, 0, A2, n2, c2, none, 0, 0, none, 0, 0, rfl, hid, (show InI 3 by decide), Rw.nil_ _ _ _ _, flat_rus h hl hn hok hR, Rw.nil_ _ _ _ _, Rw.nil_ _ _ _ _⟩
theorem KInv.below {w w' : World} {base : Nat} {A : Option Addr} {q c : Nat} {ks : List Pol} {id : ByteArray} {A2 : Option Addr} {n2 c2 : Nat} {xs : List ByteArray} (h : KInv w base A q c ks id A2 n2 c2 xs) (hb : Below w.heap.size w w') : KInv w' base A q c ks id A2 n2 c2 xs := by
  obtain ⟨raw, h1, h2, h3, h4, h5, h6, h7⟩ := h
  have own : ∀ {E n size v} {ys : List Value}, w.ownsRow base E size v n ys → w'.ownsRow base E size v n ys := fun {E n size v ys} h =>
    h.kept (row := none) ⟨hb.os, hb.tape, hb.output, hb.size, fun k hk _ => hb.block k hk⟩ (by by_cases hv : v.ownBlock = none; exact .inl hv; exact .inr hv)
  exact ⟨raw, own h1, h2, fun j vs p a b => (h3 j vs p a b).keep (Kept.all hb _) (fun _ h _ => h), own h4, h5, h6, Nat.le_trans h7 hb.size⟩
/-- All of them. -/
theorem KInv.pls {w : World} {base : Nat} {A : Option Addr} {q c : Nat} {ks : List Pol} {id : ByteArray} {A2 : Option Addr} {n2 c2 : Nat} {xs : List ByteArray} (h : KInv w base A q c ks id A2 n2 c2 xs) (hq : q ≤ 1000000) (hn : n2 ≤ 1000000) :
    Pls w (fun b => base ≤ b) 1 A q c (ks ++ [.mk id false 3 [] (xs.map rulD) [] []]) := by
  obtain ⟨raw, h1, ⟨h2, h2', h2''⟩, h3, h4, h5, h6, h7⟩ := h
  refine Rw.of_own (raw := raw ++ [leafV id A2 n2 c2]) (by rw [List.flatten_append]; simpa using h1) (by omega) (by simp; omega) (by simp; omega) (fun y hy => ?_) (fun j vs x a b => ?_) (fun _ _ h => h)
  · rcases List.mem_append.1 hy with hy | hy
    · exact h2'' y hy
    · simp at hy; subst hy; rfl
  · by_cases hj : j < ks.length
    · rw [List.getElem?_append_left (by omega)] at a b
      exact (h3 j vs x a b).keep (Kept.refl _ _) (fun b hb _ => hb.1)
    · rw [List.getElem?_append_right (by omega)] at a b
      have e : j - ks.length = 0 := by
        have := (List.getElem?_eq_some_iff.1 b).1
        simp at this
        omega
      rw [h2, e] at a
      rw [e] at b
      simp at a b
      subst a b
      exact leaf_at h4 h5.1 hn h5.2.1 h5.2.2 (fun _ _ h => h)
theorem own_block_lt {w : World} {base e size n : Nat} {A : Option Addr} {m c : Nat} {ys : List Value} (h : w.ownsRow base e size (.slice A m c) n ys) : ∀ b, (Value.slice A m c).ownBlock = some b → base ≤ b ∧ b < w.heap.size := h.lt
/-- The first kid, or one more. -/
theorem kid_first {w : World} {base : Nat} (x : ByteArray) (hx : x.size ≤ maxLen) (hbase : base ≤ w.heap.size) :
    ∃ A' c' w', (Builtin.append_ #[28, 28] 28 #[.slice none 0 0, .slice (some ⟨w.heap.size, 0, none⟩) 1 1]).run Try.prog (w.alloc (.cells #[.string x, .bool false, .int .i64 3, .slice none 0 0, .slice none 0 0, .slice none 0 0, .slice none 0 0] 31)) = .ok (.slice A' 1 c') w' ∧
      KInv w' base A' 1 c' [] x none 0 0 [] ∧ Below base w w' := by
  obtain ⟨i, hi, hz, hs, hb⟩ := info_of polinfo
  obtain ⟨A', c', w', r, o, b, g, hob⟩ := push_raw (ty := 28) Try.underlying28 hi hz hs hb rfl (by omega) (by omega) (World.ownsRow_nil w base 31 7) (ys := leafV x none 0 0) rfl (by intro v hv; simp [leafV] at hv; rcases hv with rfl | rfl | rfl | rfl | rfl | rfl | rfl <;> rfl) (by omega) hbase
  rw [Nat.zero_add] at r o
  exact ⟨A', c', w', r, ⟨[], by simpa using o, ⟨rfl, rfl, by simp⟩, by simp, World.ownsRow_nil w' base 37 5, ⟨rfl, by simp, hx⟩, .inl rfl, Nat.le_trans hbase g.size⟩, b⟩
theorem kid_more {w : World} {base : Nat} {A : Option Addr} {q c : Nat} {ks : List Pol} {id : ByteArray} {A2 : Option Addr} {n2 c2 : Nat} {xs : List ByteArray} (h : KInv w base A q c ks id A2 n2 c2 xs) (hq : q < 1000000) (hn : n2 ≤ 1000000) (x : ByteArray) (hx : x.size ≤ maxLen) :
    ∃ A' c' w', (Builtin.append_ #[28, 28] 28 #[.slice A q c, .slice (some ⟨w.heap.size, 0, none⟩) 1 1]).run Try.prog (w.alloc (.cells #[.string x, .bool false, .int .i64 3, .slice none 0 0, .slice none 0 0, .slice none 0 0, .slice none 0 0] 31)) = .ok (.slice A' (q + 1) c') w' ∧
      KInv w' base A' (q + 1) c' (ks ++ [.mk id false 3 [] (xs.map rulD) [] []]) x none 0 0 [] ∧ Below base w w' := by
  obtain ⟨raw, h1, ⟨h2, h2', h2''⟩, h3, h4, h5, h6, h7⟩ := h
  obtain ⟨i, hi, hz, hs, hb⟩ := info_of polinfo
  obtain ⟨A', c', w', r, o, b, g, hob⟩ := push_raw (ty := 28) Try.underlying28 hi hz hs hb rfl (by omega) (by omega) h1 (ys := leafV x none 0 0) rfl (by intro v hv; simp [leafV] at hv; rcases hv with rfl | rfl | rfl | rfl | rfl | rfl | rfl <;> rfl) hq h7
  have nb : ∀ b, some b ≠ (Value.slice A q c).ownBlock → b < w.heap.size → some b ≠ (Value.slice A' (q + 1) c').ownBlock := fun b hb hlt => by
    rcases hob with e | e
    · rw [e]; exact hb
    · rw [e]; intro he; injection he with he; omega
  refine ⟨A', c', w', r, ⟨raw ++ [leafV id A2 n2 c2], by rw [List.flatten_append]; simpa using o, ⟨by simp [h2], by simp [h2'], fun y hy => ?_⟩, fun j vs p a b => ?_, World.ownsRow_nil w' base 37 5, ⟨rfl, by simp, hx⟩, .inl rfl, Nat.le_trans h7 g.size⟩, b⟩
  · rcases List.mem_append.1 hy with hy | hy
    · exact h2'' y hy
    · simp at hy; subst hy; rfl
  · by_cases hj : j < ks.length
    · rw [List.getElem?_append_left (by omega)] at a b
      exact (h3 j vs p a b).keep ⟨g.size, fun b hb hlt => g.block b hlt hb.2.1⟩ (fun b hb hlt => ⟨hb.1, nb b hb.2.1 hlt, by simp [Value.ownBlock]⟩)
    · rw [List.getElem?_append_right (by omega)] at a b
      have e : j - ks.length = 0 := by
        have := (List.getElem?_eq_some_iff.1 b).1
        simp at this
        omega
      rw [h2, e] at a
      rw [e] at b
      simp at a b
      subst a b
      have hl := leaf_at (id := id) (R := fun b => base ≤ b ∧ some b = (Value.slice A2 n2 c2).ownBlock) h4 h5.1 hn h5.2.1 h5.2.2 (fun ad e hb => ⟨hb, by subst e; rfl⟩)
      refine hl.keep ⟨g.size, fun b hb hlt => g.block b hlt ?_⟩ (fun b hb hlt => ⟨hb.1, nb b ?_ hlt, by simp [Value.ownBlock]⟩)
      · intro e; rw [← hb.2] at h6; rcases h6 with h6 | h6
        · cases h6
        · exact h6 e
      · intro e; rw [← hb.2] at h6; rcases h6 with h6 | h6
        · cases h6
        · exact h6 e
/-- One more rule of the last kid: appended, and stored. -/
theorem kid_rule {w : World} {base : Nat} {A : Option Addr} {q c : Nat} {ks : List Pol} {id : ByteArray} {A2 : Option Addr} {n2 c2 : Nat} {xs : List ByteArray} (h : KInv w base A q c ks id A2 n2 c2 xs) (hn : n2 < 1000000) (x : ByteArray) (hx : x.size ≤ maxLen) :
    ∃ kb A3 c3 w1, A = some ⟨kb, 0, none⟩ ∧ (base ≤ kb ∧ kb < w.heap.size) ∧
      (Builtin.append_ #[27, 27] 27 #[.slice A2 n2 c2, .slice (some ⟨w.heap.size, 0, none⟩) 1 1]).run Try.prog (w.alloc (.cells #[.string x, .bool false, .slice none 0 0, .slice none 0 0, .slice none 0 0] 37)) = .ok (.slice A3 (n2 + 1) c3) w1 ∧ Below base w w1 ∧
      w1.cell? ⟨kb, ks.length * 7 + 4, none⟩ = some (.slice A2 n2 c2) ∧ w1.frozen? ⟨kb, ks.length * 7 + 4, none⟩ = false ∧ KInv (w1.setCell ⟨kb, ks.length * 7 + 4, none⟩ (.slice A3 (n2 + 1) c3)) base A q c ks id A3 (n2 + 1) c3 (xs ++ [x]) := by
  obtain ⟨raw, h1, ⟨h2, h2', h2''⟩, h3, h4, h5, h6, h7⟩ := h
  obtain ⟨A3, c3, w1, r, o, b, g, hob⟩ := push_rul h4 x hn h7
  have k1 : w1.ownsRow base 31 7 (.slice A q c) q (raw.flatten ++ leafV id A2 n2 c2) := h1.kept (row := (Value.slice A2 n2 c2).ownBlock) g (by
    rcases h6 with h6 | h6
    · rw [h6]
      by_cases hv : (Value.slice A q c).ownBlock = none
      · exact .inl hv
      · exact .inr hv
    · exact .inr (fun e => h6 e.symm))
  have k1s := k1
  have hfl : raw.flatten.length = ks.length * 7 := by rw [flatten_len h2'', h2]
  rcases k1.2 with ⟨hv, hz⟩ | ⟨kb, cap, cur, hv, hb, hg, hnc, hcm, hcs, ht⟩
  · omega
  · injection hv with e1 e2 e3
    subst e1 e3
    have hlt := (h1.lt kb rfl)
    obtain ⟨s1, s2⟩ := k1s.stored (ks.length * 7 + 4) (.slice A3 (n2 + 1) c3)
    have hset : (raw.flatten ++ leafV id A2 n2 c2).set (ks.length * 7 + 4) (.slice A3 (n2 + 1) c3) = raw.flatten ++ leafV id A3 (n2 + 1) c3 := by
      rw [List.set_append_right _ _ (by omega), hfl, show ks.length * 7 + 4 - ks.length * 7 = 4 by omega]
      rfl
    rw [hset] at s1
    have hne : (Value.slice A3 (n2 + 1) c3).ownBlock ≠ some kb := by
      rcases hob with e | e
      · rw [e]
        rcases h6 with h6 | h6
        · rw [h6]; simp
        · exact h6
      · rw [e]; intro he; injection he with he; omega
    have hcell : w1.cell? ⟨kb, ks.length * 7 + 4, none⟩ = some (.slice A2 n2 c2) := by
      have := k1s.cells (g := kb) rfl (ks.length * 7 + 4) (.slice A2 n2 c2) (by rw [List.getElem?_append_right (by omega), hfl, show ks.length * 7 + 4 - ks.length * 7 = 4 by omega]; rfl)
      have add : (⟨kb, 0, none⟩ : Addr).add (ks.length * 7 + 4) = ⟨kb, ks.length * 7 + 4, none⟩ := by simp [Addr.add]
      rw [add] at this
      exact this
    refine ⟨kb, A3, c3, w1, rfl, hlt, r, b, hcell, by simp [World.frozen?, hg], raw, s1, ⟨h2, h2', h2''⟩, fun j vs p a b' => ?_, o.kept (row := some kb) s2 (.inr hne), ⟨by simp [h5.1], fun y hy => ?_, h5.2.2⟩, .inr hne, Nat.le_trans h7 (Nat.le_trans g.size s2.size)⟩
    · have p1 := (h3 j vs p a b').keep (w' := w1) (R' := fun b => (base ≤ b ∧ some b ≠ some kb ∧ some b ≠ (Value.slice A2 n2 c2).ownBlock) ∧ b < w.heap.size) ⟨g.size, fun b hb hlt => g.block b hlt hb.2.2⟩ (fun b hb hlt => ⟨hb, hlt⟩)
      refine p1.keep ⟨s2.size, fun b hb hlt => s2.block b hlt hb.1.2.1⟩ (fun b hb hlt => ⟨hb.1.1, hb.1.2.1, ?_⟩)
      rcases hob with e | e
      · rw [e]; exact hb.1.2.2
      · rw [e]; intro he; injection he with he; have := hb.2; omega
    · rcases List.mem_append.1 hy with hy | hy
      · exact h5.2.1 y hy
      · simp at hy; subst hy; exact hx
theorem KInv.last {w : World} {base : Nat} {A : Option Addr} {q c : Nat} {ks : List Pol} {id : ByteArray} {A2 : Option Addr} {n2 c2 : Nat} {xs : List ByteArray} (h : KInv w base A q c ks id A2 n2 c2 xs) : ∃ kb, A = some ⟨kb, 0, none⟩ ∧ (base ≤ kb ∧ kb < w.heap.size) ∧ q = ks.length + 1 ∧ q ≤ c ∧ w.cell? ⟨kb, ks.length * 7 + 4, none⟩ = some (.slice A2 n2 c2) := by
  obtain ⟨raw, h1, ⟨h2, h2', h2''⟩, h3, h4, h5, h6, h7⟩ := h
  have hfl : raw.flatten.length = ks.length * 7 := by rw [flatten_len h2'', h2]
  have h1s := h1
  rcases h1.2 with ⟨hv, hz⟩ | ⟨kb, cap, cur, hv, hb, hg, hnc, hcm, hcs, ht⟩
  · omega
  · injection hv with e1 e2 e3
    subst e1 e3
    have := h1s.cells (g := kb) rfl (ks.length * 7 + 4) (.slice A2 n2 c2) (by rw [List.getElem?_append_right (by omega), hfl, show ks.length * 7 + 4 - ks.length * 7 = 4 by omega]; rfl)
    have add : (⟨kb, 0, none⟩ : Addr).add (ks.length * 7 + 4) = ⟨kb, ks.length * 7 + 4, none⟩ := by simp [Addr.add]
    rw [add] at this
    exact ⟨kb, rfl, h1s.lt kb rfl, h2', hnc, this⟩
/-- Seven cells stored over others. -/
def put1W (V : World) (P : Nat) (b0 : Value) : World := V.setCell ⟨P, 0, none⟩ b0
def put2W (V : World) (P : Nat) (b0 b1 : Value) : World := (put1W V P b0).setCell ⟨P, 1, none⟩ b1
def put3W (V : World) (P : Nat) (b0 b1 b2 : Value) : World := (put2W V P b0 b1).setCell ⟨P, 2, none⟩ b2
def put4W (V : World) (P : Nat) (b0 b1 b2 b3 : Value) : World := (put3W V P b0 b1 b2).setCell ⟨P, 3, none⟩ b3
def put5W (V : World) (P : Nat) (b0 b1 b2 b3 b4 : Value) : World := (put4W V P b0 b1 b2 b3).setCell ⟨P, 4, none⟩ b4
def put6W (V : World) (P : Nat) (b0 b1 b2 b3 b4 b5 : Value) : World := (put5W V P b0 b1 b2 b3 b4).setCell ⟨P, 5, none⟩ b5
def put7W (V : World) (P : Nat) (b0 b1 b2 b3 b4 b5 b6 : Value) : World := (put6W V P b0 b1 b2 b3 b4 b5).setCell ⟨P, 6, none⟩ b6
section
variable {V : World} {P : Nat} {t : TypeId} {a0 a1 a2 a3 a4 a5 a6 : Value}
theorem put1_ob (h : Ob V P t #[a0, a1, a2, a3, a4, a5, a6]) (b0 : Value) : Ob (put1W V P b0) P t #[b0, a1, a2, a3, a4, a5, a6] := h.put 0 b0
theorem put2_ob (h : Ob V P t #[a0, a1, a2, a3, a4, a5, a6]) (b0 b1 : Value) : Ob (put2W V P b0 b1) P t #[b0, b1, a2, a3, a4, a5, a6] := (put1_ob h b0).put 1 b1
theorem put3_ob (h : Ob V P t #[a0, a1, a2, a3, a4, a5, a6]) (b0 b1 b2 : Value) : Ob (put3W V P b0 b1 b2) P t #[b0, b1, b2, a3, a4, a5, a6] := (put2_ob h b0 b1).put 2 b2
theorem put4_ob (h : Ob V P t #[a0, a1, a2, a3, a4, a5, a6]) (b0 b1 b2 b3 : Value) : Ob (put4W V P b0 b1 b2 b3) P t #[b0, b1, b2, b3, a4, a5, a6] := (put3_ob h b0 b1 b2).put 3 b3
theorem put5_ob (h : Ob V P t #[a0, a1, a2, a3, a4, a5, a6]) (b0 b1 b2 b3 b4 : Value) : Ob (put5W V P b0 b1 b2 b3 b4) P t #[b0, b1, b2, b3, b4, a5, a6] := (put4_ob h b0 b1 b2 b3).put 4 b4
theorem put6_ob (h : Ob V P t #[a0, a1, a2, a3, a4, a5, a6]) (b0 b1 b2 b3 b4 b5 : Value) : Ob (put6W V P b0 b1 b2 b3 b4 b5) P t #[b0, b1, b2, b3, b4, b5, a6] := (put5_ob h b0 b1 b2 b3 b4).put 5 b5
theorem put7_ob (h : Ob V P t #[a0, a1, a2, a3, a4, a5, a6]) (b0 b1 b2 b3 b4 b5 b6 : Value) : Ob (put7W V P b0 b1 b2 b3 b4 b5 b6) P t #[b0, b1, b2, b3, b4, b5, b6] := (put6_ob h b0 b1 b2 b3 b4 b5).put 6 b6
theorem put7_only (b0 b1 b2 b3 b4 b5 b6 : Value) : Only P V (put7W V P b0 b1 b2 b3 b4 b5 b6) := by
  have on : ∀ {W : World} (q : Only P V W) (i : Nat) (b : Value), Only P V (W.setCell ⟨P, i, none⟩ b) := fun q i b => q.setCell rfl b
  exact on (on (on (on (on (on (on Only.refl 0 b0) 1 b1) 2 b2) 3 b3) 4 b4) 5 b5) 6 b6
end
theorem deep_parts {j : Nat} : (deepP j).id.size ≤ maxLen ∧ InI (deepP j).alg ∧ (deepP j).tg = [] ∧ (deepP j).rules = [] ∧ (deepP j).ob = [] := by
  cases j with
  | zero => exact ⟨by decide, by decide, rfl, rfl, rfl⟩
  | succ j => exact ⟨by show (3 : Nat) ≤ _; decide, (show InI 4 by decide), rfl, rfl, rfl⟩
/-- Sets within each other: one more. -/
theorem deep_step {w V V' : World} {P L j : Nat} {A : Option Addr} {n c : Nat} (hrw : Rw 7 (PolAt w (fun b => P < b) j) w (fun b => P < b) A n c (deepP j).kids) (hP : P < w.heap.size) (hV : Below w.heap.size w V)
    (hL : Ob V L 31 #[.string (deepP j).id, .bool (deepP j).set, .int .i64 (deepP j).alg, .slice none 0 0, .slice none 0 0, .slice A n c, .slice none 0 0]) (hLge : w.heap.size ≤ L) (hO : Only P V V') :
    Rw 7 (PolAt V' (fun b => P < b) (j + 1)) V' (fun b => P < b) (some ⟨L, 0, none⟩) 1 1 (deepP (j + 1)).kids := by
  have hne : L ≠ P := by omega
  have K : Kept (fun b => P < b) w V' := ⟨Nat.le_trans hV.size hO.le, fun b hb hlt => (hO.heap (Nat.lt_of_lt_of_le hlt hV.size) (by have : P < b := hb; omega)).trans (hV.block b hlt)⟩
  have hat : PolAt V' (fun b => P < b) (j + 1) [.string (deepP j).id, .bool (deepP j).set, .int .i64 (deepP j).alg, .slice none 0 0, .slice none 0 0, .slice A n c, .slice none 0 0] (deepP j) := by
    have hk := Rw.keep hrw K (fun _ h _ => h) (P' := PolAt V' (fun b => P < b) j) (fun vs x _ hx => PolAt.keep K (fun _ h _ => h) hx)
    refine ⟨none, 0, 0, none, 0, 0, A, n, c, none, 0, 0, rfl, deep_parts.1, deep_parts.2.1, ?_, ?_, hk, ?_⟩
    · rw [deep_parts.2.2.1]; exact Rw.nil_ _ _ _ _
    · rw [deep_parts.2.2.2.1]; exact Rw.nil_ _ _ _ _
    · rw [deep_parts.2.2.2.2]; exact Rw.nil_ _ _ _ _
  have hL' : Ob V' L 31 _ := hL.keep (hO.heap hL.lt hne)
  refine ⟨rfl, Nat.le_refl _, ⟨by simp [maxLen], by omega⟩, .inr ⟨L, 0, rfl, (show P < L by omega), hL'.lt, fun i x hx => ?_⟩⟩
  have hi : i = 0 := by have := (List.getElem?_eq_some_iff.1 hx).1; simp [deepP, Pol.kids] at this; omega
  subst hi
  simp [deepP, Pol.kids] at hx
  subst hx
  refine ⟨_, rfl, fun i v hv => ?_, hat⟩
  have := hL'.cell i
  rw [show 0 + 0 * 7 + i = i by omega, this, List.getElem?_toArray]
  exact hv
/-- What the set has so far. -/
def KSt (w : World) (base : Nat) (A : Option Addr) (q c : Nat) (L : List Pol) : Prop :=
  (A = none ∧ q = 0 ∧ c = 0 ∧ L = [] ∧ base ≤ w.heap.size) ∨ ∃ ks id A2 n2 c2 xs, KInv w base A q c ks id A2 n2 c2 xs ∧ L = ks ++ [.mk id false 3 [] (xs.map rulD) [] []]
theorem KSt.base_le {w : World} {base : Nat} {A : Option Addr} {q c : Nat} {L : List Pol} (h : KSt w base A q c L) : base ≤ w.heap.size := by
  rcases h with ⟨_, _, _, _, h⟩ | ⟨_, _, _, _, _, _, h, _⟩
  · exact h
  · obtain ⟨_, _, _, _, _, _, _, h⟩ := h; exact h
theorem KSt.below {w w' : World} {base : Nat} {A : Option Addr} {q c : Nat} {L : List Pol} (h : KSt w base A q c L) (hb : Below w.heap.size w w') : KSt w' base A q c L := by
  rcases h with ⟨h1, h2, h3, h4, h5⟩ | ⟨ks, id, A2, n2, c2, xs, h, e⟩
  · exact .inl ⟨h1, h2, h3, h4, Nat.le_trans h5 hb.size⟩
  · exact .inr ⟨ks, id, A2, n2, c2, xs, h.below hb, e⟩
theorem KSt.len {w : World} {base : Nat} {A : Option Addr} {q c : Nat} {L : List Pol} (h : KSt w base A q c L) : L.length = q := by
  rcases h with ⟨h1, h2, h3, h4, h5⟩ | ⟨ks, id, A2, n2, c2, xs, ⟨_, _, ⟨_, e2, _⟩, _⟩, e⟩
  · rw [h2, h4]; rfl
  · rw [e, e2]; simp
theorem KSt.pls {w : World} {base : Nat} {A : Option Addr} {q c : Nat} {L : List Pol} (h : KSt w base A q c L) (hq : q ≤ 1000000) (hn : ∀ p ∈ L, p.rules.length ≤ 1000000) : Pls w (fun b => base ≤ b) 1 A q c L := by
  rcases h with ⟨h1, h2, h3, h4, h5⟩ | ⟨ks, id, A2, n2, c2, xs, h, e⟩
  · subst h1 h2 h3 h4; exact Rw.nil_ _ _ _ _
  · rw [e]
    refine h.pls hq ?_
    have := hn (.mk id false 3 [] (xs.map rulD) [] []) (by rw [e]; simp)
    obtain ⟨_, _, _, _, _, ⟨hl, _⟩, _⟩ := h
    simp [Pol.rules] at this
    omega
theorem kid_new {w : World} {base : Nat} {A : Option Addr} {q c : Nat} {L : List Pol} (h : KSt w base A q c L) (hq : q < 1000000) (hn : ∀ p ∈ L, p.rules.length ≤ 1000000) (x : ByteArray) (hx : x.size ≤ maxLen) :
    ∃ A' c' w', (Builtin.append_ #[28, 28] 28 #[.slice A q c, .slice (some ⟨w.heap.size, 0, none⟩) 1 1]).run Try.prog (w.alloc (.cells #[.string x, .bool false, .int .i64 3, .slice none 0 0, .slice none 0 0, .slice none 0 0, .slice none 0 0] 31)) = .ok (.slice A' (q + 1) c') w' ∧
      KInv w' base A' (q + 1) c' L x none 0 0 [] ∧ Below base w w' := by
  rcases h with ⟨h1, h2, h3, h4, h5⟩ | ⟨ks, id, A2, n2, c2, xs, h, e⟩
  · subst h1 h2 h3 h4
    exact kid_first x hx h5
  · have hl : n2 ≤ 1000000 := by
      have := hn (.mk id false 3 [] (xs.map rulD) [] []) (by rw [e]; simp)
      obtain ⟨_, _, _, _, _, ⟨hl, _⟩, _⟩ := h
      simp [Pol.rules] at this
      omega
    rw [e]
    exact kid_more h hq hl x hx
theorem KInv.grown {w w' : World} {base s : Nat} {A : Option Addr} {q c : Nat} {ks : List Pol} {id : ByteArray} {A2 : Option Addr} {n2 c2 : Nat} {xs : List ByteArray} (h : KInv w base A q c ks id A2 n2 c2 xs) (hb : Only s w w') (hs : s < base) : KInv w' base A q c ks id A2 n2 c2 xs := by
  obtain ⟨raw, h1, h2, h3, h4, h5, h6, h7⟩ := h
  have own : ∀ {E n size v} {ys : List Value}, w.ownsRow base E size v n ys → w'.ownsRow base E size v n ys := fun {E n size v ys} h =>
    h.kept (row := some s) hb (.inr (fun e => by have := (h.lt s e).1; omega))
  exact ⟨raw, own h1, h2, fun j vs p a b => (h3 j vs p a b).keep ⟨hb.le, fun b hb' hlt => hb.heap hlt (by have := hb'.1; omega)⟩ (fun _ h _ => h), own h4, h5, h6, Nat.le_trans h7 hb.le⟩
/-- The last kid, when a rule more comes into it. -/
theorem set_last {m : Nat} {ks : List Pol} {id : ByteArray} {xs : List ByteArray} (h : m % 16 ≠ 0) (e : (setD m).kids = ks ++ [.mk id false 3 [] (xs.map rulD) [] []]) : (setD (m + 1)).kids = ks ++ [.mk id false 3 [] ((xs ++ [nmU m]).map rulD) [] []] := by
  obtain ⟨ks', rs, e1, e2, e3⟩ := setD_last h
  rw [e] at e1
  have hl : ks.length = ks'.length := by have := congrArg List.length e1; simp at this; exact this
  obtain ⟨a, b⟩ := List.append_inj e1 hl
  subst a
  simp at b
  obtain ⟨b1, b2⟩ := b
  rw [e3, b1, ← b2]
  simp
theorem set_new {m : Nat} (h : m % 16 = 0) : (setD (m + 1)).kids = (setD m).kids ++ [.mk (nmK m) false 3 [] (([] ++ [nmU m]).map rulD) [] []] := setD_new h
theorem set_few (m : Nat) : ∀ p ∈ (setD m).kids, p.rules.length ≤ 16 := by
  intro p hp
  simp [setD, Pol.kids] at hp
  obtain ⟨j, _, rfl⟩ := hp
  simp [kidD, Pol.rules]
  omega
theorem set_len {m : Nat} (h : m ≤ 80) : (setD m).kids.length ≤ 5 := by
  simp [setD, Pol.kids]
  omega
theorem own_below {w w' : World} {base size n : Nat} {e : TypeId} {v : Value} {xs : List Value} (h : w.ownsRow base e size v n xs) (hb : Below w.heap.size w w') : w'.ownsRow base e size v n xs :=
  h.kept (row := none) ⟨hb.os, hb.tape, hb.output, hb.size, fun k hk _ => hb.block k hk⟩ (by by_cases hv : v.ownBlock = none; exact .inl hv; exact .inr hv)
theorem own_only {w w' : World} {base s size n : Nat} {e : TypeId} {v : Value} {xs : List Value} (h : w.ownsRow base e size v n xs) (hb : Only s w w') (hs : s < base) : w'.ownsRow base e size v n xs :=
  h.kept (row := some s) hb (.inr (fun e => by have := (h.lt s e).1; omega))
theorem full_rules (n : Nat) : (fullD n).rules = ((List.range n).map nmD).map rulD := by simp [fullD, Pol.rules]
end Go.Proofs.Ytincnopaclmppaa
