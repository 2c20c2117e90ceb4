/- Several texts in one: Mem, LaidV, Math, Arith, Made, VMath, PolMath, ShowMath, ShowTab, LexMath, LexLaws, ParMath, ParLen, ParMet. -/
import Derived.Test.YtdbnaaddocahpaaDoorRows
import Derived.WalkKit
import Derived.Deep.Draws
import Derived.BigQuiet
import Derived.Deep.QuietTactic
import Derived.Lib.Hide
import Derived.Test.YtdbnaaddocahpaaDoorShelf
import Derived.Lib.LaidTab
import Derived.Lib.AppendIntMem
import Derived.LaidMore
import Derived.Laws.CopyOwn
import Derived.Lib.AppendStr
import Derived.Deep.RegionWith
import Derived.Lib.ItoaNum
import Derived.Lib.Join
/- Words for memory: a slice that reads as a row of cells (Sl), an object of known cells (Ob), and how both are kept. -/
namespace Go.Proofs.YtdbnaaddocahpaaDoor
open Go.RowKit

/-- Bytes as cells. -/
def bv (l : List UInt8) : List Value := l.map fun c => Value.int .u8 (c.toNat : Int)
theorem bv_len (l : List UInt8) : (bv l).length = l.length := by simp [bv]
theorem bv_app (l m : List UInt8) : bv (l ++ m) = bv l ++ bv m := by simp [bv]
theorem bv_take (l : List UInt8) (k : Nat) : bv (l.take k) = (bv l).take k := by simp [bv, List.map_take]
theorem bv_drop (l : List UInt8) (k : Nat) : bv (l.drop k) = (bv l).drop k := by simp [bv, List.map_drop]
theorem bv_get {l : List UInt8} {k : Nat} (h : k < l.length) : (bv l)[k]? = some (.int .u8 (l[k].toNat : Int)) := by simp [bv, h]

/-- The slice 'A n c' reads as the cells xs (one each); they lie below block B. -/
def Sl (w : World) (B : Nat) (A : Option Addr) (n c : Nat) (xs : List Value) : Prop :=
  xs.length = n ∧ n ≤ c ∧ c ≤ maxLen ∧ (n = 0 ∨ ∃ b o, A = some ⟨b, o, none⟩ ∧ b < B ∧ ∀ j u, xs[j]? = some u → w.cell? ⟨b, o + j, none⟩ = some u)

section
variable {w w' : World} {B B' n c : Nat} {A : Option Addr} {xs : List Value}
theorem Sl.len (h : Sl w B A n c xs) : xs.length = n := h.1
theorem Sl.le (h : Sl w B A n c xs) : n ≤ c := h.2.1
theorem Sl.cap (h : Sl w B A n c xs) : c ≤ maxLen := h.2.2.1
theorem Sl.nil_ (w : World) (B : Nat) : Sl w B none 0 0 [] := ⟨rfl, Nat.le_refl _, by simp [maxLen], .inl rfl⟩
theorem Sl.nilc {c : Nat} (hc : c ≤ maxLen) (w : World) (B : Nat) (A : Option Addr) : Sl w B A 0 c [] := ⟨rfl, by omega, hc, .inl rfl⟩
theorem Sl.keep (h : Sl w B A n c xs) (hk : ∀ k, k < B → w'.heap[k]? = w.heap[k]?) : Sl w' B A n c xs := by
  obtain ⟨h1, h2, h3, h4⟩ := h
  refine ⟨h1, h2, h3, ?_⟩
  rcases h4 with h4 | ⟨b, o, e, hb, hc⟩
  · exact .inl h4
  · exact .inr ⟨b, o, e, hb, fun j u hu => (World.cell?_of_block (hk b hb)).trans (hc j u hu)⟩
theorem Sl.keep_from {lo : Nat} (h : Sl w B A n c xs) (hlo : ∀ ad, A = some ad → lo ≤ ad.block) (hk : ∀ k, lo ≤ k → k < B → w'.heap[k]? = w.heap[k]?) : Sl w' B A n c xs := by
  obtain ⟨h1, h2, h3, h4⟩ := h
  refine ⟨h1, h2, h3, ?_⟩
  rcases h4 with h4 | ⟨b, o, e, hb, hc⟩
  · exact .inl h4
  · exact .inr ⟨b, o, e, hb, fun j u hu => (World.cell?_of_block (hk b (hlo _ e) hb)).trans (hc j u hu)⟩
theorem Sl.more (h : Sl w B A n c xs) (hB : B ≤ B') : Sl w B' A n c xs := by
  obtain ⟨h1, h2, h3, h4⟩ := h
  refine ⟨h1, h2, h3, ?_⟩
  rcases h4 with h4 | ⟨b, o, e, hb, hc⟩
  · exact .inl h4
  · exact .inr ⟨b, o, e, by omega, hc⟩
theorem Sl.below (h : Sl w B A n c xs) (hb : Below B w w') : Sl w' B A n c xs := h.keep hb.block
theorem Sl.drewN (h : Sl w B A n c xs) (k : Nat) : Sl (w.drewN k) B A n c xs := h.keep fun _ _ => rfl
theorem Sl.at_ (h : Sl w B A n c xs) {k : Nat} (hk : k < n) : ∃ b o u, A = some ⟨b, o, none⟩ ∧ b < B ∧ xs[k]? = some u ∧ w.cell? ⟨b, o + k, none⟩ = some u := by
  obtain ⟨h1, h2, h3, h4⟩ := h
  rcases h4 with h4 | ⟨b, o, e, hb, hc⟩
  · omega
  · have hl : k < xs.length := by omega
    exact ⟨b, o, xs[k], e, hb, List.getElem?_eq_getElem hl, hc k _ (List.getElem?_eq_getElem hl)⟩
theorem Sl.byte {l : List UInt8} (h : Sl w B A n c (bv l)) {k : Nat} (hk : k < n) : ∃ b o, A = some ⟨b, o, none⟩ ∧ b < B ∧ ∃ hl : k < l.length, w.cell? ⟨b, o + k, none⟩ = some (.int .u8 (l[k].toNat : Int)) := by
  obtain ⟨b, o, u, e, hb, hx, hc⟩ := h.at_ hk
  have hl : k < l.length := by have := h.1; rw [bv_len] at this; omega
  rw [bv_get hl] at hx
  injection hx with hx
  subst hx
  exact ⟨b, o, e, hb, hl, hc⟩
theorem Sl.take (h : Sl w B A n c xs) {k : Nat} (hk : k ≤ n) : Sl w B A k c (xs.take k) := by
  obtain ⟨h1, h2, h3, h4⟩ := h
  refine ⟨by rw [List.length_take]; omega, by omega, h3, ?_⟩
  rcases h4 with h4 | ⟨b, o, e, hb, hc⟩
  · left; omega
  · refine .inr ⟨b, o, e, hb, fun j u hu => hc j u ?_⟩
    rw [List.getElem?_take] at hu
    split at hu
    · exact hu
    · cases hu
theorem Sl.drop (h : Sl w B A n c xs) {k : Nat} (hk : k ≤ n) : Sl w B (if c = k then A else A.map (·.add k)) (n - k) (c - k) (xs.drop k) := by
  obtain ⟨h1, h2, h3, h4⟩ := h
  refine ⟨by rw [List.length_drop]; omega, by omega, by omega, ?_⟩
  rcases h4 with h4 | ⟨b, o, e, hb, hc⟩
  · left; omega
  · by_cases hn : n = k
    · left; omega
    · right
      subst e
      rw [if_neg (by omega)]
      refine ⟨b, o + k, ?_, hb, fun j u hu => ?_⟩
      · by_cases hk0 : k = 0 <;> simp [Addr.add, hk0]
      · rw [Nat.add_assoc]
        exact hc (k + j) u (by rw [← hu, List.getElem?_drop])
theorem own_from {base e : Nat} {v : Value} (h : w.ownsRow base e 1 v n xs) (hv : v = .slice A n c) : ∀ ad, A = some ad → base ≤ ad.block := by
  rintro ad rfl
  exact (h.lt ad.block (by rw [hv]; rfl)).1
theorem Sl.of_own {base e : Nat} (h : w.ownsRow base e 1 (.slice A n c) n xs) : Sl w w.heap.size A n c xs := by
  have hl := h.1
  rcases h.2 with ⟨hv, hn⟩ | ⟨g, cap, cur, hv, hb, hg, hnc, hcm, hcs, ht⟩
  · injection hv with h1 h2 h3
    subst h1 h2 h3
    exact ⟨by simpa using hl, Nat.le_refl _, by simp [maxLen], .inl rfl⟩
  · injection hv with h1 h2 h3
    subst h1 h3
    refine ⟨by simpa using hl, hnc, hcm, .inr ⟨g, 0, rfl, ?_, fun j u hu => ?_⟩⟩
    · rcases Nat.lt_or_ge g w.heap.size with hlt | hge
      · exact hlt
      · rw [Array.getElem?_eq_none hge] at hg; cases hg
    · have := h.cells (g := g) rfl j u hu
      by_cases hj : j = 0
      · subst hj; simpa [Addr.add] using this
      · simpa [Addr.add, hj] using this
end

/-- A block of known cells, none of them frozen. -/
def Ob (w : World) (g : Nat) (t : TypeId) (cs : Array Value) : Prop := w.heap[g]? = some (.cells cs t (0, 0))
section
variable {w w' : World} {g : Nat} {t : TypeId} {cs : Array Value}
theorem Ob.lt (h : Ob w g t cs) : g < w.heap.size := by
  rcases Nat.lt_or_ge g w.heap.size with hlt | hge
  · exact hlt
  · unfold Ob at h; rw [Array.getElem?_eq_none hge] at h; cases h
theorem Ob.cell (h : Ob w g t cs) (i : Nat) : w.cell? ⟨g, i, none⟩ = cs[i]? := cell_of_row w g i cs t (0, 0) h
theorem Ob.frozen (h : Ob w g t cs) (i : Nat) : w.frozen? ⟨g, i, none⟩ = false := by unfold Ob at h; simp [World.frozen?, h]
theorem Ob.made (w : World) (t : TypeId) (cs : Array Value) : Ob (w.alloc (.cells cs t)) w.heap.size t cs := heap_alloc_new w _
theorem Ob.keep (h : Ob w g t cs) (hk : w'.heap[g]? = w.heap[g]?) : Ob w' g t cs := hk.trans h
theorem Ob.below {B : Nat} (h : Ob w g t cs) (hb : Below B w w') (hg : g < B) : Ob w' g t cs := h.keep (hb.block g hg)
theorem Ob.put (h : Ob w g t cs) (i : Nat) (u : Value) : Ob (w.setCell ⟨g, i, none⟩ u) g t (cs.setIfInBounds i u) := by
  unfold Ob at h ⊢
  simp [World.setCell, Array.getElem?_modify, h]
end

/-- Only block r, and what is new, has changed. -/
def Only (r : Nat) (w w' : World) : Prop := w.grownBy w' (some r)
section
variable {r : Nat} {w w' w'' : World}
theorem Only.refl : Only r w w := ⟨rfl, rfl, rfl, Nat.le_refl _, fun _ _ _ => rfl⟩
theorem Only.heap (h : Only r w w') {k : Nat} (hk : k < w.heap.size) (hr : k ≠ r) : w'.heap[k]? = w.heap[k]? := h.block k hk (fun e => hr (by injection e))
theorem Only.le (h : Only r w w') : w.heap.size ≤ w'.heap.size := h.size
theorem Only.trans (h : Only r w w') (k : Only r w' w'') : Only r w w'' :=
  ⟨k.os.trans h.os, k.tape.trans h.tape, k.output.trans h.output, Nat.le_trans h.size k.size, fun i hi hn => (k.block i (Nat.lt_of_lt_of_le hi h.size) hn).trans (h.block i hi hn)⟩
theorem Only.drewN (h : Only r w w') (n : Nat) : Only r w (w'.drewN n) := ⟨h.os, h.tape, h.output, h.size, h.block⟩
theorem Only.of_below (h : Below w.heap.size w w') : Only r w w' := ⟨h.os, h.tape, h.output, h.size, fun k hk _ => h.block k hk⟩
theorem Only.setCell (h : Only r w w') {p : Addr} (hp : p.block = r) (u : Value) : Only r w (w'.setCell p u) :=
  ⟨h.os, h.tape, h.output, by simpa [World.setCell] using h.size, fun i hi hne => (Below.heap_setCell w' p u i (by rw [hp]; rintro rfl; exact hne rfl)).trans (h.block i hi hne)⟩
theorem Only.below {B : Nat} (h : Only r w w') (hB : B ≤ w.heap.size) (hr : B ≤ r) : Below B w w' :=
  ⟨h.os, h.tape, h.output, h.size, fun k hk => h.heap (by omega) (by omega)⟩
end

theorem below_drewN {B : Nat} {a w : World} (h : Below B a w) (n : Nat) : Below B a (w.drewN n) := ⟨h.os, h.tape, h.output, h.size, h.block⟩
theorem ret_bool {a b : Bool} (h : a = b) : Ending.returned (.bool a) = .returned (.bool b) := by rw [h]
theorem ret_int {k : IntKind} {a b : Int} (h : a = b) : Ending.returned (.int k a) = .returned (.int k b) := by rw [h]

theorem bytes_ne {a b : UInt8} : ((a.toNat : Int) != (b.toNat : Int)) = (a != b) := by
  rw [Bool.eq_iff_iff]
  simp only [bne_iff_ne, ne_eq]
  constructor
  · intro h e; exact h (by rw [e])
  · intro h e; exact h (UInt8.toNat_inj.1 (by omega))

end Go.Proofs.YtdbnaaddocahpaaDoor
/- What the rows' condition gives the walks: the library's table of powers of ten; and strconv's two contracts under it. -/
namespace Go.Proofs.YtdbnaaddocahpaaDoor
open Go.RowKit

def Tab (w : World) : Prop := Lib.TabIs Tryd.prog w "internal/strconv.uint64pow10" .u64 Lib.pow10Tab
theorem Tab.then_ {w w' : World} (h : Tab w) (hb : Below w.heap.size w w') : Tab w' := Lib.tabBelow_of_tabIs h w' hb
theorem Tab.drewN {w : World} (h : Tab w) (k : Nat) : Tab (w.drewN k) := h

/-- Blocks and draws alone. -/
theorem below_grow (w : World) (k : Nat) (os : Array Obj) : Below w.heap.size w (Sort.grow (w.drewN k) os) := by
  refine ⟨rfl, rfl, rfl, ?_, fun i hi => ?_⟩
  · simp [Sort.grow, World.drewN]
  · simp only [Sort.grow, World.drewN]
    rw [Array.getElem?_append_left hi]

theorem itoa_any {w : World} (h : Tab w) (n : Int) (h0 : -9223372036854775808 ≤ n) (h1 : n ≤ 9223372036854775807) :
    Calls Tryd.prog 74 #[.int .i64 n] w fun e w' => e = .returned (.string ⟨(Lib.itoa n).toArray⟩) ∧ Below w.heap.size w w' :=
  (Tryd.strconv_Itoa n h0 h1 w h).mono fun _ _ hh => ⟨hh.1, by obtain ⟨k, os, rfl⟩ := hh.2; exact below_grow w k os⟩
end Go.Proofs.YtdbnaaddocahpaaDoor
/- The bytes of chapter 1's numbers as plain lists: enc (what is written), dec (what is read), zig and zag (the sign in the lowest bit). No Go, no program: plain mathematics. -/
namespace Go.Proofs.YtdbnaaddocahpaaDoor

def enc (u : Nat) : List UInt8 := if u < 128 then [UInt8.ofNat u] else UInt8.ofNat (u % 128 + 128) :: enc (u / 128)
termination_by u
decreasing_by omega

theorem enc_small {u : Nat} (h : u < 128) : enc u = [UInt8.ofNat u] := by rw [enc, if_pos h]
theorem enc_big {u : Nat} (h : 128 ≤ u) : enc u = UInt8.ofNat (u % 128 + 128) :: enc (u / 128) := by rw [enc, if_neg (by omega)]
theorem ofNat_toNat {u : Nat} (h : u < 256) : (UInt8.ofNat u).toNat = u := by simp; omega

def dec : Nat → Nat → List UInt8 → Option (Nat × Nat)
  | _, _, [] => none
  | i, u, c :: r => if 10 ≤ i then none else if 128 ≤ c.toNat then dec (i + 1) (u + (c.toNat - 128) * 128 ^ i) r
      else if (0 < i ∧ c.toNat = 0) ∨ (i = 9 ∧ 1 < c.toNat) then none else some (u + c.toNat * 128 ^ i, i + 1)

theorem pow9 {i : Nat} (h : 10 ≤ i) : 1180591620717411303424 ≤ 128 ^ i := by
  have : (128 : Nat) ^ 10 ≤ 128 ^ i := Nat.pow_le_pow_right (by omega) h
  have e : (128 : Nat) ^ 10 = 1180591620717411303424 := by decide
  omega

theorem dec_enc (v : Nat) : ∀ (i u : Nat) (r : List UInt8), v * 128 ^ i < 18446744073709551616 → (0 < i → 0 < v) → i ≤ 9 → dec i u (enc v ++ r) = some (u + v * 128 ^ i, i + (enc v).length) := by
  induction v using enc.induct with
  | case1 v h =>
    intro i u r hv hp hi
    rw [enc_small h]
    have e := ofNat_toNat (u := v) (by omega)
    simp only [List.cons_append, List.nil_append, dec, e]
    rw [if_neg (by omega), if_neg (by omega), if_neg]
    · rfl
    · rintro (⟨a, b⟩ | ⟨a, b⟩)
      · have := hp a; omega
      · subst a
        have e9 : (128 : Nat) ^ 9 = 9223372036854775808 := by decide
        rw [e9] at hv; omega
  | case2 v h ih =>
    intro i u r hv hp hi
    rw [enc_big (by omega)]
    have e := ofNat_toNat (u := v % 128 + 128) (by omega)
    simp only [List.cons_append, dec, e]
    have hs : v * 128 ^ i = (v % 128) * 128 ^ i + (v / 128) * 128 ^ (i + 1) := by
      conv => lhs; rw [show v = v % 128 + 128 * (v / 128) from by omega]
      rw [Nat.add_mul, Nat.pow_succ]
      congr 1
      rw [Nat.mul_comm 128 (v / 128), Nat.mul_assoc, Nat.mul_comm 128 (128 ^ i)]
    have hi9 : i ≠ 9 := by
      rintro rfl
      have e9 : (128 : Nat) ^ 9 = 9223372036854775808 := by decide
      rw [e9] at hv; omega
    rw [if_neg (by omega), if_pos (by omega), ih (i + 1) _ r (by omega) (by omega) (by omega)]
    rw [hs]
    simp only [List.length_cons, Option.some.injEq, Prod.mk.injEq]
    constructor
    · rw [show v % 128 + 128 - 128 = v % 128 from by omega]; omega
    · omega

theorem dec_cut (v : Nat) : ∀ (i u k : Nat), k < (enc v).length → dec i u ((enc v).take k) = none := by
  induction v using enc.induct with
  | case1 v h =>
    intro i u k hk
    rw [enc_small h] at hk ⊢
    obtain rfl : k = 0 := by simpa using hk
    rfl
  | case2 v h ih =>
    intro i u k hk
    rw [enc_big (by omega)] at hk ⊢
    cases k with
    | zero => rfl
    | succ k =>
      have e := ofNat_toNat (u := v % 128 + 128) (by omega)
      simp only [List.take_succ_cons, dec, e]
      rw [if_pos (show 128 ≤ v % 128 + 128 from by omega), ih _ _ k (by simpa using hk)]
      simp

theorem enc_pos (u : Nat) : 0 < (enc u).length := by
  rw [enc]; split <;> simp

theorem enc_len_le (u : Nat) : ∀ k : Nat, u < 128 ^ (k + 1) → (enc u).length ≤ k + 1 := by
  induction u using enc.induct with
  | case1 u h => intro k _; rw [enc_small h]; simp
  | case2 u h ih =>
    intro k hk
    rw [enc_big (by omega)]
    cases k with
    | zero => simp at hk; omega
    | succ k =>
      have := ih k (by rw [Nat.div_lt_iff_lt_mul (by omega)]; rw [Nat.pow_succ] at hk; exact hk)
      simp; omega

theorem enc_len_ge (u : Nat) : ∀ k : Nat, 128 ^ k ≤ u → k + 1 ≤ (enc u).length := by
  induction u using enc.induct with
  | case1 u h =>
    intro k hk; rw [enc_small h]
    cases k with
    | zero => simp
    | succ k =>
      have : 128 ^ (k + 1) ≥ 128 := by rw [Nat.pow_succ]; have := Nat.pow_pos (n := k) (show 0 < 128 by omega); omega
      omega
  | case2 u h ih =>
    intro k hk
    rw [enc_big (by omega)]
    cases k with
    | zero => simp
    | succ k =>
      have := ih k (by rw [Nat.le_div_iff_mul_le (by omega)]; rw [Nat.pow_succ] at hk; exact hk)
      simp; omega

theorem enc_len10 {u : Nat} (h : u < 18446744073709551616) : (enc u).length ≤ 10 :=
  enc_len_le u 9 (Nat.lt_of_lt_of_le h (by decide))

theorem enc_last (u : Nat) : (enc u).length = 1 ∨ ∃ l c, enc u = l ++ [c] ∧ c ≠ 0 := by
  induction u using enc.induct with
  | case1 u h => left; rw [enc_small h]; rfl
  | case2 u h ih =>
    right
    rw [enc_big (by omega)]
    rcases ih with h1 | ⟨l, c, h1, h2⟩
    · by_cases h3 : u / 128 < 128
      · rw [enc_small h3]
        refine ⟨[UInt8.ofNat (u % 128 + 128)], UInt8.ofNat (u / 128), rfl, fun e => ?_⟩
        have e' := congrArg UInt8.toNat e
        rw [ofNat_toNat (by omega)] at e'
        simp at e'; omega
      · rw [enc_big (by omega)] at h1
        have := enc_pos (u / 128 / 128)
        simp only [List.length_cons] at h1; omega
    · exact ⟨_ :: l, c, by rw [h1]; rfl, h2⟩

theorem dec_none_le {l : List UInt8} : ∀ {i u : Nat}, 10 ≤ i → dec i u l = none := by
  cases l with
  | nil => intros; rfl
  | cons c r => intro i u h; simp [dec, h]

theorem dec_some {l : List UInt8} : ∀ {i u v k : Nat}, dec i u l = some (v, k) → i < k ∧ k - i ≤ l.length ∧ k ≤ 10 ∧ (∃ c, l[k - i - 1]? = some c ∧ c.toNat < 128) := by
  induction l with
  | nil => intro i u v k h; cases h
  | cons c r ih =>
    intro i u v k h
    simp only [dec] at h
    split at h
    · cases h
    · split at h
      · obtain ⟨a, b, d, c', e, f⟩ := ih h
        refine ⟨by omega, by simp; omega, d, c', ?_, f⟩
        rw [show k - i - 1 = (k - (i + 1) - 1) + 1 from by omega]
        exact e
      · split at h
        · cases h
        · simp only [Option.some.injEq, Prod.mk.injEq] at h
          refine ⟨by omega, by simp; omega, by omega, c, ?_, by omega⟩
          rw [show k - i - 1 = 0 from by omega]
          rfl

theorem dec_lt {l : List UInt8} : ∀ {i u v k : Nat}, dec i u l = some (v, k) → u < 128 ^ i → v < 18446744073709551616 := by
  induction l with
  | nil => intro i u v k h; cases h
  | cons c r ih =>
    intro i u v k h hu
    simp only [dec] at h
    split at h
    · cases h
    · rename_i hi
      split at h
      · refine ih h ?_
        have hc := c.toNat_lt
        have : (c.toNat - 128) * 128 ^ i ≤ 127 * 128 ^ i := Nat.mul_le_mul_right _ (by omega)
        rw [Nat.pow_succ]; omega
      · split at h
        · cases h
        · rename_i hc hn
          simp only [Option.some.injEq, Prod.mk.injEq] at h
          obtain ⟨rfl, rfl⟩ := h
          by_cases h9 : i = 9
          · subst h9
            have e9 : (128 : Nat) ^ 9 = 9223372036854775808 := by decide
            rw [e9] at hu ⊢
            omega
          · have h1 : c.toNat * 128 ^ i ≤ 127 * 128 ^ i := Nat.mul_le_mul_right _ (by omega)
            have h2 : (128 : Nat) ^ i ≤ 128 ^ 8 := Nat.pow_le_pow_right (by omega) (by omega)
            have e8 : (128 : Nat) ^ 8 = 72057594037927936 := by decide
            omega

def zig (n : Int) : Nat := if n < 0 then (2 * (-n - 1) + 1).toNat else (2 * n).toNat
def zag (u : Nat) : Int := if u % 2 = 1 then -((u / 2 : Nat) : Int) - 1 else ((u / 2 : Nat) : Int)
theorem zag_zig (n : Int) : zag (zig n) = n := by unfold zag zig; split <;> split <;> omega
theorem zig_lt {n : Int} (h1 : -9223372036854775808 ≤ n) (h2 : n ≤ 9223372036854775807) : zig n < 18446744073709551616 := by unfold zig; split <;> omega
theorem zag_in {u : Nat} (h : u < 18446744073709551616) : -9223372036854775808 ≤ zag u ∧ zag u ≤ 9223372036854775807 := by unfold zag; split <;> omega
theorem zig_inj {m n : Int} (h : zig m = zig n) : m = n := by rw [← zag_zig m, ← zag_zig n, h]

/-- The bytes of a number. -/
def numB (n : Int) : List UInt8 := enc (zig n)
theorem numB_pos (n : Int) : 0 < (numB n).length := enc_pos _
theorem numB_len {n : Int} (h1 : -9223372036854775808 ≤ n) (h2 : n ≤ 9223372036854775807) : (numB n).length ≤ 10 := enc_len10 (zig_lt h1 h2)
theorem dec_numB {n : Int} (h1 : -9223372036854775808 ≤ n) (h2 : n ≤ 9223372036854775807) (r : List UInt8) : dec 0 0 (numB n ++ r) = some (zig n, (numB n).length) := by
  have := dec_enc (zig n) 0 0 r (by simpa using zig_lt h1 h2) (by omega) (by omega)
  simpa [numB] using this

/-- The bytes of a text. -/
def textB (s : List UInt8) : List UInt8 := numB (s.length : Int) ++ s
end Go.Proofs.YtdbnaaddocahpaaDoor
/- Go's operations on numbers as plain arithmetic, and append and copy as equations on one run, over the words of XMem. -/
namespace Go.Proofs.YtdbnaaddocahpaaDoor
open Go.RowKit

theorem i64_inv {k : Int} (h1 : -9223372036854775808 ≤ k) (h2 : k ≤ 9223372036854775807) : bits .xor .i64 (-1) k = -k - 1 := by
  show IntKind.i64.wrap ((BitVec.ofInt 64 (-1) ^^^ BitVec.ofInt 64 k).toNat : Int) = _
  have e1 : BitVec.ofInt 64 (-1) = BitVec.allOnes 64 := by decide
  have e2 : BitVec.allOnes 64 ^^^ BitVec.ofInt 64 k = ~~~(BitVec.ofInt 64 k) := by rw [BitVec.allOnes_xor]
  rw [e1, e2, BitVec.toNat_not, BitVec.toNat_ofInt, IntKind.wrap_i64]
  omega

set_option maxRecDepth 100000 in
theorem lor128 : ∀ x : Nat, x < 256 → x ||| 128 = x % 128 + 128 := by decide +kernel
theorem u8_or128 {x : Int} (h1 : 0 ≤ x) (h2 : x < 256) : bits .or .u8 x 128 = x % 128 + 128 := by
  rw [u8_or x 128 h1 h2 (by omega) (by omega)]
  have := lor128 x.toNat (by omega)
  have e : (128 : Int).toNat = 128 := rfl
  rw [e, this]; omega
theorem u8_and127 {x : Int} (h1 : 0 ≤ x) (h2 : x < 256) : bits .and .u8 x 127 = x % 128 := by
  rw [u8_and x 127 h1 h2 (by omega) (by omega)]
  have e : (127 : Int).toNat = 127 := rfl
  rw [e, nat_mask7]; omega

theorem one_byte (x : Int) : (Value.int .u8 x).oneCell' = true := rfl
theorem one_bv {l : List UInt8} : ∀ v ∈ bv l, v.oneCell' = true := by
  intro v hv
  obtain ⟨c, _, rfl⟩ := List.mem_map.1 hv
  rfl

section
variable {P : Program} {T E : TypeId} {i : TypeInfo}

/-- append(out, x) with one byte, out being the call's own row; the byte's block has just been made. -/
theorem append_one (ht : P.underlying T = some (.slice E)) (hi : P.info? E = some i) (hz : i.zero = some (.int .u8 0)) (hs : i.size = 1) (hb : i.bytes = 1)
    {w : World} {base n c ty : Nat} {A : Option Addr} {xs : List Value} (h : w.ownsRow base E 1 (.slice A n c) n xs) (hn : n ≤ 140737488355327) (hbase : base ≤ w.heap.size) (x : Int) :
    ∃ A' c' w', (Builtin.append_ #[T, T] ty #[.slice A n c, .slice (some ⟨w.heap.size, 0, none⟩) 1 1]).run P (w.alloc (.cells #[.int .u8 x] E)) = .ok (.slice A' (n + 1) c') w' ∧
      w'.ownsRow base E 1 (.slice A' (n + 1) c') (n + 1) (xs ++ [.int .u8 x]) ∧ Below base w w' := by
  obtain ⟨v', w', hrun, h2, h3, h4⟩ := run_append_own (P := P) (w.alloc (.cells #[.int .u8 x] E)) base T ty E i (.int .u8 0) 1 1 ht hi hz hs hb rfl (by omega) (.slice A n c) n xs (h.alloc _)
    ⟨w.heap.size, 0, none⟩ 1 1 [.int .u8 x] rfl (by
      intro j u hu
      match j, hu with
      | 0, hu => simp at hu; subst hu; simp [Addr.add, World.cell?_alloc_at]
      | j + 1, hu => simp at hu) (by simp [one_byte]) (by unfold maxLen; omega) (by omega) (by simp; omega)
  have hform : ∃ A' c', v' = .slice A' (n + 1) c' := by
    rcases h2.2 with ⟨_, hz⟩ | ⟨g, cap, cur, hv, _⟩
    · omega
    · exact ⟨_, _, hv⟩
  obtain ⟨A', c', rfl⟩ := hform
  refine ⟨A', c', w', hrun, h2, ?_⟩
  refine ((Below.refl base w).alloc hbase _).grown h3 (by simp; omega) (fun k hk => ?_)
  exact (h.lt k hk).1

theorem append_nil_src (ht : P.underlying T = some (.slice E)) (hi : P.info? E = some i) {w : World} {base n c ty : Nat} {size : Nat} {v : Value} {xs : List Value} (h : w.ownsRow base E size v n xs) :
    (Builtin.append_ #[T, T] ty #[v, .slice none 0 c]).run P w = .ok v w := by
  rcases h.2 with ⟨rfl, rfl⟩ | ⟨g, cap, cur, rfl, _, _, hnc, _⟩
  · simp [Builtin.append_, run_underlying ht, sizeOf, typeInfo, hi, Builtin.lenOf, Builtin.firstCells]
  · simp [Builtin.append_, run_underlying ht, sizeOf, typeInfo, hi, Builtin.lenOf, Builtin.firstCells, hnc, storeCells]

/-- append(out, b...) of a row that lies somewhere. -/
theorem append_row (ht : P.underlying T = some (.slice E)) (hi : P.info? E = some i) (hz : i.zero = some (.int .u8 0)) (hs : i.size = 1) (hb : i.bytes = 1)
    {w : World} {base B n c m c2 ty : Nat} {A A2 : Option Addr} {xs ys : List Value} (h : w.ownsRow base E 1 (.slice A n c) n xs) (hy : Sl w B A2 m c2 ys) (h1 : ∀ v ∈ ys, v.oneCell' = true)
    (hn : n + m ≤ 140737488355328) (hbase : base ≤ w.heap.size) :
    ∃ A' c' w', (Builtin.append_ #[T, T] ty #[.slice A n c, .slice A2 m c2]).run P w = .ok (.slice A' (n + m) c') w' ∧
      w'.ownsRow base E 1 (.slice A' (n + m) c') (n + m) (xs ++ ys) ∧ Below base w w' := by
  have hlen := hy.len
  have fin : ∀ (ad : Addr), A2 = some ad → (∀ j u, ys[j]? = some u → w.cell? (ad.add j) = some u) → ∃ A' c' w', (Builtin.append_ #[T, T] ty #[.slice A n c, .slice A2 m c2]).run P w = .ok (.slice A' (n + m) c') w' ∧
      w'.ownsRow base E 1 (.slice A' (n + m) c') (n + m) (xs ++ ys) ∧ Below base w w' := by
    rintro ad rfl hc
    obtain ⟨v', w', hrun, h2, h3, h4⟩ := run_append_own (P := P) w base T ty E i (.int .u8 0) 1 1 ht hi hz hs hb rfl (by omega) (.slice A n c) n xs h
      ad m c2 ys (by omega) hc h1 (by unfold maxLen; omega) (by omega) hbase
    have hform : ∃ A' c', v' = .slice A' (n + m) c' := by
      rcases h2.2 with ⟨hv, hz⟩ | ⟨g, cap, cur, hv, _⟩
      · exact ⟨_, _, by rw [hv, hz]⟩
      · exact ⟨_, _, hv⟩
    obtain ⟨A', c', rfl⟩ := hform
    exact ⟨A', c', w', hrun, h2, (Below.refl base w).grown h3 hbase (fun k hk => (h.lt k hk).1)⟩
  rcases hy.2.2.2 with h0 | ⟨b, o, e, hb', hc⟩
  · subst h0
    obtain rfl : ys = [] := List.eq_nil_of_length_eq_zero hlen
    rcases A2 with _ | ad
    · exact ⟨A, c, w, append_nil_src ht hi h, by simpa using h, Below.refl _ _⟩
    · exact fin ad rfl (fun j u hu => by simp at hu)
  · refine fin _ e fun j u hu => ?_
    have := hc j u hu
    by_cases hj : j = 0
    · subst hj; simpa [Addr.add] using this
    · simpa [Addr.add, hj] using this

/-- append(out, s...) of a text. -/
theorem append_text (ht : P.underlying T = some (.slice E)) (hi : P.info? E = some i) (hz : i.zero = some (.int .u8 0)) (hs : i.size = 1) (hb : i.bytes = 1) {S : TypeId} (hS : P.underlying S = some .string)
    {w : World} {base n c ty : Nat} {A : Option Addr} {xs : List Value} (h : w.ownsRow base E 1 (.slice A n c) n xs) (s : ByteArray) (hn : n + s.size ≤ 140737488355328) (hbase : base ≤ w.heap.size) :
    ∃ A' c' w', (Builtin.append_ #[T, S] ty #[.slice A n c, .string s]).run P w = .ok (.slice A' (n + s.size) c') w' ∧
      w'.ownsRow base E 1 (.slice A' (n + s.size) c') (n + s.size) (xs ++ bv s.data.toList) ∧ Below base w w' := by
  obtain ⟨v', w', hrun, h2, h3, h4⟩ := Lib.run_append_own_string (P := P) w base T S ty E i ht hS hi hz hs hb (.slice A n c) n xs h s (by unfold maxLen; omega) (by omega) hbase
  have hform : ∃ A' c', v' = .slice A' (n + s.size) c' := by
    rcases h2.2 with ⟨hv, hz⟩ | ⟨g, cap, cur, hv, _⟩
    · exact ⟨_, _, by rw [hv, hz]⟩
    · exact ⟨_, _, hv⟩
  obtain ⟨A', c', rfl⟩ := hform
  refine ⟨A', c', w', hrun, ?_, (Below.refl base w).grown h3 hbase (fun k hk => (h.lt k hk).1)⟩
  have e : Lib.strCells s = bv s.data.toList := by simp [Lib.strCells, bv]
  rw [← e]; exact h2

/-- copy(to, from): the row 'to' is a known block, 'from' is as long as 'to'. -/
theorem copy_all (ht : P.underlying T = some (.slice E)) (hi : P.info? E = some i) (hs : i.size = 1)
    {w : World} {B g n m c ty : Nat} {A : Option Addr} {xs : List Value} {cur : Array Value} {t : TypeId} (hg : Ob w g t cur) (h : Sl w B A n c xs) (hn : n ≤ cur.size) (h1 : ∀ v ∈ xs, v.oneCell' = true) :
    ∃ w', (Builtin.copy_ #[T, T] ty #[.slice (some ⟨g, 0, none⟩) n m, .slice A n c]).run P w = .ok (.int .i64 (n : Int)) w' ∧ Ob w' g t (xs ++ cur.toList.drop n).toArray ∧ w'.heap.size = w.heap.size ∧ Only g w w' := by
  have hlen := h.len
  have hsz : (P.info? E).map (·.size) = some 1 := by rw [hi]; simp [hs]
  by_cases h0 : n = 0
  · subst h0
    obtain rfl : xs = [] := List.eq_nil_of_length_eq_zero hlen
    refine ⟨w, run_copy_none (P := P) w T T ty E _ A 0 m 0 c ht hsz rfl, by simpa using hg, rfl, Only.refl⟩
  · obtain ⟨b, o, e, hb, hc⟩ : ∃ b o, A = some ⟨b, o, none⟩ ∧ b < B ∧ ∀ j u, xs[j]? = some u → w.cell? ⟨b, o + j, none⟩ = some u := h.2.2.2.resolve_left h0
    subst e
    have hr := run_copy_row (P := P) w T T ty E g 0 n m ⟨b, o, none⟩ n c cur t xs ht hsz hg (by simpa using hlen) (fun j v hj => by
      have := hc j v hj
      by_cases hj0 : j = 0
      · subst hj0; simpa [Addr.add] using this
      · simpa [Addr.add, hj0] using this) (by omega) h1
    refine ⟨w.setRow g (cur.toList.take 0 ++ (xs ++ cur.toList.drop (0 + xs.length))).toArray, by rw [hr]; simp [goInt, hlen], ?_, by simp [World.setRow], ⟨rfl, rfl, rfl, by simp [World.setRow], fun k hk hne => setRow_other w g k _ (fun e => hne (by rw [e]))⟩⟩
    have := setRow_heap w g cur (cur.toList.take 0 ++ (xs ++ cur.toList.drop (0 + xs.length))).toArray t _ hg
    unfold Ob
    rw [this, hlen]
    simp
end

/-- An append whose run is known. -/
theorem wpList_append_run {P : Program} {w w' : World} {ops : Array Oper} {rest : List Oper} {o : Oper} {a : Act} {Q : Exit → Act → World → Prop} (hgd : o.guard = none) (s x : Operand) (t u : TypeId)
    (ho : o.op = .call { callee := .builtin .append, args := #[s, x], argTypes := #[t, u] }) {sv xv v' : Value} (hs : a.eval s = sv) (hx : a.eval x = xv)
    (hrun : (Builtin.append_ #[t, u] o.type #[sv, xv]).run P w = .ok v' w') (h : wpList P ops Q rest (a.put o.dst v') w') : wpList P ops Q (o :: rest) a w := by
  refine wpList_plain hgd fun K hK => ?_
  unfold Oper.wp execOp
  simp only [ho, resolve, invoke, builtin, Sem.run_bind, Sem.run_pure, Result.andThen_ok, List.map_toArray, List.map_cons, List.map_nil, hs, hx, hrun]
  exact hK _ _ h
end Go.Proofs.YtdbnaaddocahpaaDoor
/- Small facts of new memory and of numbers that come in (any types). -/
namespace Go.Proofs.YtdbnaaddocahpaaDoor
open Go.RowKit

theorem wf_bounds {a : Int} (h : (Lit.int .i64 a).wf = true) : -9223372036854775808 ≤ a ∧ a ≤ 9223372036854775807 := by
  simp only [Lit.wf, Bool.and_eq_true, decide_eq_true_eq] at h
  exact h
theorem wf_u64 {a : Int} (h : (Lit.int .u64 a).wf = true) : ∃ n : Nat, a = (n : Int) ∧ n < 18446744073709551616 := by
  simp only [Lit.wf, Bool.and_eq_true, decide_eq_true_eq] at h
  have h1 : (0 : Int) ≤ a := h.1
  have h2 : a ≤ 18446744073709551615 := h.2
  exact ⟨a.toNat, by omega, by omega⟩
theorem wf_u8 {a : Int} (h : (Lit.int .u8 a).wf = true) : ∃ c : UInt8, a = (c.toNat : Int) := by
  simp only [Lit.wf, Bool.and_eq_true, decide_eq_true_eq] at h
  have h1 : (0 : Int) ≤ a := h.1
  have h2 : a ≤ 255 := h.2
  exact ⟨UInt8.ofNat a.toNat, by simp; omega⟩

theorem Sl.then_ {w w' : World} {n c : Nat} {A : Option Addr} {xs : List Value} (h : Sl w w.heap.size A n c xs) (hb : Below w.heap.size w w') : Sl w' w'.heap.size A n c xs := (h.below hb).more hb.size
theorem below_step {w a b : World} (h1 : Below w.heap.size w a) (h2 : Below a.heap.size a b) : Below w.heap.size w b := h1.trans (h2.mono h1.size)
theorem only_step {w a b : World} {r : Nat} (h1 : Below w.heap.size w a) (h2 : Only r a b) (hr : w.heap.size ≤ r) : Below w.heap.size w b := h1.trans (h2.below h1.size hr)
theorem Sl.lit (w : World) (t : TypeId) (cs : List Value) (n : Nat) (hn : cs.length = n) (h63 : n ≤ maxLen) : Sl (w.alloc (.cells cs.toArray t)) (w.heap.size + 1) (some ⟨w.heap.size, 0, none⟩) n n cs := by
  refine ⟨hn, Nat.le_refl _, h63, .inr ⟨w.heap.size, 0, rfl, by omega, fun j u hu => ?_⟩⟩
  have := (Ob.made w t cs.toArray).cell j
  rw [Nat.zero_add, this]
  simpa using hu
theorem Below.lit {w w' : World} {o : Obj} (h : Below (w.alloc o).heap.size (w.alloc o) w') : Below w.heap.size w w' := ((Below.refl _ w).alloc (Nat.le_refl _) o).trans (h.mono (by simp))
theorem Sl.lit_keep {w : World} {B n c : Nat} {A : Option Addr} {xs : List Value} (h : Sl w B A n c xs) (hB : B ≤ w.heap.size) (o : Obj) : Sl (w.alloc o) B A n c xs := h.keep fun k hk => Below.heap_alloc w o k (by omega)
theorem Ob.sl {w : World} {g : Nat} {t : TypeId} {n : Nat} {xs : List Value} (h : Ob w g t xs.toArray) (hn : xs.length = n) (h63 : n ≤ maxLen) : Sl w (g + 1) (some ⟨g, 0, none⟩) n n xs := by
  refine ⟨hn, Nat.le_refl _, h63, .inr ⟨g, 0, rfl, by omega, fun j u hu => ?_⟩⟩
  have := h.cell j
  rw [Nat.zero_add, this]
  simpa using hu
theorem size_al (w : World) (o : Obj) : (w.alloc o).heap.size = w.heap.size + 1 := by simp
/-- An append whose run is known, as a step of a region that draws. -/
theorem step_append_run {P : Program} {ops : Array Oper} {o : Oper} {a : Act} {w w' : World} {K : Act → World → Prop} {Q : Exit → Act → World → Prop} {E : Prop}
    (hg : o.guard = none) (s x : Operand) (t u : TypeId) (hop : o.op = Op.call { callee := Callee.builtin Builtin.append, args := #[s, x], argTypes := #[t, u] })
    {sv xv v' : Value} (hs : a.eval s = sv) (hx : a.eval x = xv) (hrun : (Builtin.append_ #[t, u] o.type #[sv, xv]).run P w = .ok v' w') (hK : K (a.put o.dst v') w') :
    if Region.wanted o (yielded ops a.tmps) = true then Oper.wp P o a w K Q else E := by
  have hw : Region.wanted o (yielded ops a.tmps) = true := by simp [Region.wanted, hg]
  rw [if_pos hw]
  unfold Oper.wp
  simp [execOp, hop, resolve, invoke, builtin, hs, hx, hrun, Result.andThen]
  exact hK
end Go.Proofs.YtdbnaaddocahpaaDoor
/- Values, plainly: which are right, how they stand, their bytes and their texts. -/
namespace Go.Proofs.YtdbnaaddocahpaaDoor
set_option linter.unusedVariables false

/-- a to z. -/
def lett (c : UInt8) : Bool := decide (97 ≤ c.toNat) && decide (c.toNat ≤ 122)
/-- 0 to 9, and '_'. -/
def later (c : UInt8) : Bool := decide (48 ≤ c.toNat) && decide (c.toNat ≤ 57) || decide (c.toNat = 95)
def okAt (j : Nat) (c : UInt8) : Bool := lett c || decide (0 < j) && later c

/-- P3.1. -/
def Named (l : List UInt8) : Prop := (1 ≤ l.length ∧ l.length ≤ 16) ∧ ∀ j (h : j < l.length), okAt j l[j] = true
instance (l : List UInt8) : Decidable (Named l) := by unfold Named; infer_instance

theorem not_named {l : List UInt8} {j : Nat} (h : j < l.length) (hb : okAt j l[j] = false) : decide (Named l) = false := by
  rw [decide_eq_false_iff_not]
  rintro ⟨_, ha⟩
  rw [ha j h] at hb
  cases hb

/-- P3.2. -/
def RightV (k n : Int) (l : List UInt8) : Prop :=
  k = 1 ∧ l = [] ∧ (n = 0 ∨ n = 1) ∨ k = 2 ∧ l = [] ∨ k = 3 ∧ n = 0 ∧ l.length ≤ 64 ∨ k = 4 ∧ l = [] ∧ 0 ≤ n ∧ n ≤ 1099511627776 ∨ k = 5 ∧ n = 0 ∧ Named l
instance (k n : Int) (l : List UInt8) : Decidable (RightV k n l) := by unfold RightV; infer_instance

/-- Texts and names. -/
def inT (k : Int) : Bool := decide (k = 3) || decide (k = 5)

/-- A value: kind, number, text. -/
structure Vl where
  k : Int
  n : Int
  s : ByteArray
def Vl.l (v : Vl) : List UInt8 := v.s.data.toList
def Vl.right (v : Vl) : Prop := RightV v.k v.n v.l
instance (v : Vl) : Decidable v.right := by unfold Vl.right; infer_instance
theorem Vl.ext' {a b : Vl} (h1 : a.k = b.k) (h2 : a.n = b.n) (h3 : a.l = b.l) : a = b := by
  obtain ⟨k, n, s⟩ := a
  obtain ⟨k', n', s'⟩ := b
  obtain ⟨⟨x⟩⟩ := s
  obtain ⟨⟨y⟩⟩ := s'
  simp_all [Vl.l]
instance : DecidableEq Vl := fun a b => if h : a.k = b.k ∧ a.n = b.n ∧ a.l = b.l then .isTrue (Vl.ext' h.1 h.2.1 h.2.2) else .isFalse (by rintro rfl; exact h ⟨rfl, rfl, rfl⟩)
/-- What int can hold. -/
def Vl.ok (v : Vl) : Prop := (-9223372036854775808 ≤ v.k ∧ v.k ≤ 9223372036854775807) ∧ (-9223372036854775808 ≤ v.n ∧ v.n ≤ 9223372036854775807) ∧ v.s.size ≤ maxLen

/-- P3.4. -/
def putB (v : Vl) : List UInt8 := numB v.k ++ if inT v.k = true then textB v.l else numB v.n

def hexd (n : Nat) : UInt8 := UInt8.ofNat (if n < 10 then 48 + n else 87 + n)
/-- Must a byte be written by its number? -/
def odd8 (c : UInt8) : Bool := decide (c.toNat < 32) || decide (126 < c.toNat) || decide (c.toNat = 34) || decide (c.toNat = 92)
def quoteC (c : UInt8) : List UInt8 := if odd8 c = true then [92, hexd (c.toNat / 16), hexd (c.toNat % 16)] else [c]
def quoteL : List UInt8 → List UInt8
  | [] => []
  | c :: r => quoteC c ++ quoteL r
theorem quoteL_app (l m : List UInt8) : quoteL (l ++ m) = quoteL l ++ quoteL m := by
  induction l with
  | nil => rfl
  | cons c r ih => simp [quoteL, ih]
def quoteB (l : List UInt8) : List UInt8 := [34] ++ quoteL l ++ [34]
theorem quoteC_len (c : UInt8) : (quoteC c).length ≤ 3 := by unfold quoteC; split <;> simp
theorem quoteL_len (l : List UInt8) : (quoteL l).length ≤ 3 * l.length := by
  induction l with
  | nil => simp [quoteL]
  | cons c r ih => have := quoteC_len c; simp [quoteL]; omega

/-- P3.6. -/
def showB (v : Vl) : List UInt8 :=
  if v.right then
    if v.k = 1 then (if v.n = 1 then [116, 114, 117, 101] else [102, 97, 108, 115, 101])
    else if v.k = 3 then quoteB v.l
    else if v.k = 4 then 64 :: Lib.itoa v.n
    else if v.k = 5 then 35 :: v.l
    else Lib.itoa v.n
  else []

/-- Cut to 80 bytes. -/
def fewV (v : Vl) : Vl := ⟨v.k, v.n, ⟨(v.l.take 80).toArray⟩⟩
theorem fewV_l (v : Vl) : (fewV v).l = v.l.take 80 := rfl
theorem fewV_size (v : Vl) : (fewV v).s.size ≤ 80 := by show (v.l.take 80).toArray.size ≤ 80; simp; omega
theorem fewV_len (v : Vl) : (fewV v).l.length ≤ 80 := by rw [fewV_l]; simp; omega
theorem fewV_ok {v : Vl} (h : v.ok) : (fewV v).ok := ⟨h.1, h.2.1, by have := fewV_size v; unfold maxLen; omega⟩
theorem right_few {v : Vl} (h : v.right) : fewV v = v := by
  have hl : v.l.length ≤ 80 := by
    unfold Vl.right RightV at h
    rcases h with ⟨_, h, _⟩ | ⟨_, h⟩ | ⟨_, _, h⟩ | ⟨_, h, _⟩ | ⟨_, _, h, _⟩
    all_goals first | (rw [h]; simp) | omega
  exact Vl.ext' rfl rfl (by rw [fewV_l, List.take_of_length_le hl])
end Go.Proofs.YtdbnaaddocahpaaDoor
/- Policies, plainly: what they are of (chapter 8), and which are right. -/
namespace Go.Proofs.YtdbnaaddocahpaaDoor
set_option linter.unusedVariables false

/-- What an int can hold. -/
def InI (n : Int) : Prop := -9223372036854775808 ≤ n ∧ n ≤ 9223372036854775807

structure Atr where
  cat : Int
  name : ByteArray
  must : Bool
structure Mat where
  a : Atr
  op : Int
  v : Vl
structure Nod where
  op : Int
  v : Vl
  a : Atr
structure Dut where
  on : Int
  kind : Int
  arg : ByteArray
abbrev Tgt := List (List (List Mat))
structure Rul where
  id : ByteArray
  deny : Bool
  tg : Tgt
  cond : List Nod
  ob : List Dut
inductive Pol where
  | mk (id : ByteArray) (set : Bool) (alg : Int) (tg : Tgt) (rules : List Rul) (kids : List Pol) (ob : List Dut)
def Pol.id : Pol → ByteArray | .mk a _ _ _ _ _ _ => a
def Pol.set : Pol → Bool | .mk _ a _ _ _ _ _ => a
def Pol.alg : Pol → Int | .mk _ _ a _ _ _ _ => a
def Pol.tg : Pol → Tgt | .mk _ _ _ a _ _ _ => a
def Pol.rules : Pol → List Rul | .mk _ _ _ _ a _ _ => a
def Pol.kids : Pol → List Pol | .mk _ _ _ _ _ a _ => a
def Pol.ob : Pol → List Dut | .mk _ _ _ _ _ _ a => a

def Atr.ok (a : Atr) : Prop := InI a.cat ∧ a.name.size ≤ maxLen
def Mat.ok (m : Mat) : Prop := m.a.ok ∧ InI m.op ∧ m.v.ok
def Nod.ok (n : Nod) : Prop := InI n.op ∧ n.v.ok ∧ n.a.ok
def Dut.ok (o : Dut) : Prop := InI o.on ∧ InI o.kind ∧ o.arg.size ≤ maxLen

instance (n : Int) : Decidable (InI n) := by unfold InI; infer_instance
instance (v : Vl) : Decidable v.ok := by unfold Vl.ok; infer_instance
instance (a : Atr) : Decidable a.ok := by unfold Atr.ok; infer_instance
instance (m : Mat) : Decidable m.ok := by unfold Mat.ok; infer_instance
instance (n : Nod) : Decidable n.ok := by unfold Nod.ok; infer_instance
instance (o : Dut) : Decidable o.ok := by unfold Dut.ok; infer_instance

/-- The bytes of a text. -/
def bl (s : ByteArray) : List UInt8 := s.data.toList

/-- The first error, as one goes through a list. -/
def firstE {α : Type} (f : α → Int) : List α → Int
  | [] => 0
  | x :: l => if f x ≠ 0 then f x else firstE f l
/-- So far none. -/
def FineTo {α : Type} (f : α → Int) (l : List α) (k : Nat) : Prop := ∀ j x, l[j]? = some x → j < k → f x = 0
theorem FineTo.zero {α : Type} (f : α → Int) (l : List α) : FineTo f l 0 := fun j x _ h => by omega
theorem FineTo.step {α : Type} {f : α → Int} {l : List α} {k : Nat} {x : α} (h : FineTo f l k) (hx : l[k]? = some x) (h0 : f x = 0) : FineTo f l (k + 1) := fun j y hy hj => by
  by_cases e : j = k
  · subst e
    obtain rfl := Option.some.inj (hx.symm.trans hy)
    exact h0
  · exact h j y hy (by omega)
theorem FineTo.tail {α : Type} {f : α → Int} {x : α} {l : List α} {k : Nat} (h : FineTo f (x :: l) (k + 1)) : f x = 0 ∧ FineTo f l k :=
  ⟨h 0 x rfl (by omega), fun j y hy hj => h (j + 1) y (by simpa using hy) (by omega)⟩
theorem FineTo.all {α : Type} {f : α → Int} : ∀ {l : List α} {n : Nat}, FineTo f l n → l.length = n → firstE f l = 0
  | [], _, _, _ => rfl
  | x :: l, 0, h, hn => by simp at hn
  | x :: l, n + 1, h, hn => by
    obtain ⟨h0, h1⟩ := h.tail
    simp only [firstE, h0, ne_eq, not_true, if_false]
    exact h1.all (by simpa using hn)
theorem FineTo.err {α : Type} {f : α → Int} : ∀ {l : List α} {k : Nat} {x : α}, FineTo f l k → l[k]? = some x → f x ≠ 0 → firstE f l = f x
  | [], _, _, _, hx, _ => by simp at hx
  | y :: l, 0, x, _, hx, h0 => by
    simp at hx
    subst hx
    simp [firstE, h0]
  | y :: l, k + 1, x, h, hx, h0 => by
    obtain ⟨h1, h2⟩ := h.tail
    simp only [firstE, h1, ne_eq, not_true, if_false]
    exact h2.err (by simpa using hx) h0

/-- P8.1. -/
def attrB (a : Atr) : Bool := decide (1 ≤ a.cat) && decide (a.cat ≤ 4) && decide (Named (bl a.name))
/-- P8.2. -/
def matE (m : Mat) : Int := if attrB m.a = true ∧ 1 ≤ m.op ∧ m.op ≤ 3 ∧ m.v.right then 0 else 1
def partsE (n : Nat) : Int := if n = 0 then 1 else if 8 < n then 6 else 0
def allE (l : List Mat) : Int := if partsE l.length ≠ 0 then partsE l.length else firstE matE l
def anyE (l : List (List Mat)) : Int := if partsE l.length ≠ 0 then partsE l.length else firstE allE l
def tgE (t : Tgt) : Int := if 8 < t.length then 6 else firstE anyE t
/-- P8.4. -/
def dutE (o : Dut) : Int := if (o.on = 1 ∨ o.on = 2) ∧ 1 ≤ o.kind ∧ o.kind ≤ 4 ∧ Named (bl o.arg) then 0 else 1
def obE (l : List Dut) : Int := if 8 < l.length then 6 else firstE dutE l

def zeroV : Vl := ⟨0, 0, ByteArray.empty⟩
def zeroA : Atr := ⟨0, ByteArray.empty, false⟩
theorem text_eq {a b : ByteArray} (h : bl a = bl b) : a = b := by
  obtain ⟨⟨x⟩⟩ := a
  obtain ⟨⟨y⟩⟩ := b
  simp_all [bl]
instance textDec : DecidableEq ByteArray := fun a b => if h : bl a = bl b then .isTrue (text_eq h) else .isFalse (by rintro rfl; exact h rfl)
theorem Atr.ext' {a b : Atr} (h1 : a.cat = b.cat) (h2 : a.name = b.name) (h3 : a.must = b.must) : a = b := by
  cases a; cases b; simp_all
instance : DecidableEq Atr := fun a b => if h : a.cat = b.cat ∧ bl a.name = bl b.name ∧ a.must = b.must then .isTrue (Atr.ext' h.1 (text_eq h.2.1) h.2.2) else .isFalse (by rintro rfl; exact h ⟨rfl, rfl, rfl⟩)

theorem Mat.ext' {a b : Mat} (h1 : a.a = b.a) (h2 : a.op = b.op) (h3 : a.v = b.v) : a = b := by cases a; cases b; simp_all
instance : DecidableEq Mat := fun a b => if h : a.a = b.a ∧ a.op = b.op ∧ a.v = b.v then .isTrue (Mat.ext' h.1 h.2.1 h.2.2) else .isFalse (by rintro rfl; exact h ⟨rfl, rfl, rfl⟩)
theorem Nod.ext' {a b : Nod} (h1 : a.op = b.op) (h2 : a.v = b.v) (h3 : a.a = b.a) : a = b := by cases a; cases b; simp_all
instance : DecidableEq Nod := fun a b => if h : a.op = b.op ∧ a.v = b.v ∧ a.a = b.a then .isTrue (Nod.ext' h.1 h.2.1 h.2.2) else .isFalse (by rintro rfl; exact h ⟨rfl, rfl, rfl⟩)
theorem Dut.ext' {a b : Dut} (h1 : a.on = b.on) (h2 : a.kind = b.kind) (h3 : a.arg = b.arg) : a = b := by cases a; cases b; simp_all
instance : DecidableEq Dut := fun a b => if h : a.on = b.on ∧ a.kind = b.kind ∧ a.arg = b.arg then .isTrue (Dut.ext' h.1 h.2.1 h.2.2) else .isFalse (by rintro rfl; exact h ⟨rfl, rfl, rfl⟩)

/-- P8.3: what a node may have beside its Op. -/
def holdsB (n : Nod) : Bool :=
  if n.op = 1 then decide n.v.right && decide (n.a = zeroA)
  else if n.op = 2 then decide (n.v = zeroV) && attrB n.a
  else decide (n.v = zeroV) && decide (n.a = zeroA)
/-- P8.3: what a node leaves of what stands ahead (the last ahead; true: a bag). -/
def popX (op : Int) (st : List Bool) : Option (List Bool) :=
  if op = 1 then some (false :: st)
  else if op = 2 then some (true :: st)
  else if op = 3 ∨ op = 4 then (match st with | true :: r => some (false :: r) | _ => none)
  else if op = 5 then (match st with | false :: true :: r => some (false :: r) | _ => none)
  else if op = 11 then (match st with | false :: r => some (false :: r) | _ => none)
  else if op = 6 ∨ op = 7 ∨ op = 8 ∨ op = 9 ∨ op = 10 ∨ op = 12 ∨ op = 13 then (match st with | false :: false :: r => some (false :: r) | _ => none)
  else none
/-- Does this stand at the end? (the last first) -/
def hasP (p st : List Bool) : Bool := decide (st.take p.length = p)
def patX (op : Int) : Option (List Bool) :=
  if op = 1 ∨ op = 2 then some []
  else if op = 3 ∨ op = 4 then some [true]
  else if op = 5 then some [false, true]
  else if op = 11 then some [false]
  else if op = 6 ∨ op = 7 ∨ op = 8 ∨ op = 9 ∨ op = 10 ∨ op = 12 ∨ op = 13 then some [false, false]
  else none
def makesX (op : Int) : Bool := decide (op = 2)
theorem ops_cases (op : Int) : op = 1 ∨ op = 2 ∨ op = 3 ∨ op = 4 ∨ op = 5 ∨ op = 6 ∨ op = 7 ∨ op = 8 ∨ op = 9 ∨ op = 10 ∨ op = 11 ∨ op = 12 ∨ op = 13 ∨
    (op ≠ 1 ∧ op ≠ 2 ∧ op ≠ 3 ∧ op ≠ 4 ∧ op ≠ 5 ∧ op ≠ 6 ∧ op ≠ 7 ∧ op ≠ 8 ∧ op ≠ 9 ∧ op ≠ 10 ∧ op ≠ 11 ∧ op ≠ 12 ∧ op ≠ 13) := by omega
theorem popX_pat (op : Int) (st : List Bool) : popX op st = (match patX op with | none => none | some p => if hasP p st = true then some (makesX op :: st.drop p.length) else none) := by
  rcases ops_cases op with rfl | rfl | rfl | rfl | rfl | rfl | rfl | rfl | rfl | rfl | rfl | rfl | rfl | h
  case inr.inr.inr.inr.inr.inr.inr.inr.inr.inr.inr.inr.inr =>
    obtain ⟨h1, h2, h3, h4, h5, h6, h7, h8, h9, h10, h11, h12, h13⟩ := h
    simp [popX, patX, h1, h2, h3, h4, h5, h6, h7, h8, h9, h10, h11, h12, h13]
  all_goals
    rcases st with _ | ⟨_ | _, _ | ⟨_ | _, st⟩⟩ <;> simp [popX, patX, hasP, makesX]
theorem patX_len {op : Int} {p : List Bool} (h : patX op = some p) : p.length ≤ 2 := by
  unfold patX at h
  repeat' split at h
  all_goals (try cases h) <;> simp
def stepX (n : Nod) (st : List Bool) : Option (List Bool) := if holdsB n = true then popX n.op st else none
def runX : List Nod → List Bool → Option (List Bool)
  | [], st => some st
  | n :: l, st => (match stepX n st with | some st' => runX l st' | none => none)
def exprE (l : List Nod) : Int :=
  if 32 < l.length then 6 else (match runX l [] with | none => 1 | some st => if l = [] ∨ st = [false] then 0 else 1)

/-- What was met: the names, and how many rules. -/
structure Seen where
  ids : List ByteArray
  n : Nat
def metB (x : ByteArray) (l : List ByteArray) : Bool := l.any fun y => decide (y = x)
def idS (x : ByteArray) (s : Seen) : Option Seen := if Named (bl x) ∧ metB x s.ids = false then some ⟨s.ids ++ [x], s.n⟩ else none
def orE (a b : Int) : Int := if a ≠ 0 then a else b
def ruleS (r : Rul) (s : Seen) : Int × Seen :=
  match idS r.id s with
  | none => (1, s)
  | some s1 => if 64 < s1.n + 1 then (6, ⟨s1.ids, s1.n + 1⟩) else (orE (tgE r.tg) (orE (exprE r.cond) (obE r.ob)), ⟨s1.ids, s1.n + 1⟩)
def firstS {α : Type} (f : α → Seen → Int × Seen) : List α → Seen → Int × Seen
  | [], s => (0, s)
  | x :: l, s => if (f x s).1 ≠ 0 then f x s else firstS f l (f x s).2
def fitsB (p : Pol) : Bool := decide (1 ≤ p.alg) && decide (p.alg ≤ 6) && if p.set = true then decide (p.rules.length = 0) else decide (p.kids.length = 0) && decide (p.alg ≠ 4)
/-- P8.5, at a depth of which so many are left. -/
def polS : Nat → Pol → Seen → Int × Seen
  | 0, p, s => (6, s)
  | d + 1, p, s =>
    match idS p.id s with
    | none => (1, s)
    | some s1 =>
      if fitsB p = false then (1, s1)
      else if orE (tgE p.tg) (obE p.ob) ≠ 0 then (orE (tgE p.tg) (obE p.ob), s1)
      else if 16 < p.rules.length ∨ 16 < p.kids.length then (6, s1)
      else if (firstS ruleS p.rules s1).1 ≠ 0 then firstS ruleS p.rules s1
      else firstS (polS d) p.kids (firstS ruleS p.rules s1).2
def rightE (p : Pol) : Int := (polS 4 p ⟨[], 0⟩).1
def rulesN (p : Pol) : Nat := (polS 4 p ⟨[], 0⟩).2.n
end Go.Proofs.YtdbnaaddocahpaaDoor
/- Policies as text, plainly (chapter 10). -/
namespace Go.Proofs.YtdbnaaddocahpaaDoor
set_option linter.unusedVariables false

def catW (n : Int) : List UInt8 := if n = 1 then [115, 117, 98, 106, 101, 99, 116] else if n = 2 then [97, 99, 116, 105, 111, 110] else if n = 3 then [99, 97, 115, 101] else [101, 110, 118]
def algW (n : Int) : List UInt8 := if n = 1 then [100, 101, 110, 121, 111, 118, 101, 114] else if n = 2 then [112, 101, 114, 109, 105, 116, 111, 118, 101, 114] else if n = 3 then [102, 105, 114, 115, 116] else if n = 4 then [111, 110, 108, 121] else if n = 5 then [100, 101, 110, 121, 117, 110, 108, 101, 115, 115] else [112, 101, 114, 109, 105, 116, 117, 110, 108, 101, 115, 115]
def fnW (n : Int) : List UInt8 := if n = 3 then [111, 110, 101] else if n = 4 then [115, 105, 122, 101] else if n = 5 then [104, 97, 115] else if n = 6 then [101, 113] else if n = 7 then [108, 101, 115, 115] else if n = 8 then [97, 100, 100] else if n = 9 then [115, 117, 98] else if n = 10 then [109, 117, 108] else if n = 11 then [110, 111, 116] else if n = 12 then [97, 110, 100] else [111, 114]
def doW (n : Int) : List UInt8 := if n = 1 then [108, 111, 103] else if n = 2 then [114, 101, 100, 97, 99, 116] else if n = 3 then [114, 101, 118, 105, 101, 119] else [110, 111, 116, 105, 102, 121]
def cmpW (n : Int) : List UInt8 := if n = 1 then [61] else if n = 2 then [60] else [62]
def effW (deny : Bool) : List UInt8 := if deny = true then [100, 101, 110, 121] else [112, 101, 114, 109, 105, 116]
/-- P10.1, of a right one. -/
def attrT (a : Atr) : List UInt8 := catW a.cat ++ 46 :: (bl a.name ++ if a.must = true then [33] else [])
def attrS (a : Atr) : List UInt8 := if attrB a = true then attrT a else []
/-- How many parts a node is of. -/
def takesN (op : Int) : Nat := if op = 1 ∨ op = 2 then 0 else if op = 3 ∨ op = 4 ∨ op = 11 then 1 else 2
/-- A node's text, of what it is of. -/
def nodeT (n : Nod) (parts : List (List UInt8)) : List UInt8 :=
  if n.op = 1 then showB n.v else if n.op = 2 then attrS n.a else 40 :: (fnW n.op ++ 32 :: (Lib.join parts [32] ++ [41]))
/-- P10.2: the stack of texts, the first one first. -/
def stepT (st : List (List UInt8)) (n : Nod) : List (List UInt8) := st.take (st.length - takesN n.op) ++ [nodeT n (st.drop (st.length - takesN n.op))]
def stackT (l : List Nod) : List (List UInt8) := l.foldl stepT []
def exprT (l : List Nod) : List UInt8 := (stackT l).headD []
def exprS (l : List Nod) : List UInt8 := if l ≠ [] ∧ exprE l = 0 then exprT l else []
def matT (m : Mat) : List UInt8 := attrS m.a ++ 32 :: (cmpW m.op ++ 32 :: showB m.v)
def allT (l : List Mat) : List UInt8 := Lib.join (l.map matT) [44, 32]
def anyT (l : List (List Mat)) : List UInt8 := 40 :: (Lib.join (l.map allT) [32, 111, 114, 32] ++ [41])
def tgT (t : Tgt) : List UInt8 := Lib.join (t.map anyT) [32, 97, 110, 100, 32]
def tgW (t : Tgt) : List (List UInt8) := if t = [] then [] else [[119, 104, 101, 110], tgT t]
def dutT (o : Dut) : List UInt8 := [111, 110, 32] ++ (effW (decide (o.on = 2)) ++ 32 :: (doW o.kind ++ 32 :: bl o.arg))
def condW (l : List Nod) : List (List UInt8) := if l = [] then [] else [[105, 102], exprS l]
def rulW (r : Rul) : List (List UInt8) := effW r.deny :: bl r.id :: (tgW r.tg ++ condW r.cond ++ r.ob.map dutT)
def rulT (r : Rul) : List UInt8 := Lib.join (rulW r) [32] ++ [59]
def headW (p : Pol) : List UInt8 := if p.set = true then [115, 101, 116] else [112, 111, 108, 105, 99, 121]
/-- The words of a policy, of no more than so many depths. -/
def polW : Nat → Pol → List (List UInt8)
  | 0, _ => []
  | d + 1, p => headW p :: bl p.id :: algW p.alg :: (tgW p.tg ++ [[123]] ++ p.rules.map rulT ++ (p.kids.map (polW d)).flatten ++ [[125]] ++ p.ob.map dutT)
/-- P10.3. -/
def polT (p : Pol) : List UInt8 := Lib.join (polW 4 p) [32]
def showP (p : Pol) : List UInt8 := if rightE p = 0 then polT p else []
end Go.Proofs.YtdbnaaddocahpaaDoor
/- What the rows' condition gives the walks: strconv's table, and the words that package show lays. -/
namespace Go.Proofs.YtdbnaaddocahpaaDoor
set_option linter.unusedVariables false
open Go.RowKit

def WordsIs (w : World) (name : String) (ls : List (List UInt8)) : Prop := w.var? Tryd.prog name = some (ls.map fun l => Value.string ⟨l.toArray⟩).toArray
theorem WordsIs.then_ {w w' : World} {name : String} {ls : List (List UInt8)} (h : WordsIs w name ls) (hb : Below w.heap.size w w') : WordsIs w' name ls := by
  unfold WordsIs World.var? at *
  cases hg : Tryd.prog.globalNamed name with
  | none => simp [hg] at h
  | some g =>
    simp only [hg, Option.bind_some] at h ⊢
    have hlt : g < w.heap.size := by
      rcases Nat.lt_or_ge g w.heap.size with h' | h'
      · exact h'
      · rw [Array.getElem?_eq_none h'] at h; simp at h
    rw [hb.block g hlt]
    exact h
theorem WordsIs.cell {w : World} {name : String} {ls : List (List UInt8)} {g : Nat} (h : WordsIs w name ls) (hg : Tryd.prog.globalNamed name = some g) (i : Nat) (hi : i < ls.length) : w.cell? ⟨g, i, none⟩ = some (.string ⟨(ls.getD i []).toArray⟩) := by
  have := World.var?_cell hg h i
  simpa [List.getD, hi] using this
def catL : List (List UInt8) := [[], [115, 117, 98, 106, 101, 99, 116], [97, 99, 116, 105, 111, 110], [99, 97, 115, 101], [101, 110, 118]]
def algL : List (List UInt8) := [[], [100, 101, 110, 121, 111, 118, 101, 114], [112, 101, 114, 109, 105, 116, 111, 118, 101, 114], [102, 105, 114, 115, 116], [111, 110, 108, 121], [100, 101, 110, 121, 117, 110, 108, 101, 115, 115], [112, 101, 114, 109, 105, 116, 117, 110, 108, 101, 115, 115]]
def fnL : List (List UInt8) := [[], [], [], [111, 110, 101], [115, 105, 122, 101], [104, 97, 115], [101, 113], [108, 101, 115, 115], [97, 100, 100], [115, 117, 98], [109, 117, 108], [110, 111, 116], [97, 110, 100], [111, 114]]
def doL : List (List UInt8) := [[], [108, 111, 103], [114, 101, 100, 97, 99, 116], [114, 101, 118, 105, 101, 119], [110, 111, 116, 105, 102, 121]]
def cmpL : List (List UInt8) := [[], [61], [60], [62]]
/-- The condition. -/
structure Tbl (w : World) : Prop where
  tab : Tab w
  algs : WordsIs w "bailiff/show.algorithms" algL
  cats : WordsIs w "bailiff/show.categories" catL
  fns : WordsIs w "bailiff/show.functions" fnL
  cmps : WordsIs w "bailiff/show.comparisons" cmpL
  does : WordsIs w "bailiff/show.doings" doL
theorem Tbl.then_ {w w' : World} (h : Tbl w) (hb : Below w.heap.size w w') : Tbl w' := ⟨h.tab.then_ hb, h.algs.then_ hb, h.cats.then_ hb, h.fns.then_ hb, h.cmps.then_ hb, h.does.then_ hb⟩
theorem pick_at {ls : List (List UInt8)} {W : Int → List UInt8} {lo : Nat} (h : ∀ i : Fin ls.length, lo ≤ i.val → ls.getD i.val [] = W (i.val : Int)) {n : Int} (h0 : (lo : Int) ≤ n) (h1 : n < (ls.length : Int)) : n.toNat < ls.length ∧ ls.getD n.toNat [] = W n := by
  have hl : n.toNat < ls.length := by omega
  refine ⟨hl, ?_⟩
  have := h ⟨n.toNat, hl⟩ (by show lo ≤ n.toNat; omega)
  rw [this]
  show W ((n.toNat : Nat) : Int) = W n
  rw [show ((n.toNat : Nat) : Int) = n by omega]
theorem Tbl.cat {w : World} (h : Tbl w) {n : Int} (h0 : 1 ≤ n) (h1 : n ≤ 4) : w.cell? ⟨5, n.toNat, none⟩ = some (.string ⟨(catW n).toArray⟩) := by
  obtain ⟨a, b⟩ := pick_at (ls := catL) (W := catW) (lo := 1) (by decide +kernel) (show ((1 : Nat) : Int) ≤ n by omega) (show n < ((5 : Nat) : Int) by omega)
  have := h.cats.cell (g := 5) (by kernel_rfl) n.toNat a
  rw [b] at this
  exact this
theorem Tbl.alg {w : World} (h : Tbl w) {n : Int} (h0 : 1 ≤ n) (h1 : n ≤ 6) : w.cell? ⟨0, n.toNat, none⟩ = some (.string ⟨(algW n).toArray⟩) := by
  obtain ⟨a, b⟩ := pick_at (ls := algL) (W := algW) (lo := 1) (by decide +kernel) (show ((1 : Nat) : Int) ≤ n by omega) (show n < ((7 : Nat) : Int) by omega)
  have := h.algs.cell (g := 0) (by kernel_rfl) n.toNat a
  rw [b] at this
  exact this
theorem Tbl.fn {w : World} (h : Tbl w) {n : Int} (h0 : 3 ≤ n) (h1 : n ≤ 13) : w.cell? ⟨3, n.toNat, none⟩ = some (.string ⟨(fnW n).toArray⟩) := by
  obtain ⟨a, b⟩ := pick_at (ls := fnL) (W := fnW) (lo := 3) (by decide +kernel) (show ((3 : Nat) : Int) ≤ n by omega) (show n < ((14 : Nat) : Int) by omega)
  have := h.fns.cell (g := 3) (by kernel_rfl) n.toNat a
  rw [b] at this
  exact this
theorem Tbl.do {w : World} (h : Tbl w) {n : Int} (h0 : 1 ≤ n) (h1 : n ≤ 4) : w.cell? ⟨1, n.toNat, none⟩ = some (.string ⟨(doW n).toArray⟩) := by
  obtain ⟨a, b⟩ := pick_at (ls := doL) (W := doW) (lo := 1) (by decide +kernel) (show ((1 : Nat) : Int) ≤ n by omega) (show n < ((5 : Nat) : Int) by omega)
  have := h.does.cell (g := 1) (by kernel_rfl) n.toNat a
  rw [b] at this
  exact this
theorem Tbl.cmp {w : World} (h : Tbl w) {n : Int} (h0 : 1 ≤ n) (h1 : n ≤ 3) : w.cell? ⟨4, n.toNat, none⟩ = some (.string ⟨(cmpW n).toArray⟩) := by
  obtain ⟨a, b⟩ := pick_at (ls := cmpL) (W := cmpW) (lo := 1) (by decide +kernel) (show ((1 : Nat) : Int) ≤ n by omega) (show n < ((4 : Nat) : Int) by omega)
  have := h.cmps.cell (g := 4) (by kernel_rfl) n.toNat a
  rw [b] at this
  exact this
end Go.Proofs.YtdbnaaddocahpaaDoor
/- Tokens, plainly: what chapter 7 says of a text. -/
namespace Go.Proofs.YtdbnaaddocahpaaDoor
set_option linter.unusedVariables false

def blk (c : UInt8) : Bool := decide (c.toNat = 32) || decide (c.toNat = 10)
def dgt (c : UInt8) : Bool := decide (48 ≤ c.toNat) && decide (c.toNat ≤ 57)
def inm (c : UInt8) : Bool := lett c || later c
/-- A digit to the base 16. -/
def hexv (c : UInt8) : Option Nat := if dgt c = true then some (c.toNat - 48) else if 97 ≤ c.toNat ∧ c.toNat ≤ 102 then some (c.toNat - 87) else none
def numD (l : List UInt8) : Nat := l.foldl (fun a c => 10 * a + (c.toNat - 48)) 0
/-- Digits as they may be written: how much they are, if it isn't more than so much. -/
def decD (most : Nat) (d : List UInt8) : Option Nat := if d = [] ∨ (d.head? = some 48 ∧ d ≠ [48]) ∨ most < numD d then none else some (numD d)
/-- Two digits to the base 16, for a byte that may not stand by itself. -/
def hexB (a b : Option Nat) : Option (UInt8 × Nat) :=
  match a, b with
  | some x, some y => if odd8 (UInt8.ofNat (16 * x + y)) = true then some (UInt8.ofNat (16 * x + y), 3) else none
  | _, _ => none
def escB : List UInt8 → Option (UInt8 × Nat)
  | a :: b :: _ => hexB (hexv a) (hexv b)
  | _ => none
/-- One byte of a text, and by how many it is written. -/
def oneB : List UInt8 → Option (UInt8 × Nat)
  | [] => none
  | c :: r => if odd8 c = false then some (c, 1) else if c = 92 then escB r else none
theorem oneB_cons (c : UInt8) (r : List UInt8) : oneB (c :: r) = if odd8 c = false then some (c, 1) else if c = 92 then escB r else none := rfl
theorem oneB_plain {c : UInt8} {r : List UInt8} (h : odd8 c = false) : oneB (c :: r) = some (c, 1) := by rw [oneB_cons, if_pos h]
theorem oneB_odd {c : UInt8} {r : List UInt8} (h : odd8 c = true) (h2 : c ≠ 92) : oneB (c :: r) = none := by rw [oneB_cons, if_neg (by rw [h]; simp), if_neg h2]
theorem oneB_esc (r : List UInt8) : oneB (92 :: r) = escB r := by rw [oneB_cons, if_neg (by decide), if_pos rfl]
theorem oneB_short {r : List UInt8} (h : r.length < 2) : oneB (92 :: r) = none := by
  rw [oneB_esc]
  match r, h with
  | [], _ => rfl
  | [a], _ => rfl
theorem oneB_hex (a b : UInt8) (r : List UInt8) : oneB (92 :: a :: b :: r) = hexB (hexv a) (hexv b) := by rw [oneB_esc]; rfl
theorem hexB_some (x y : Nat) : hexB (some x) (some y) = if odd8 (UInt8.ofNat (16 * x + y)) = true then some (UInt8.ofNat (16 * x + y), 3) else none := rfl
theorem hexB_none1 (b : Option Nat) : hexB none b = none := by cases b <;> rfl
theorem hexB_none2 (a : Option Nat) : hexB a none = none := by cases a <;> rfl
theorem hexB_three {a b : Option Nat} {x : UInt8} {k : Nat} (h : hexB a b = some (x, k)) : k = 3 := by
  cases a with
  | none => rw [hexB_none1] at h; cases h
  | some p => cases b with
    | none => rw [hexB_none2] at h; cases h
    | some q =>
      rw [hexB_some] at h
      split at h
      · cases h; rfl
      · cases h
/-- Behind a first quote: what is meant, and how many bytes it is with the last quote. -/
def qtB (l : List UInt8) : Option (List UInt8 × Nat) :=
  match l with
  | [] => none
  | c :: r => if c = 34 then some ([], 1) else
      match oneB (c :: r) with
      | none => none
      | some (x, k) => (qtB (r.drop (k - 1))).map fun p => (x :: p.1, k + p.2)
termination_by l.length
decreasing_by simp only [List.length_drop, List.length_cons]; omega
def mrk (c : UInt8) : Bool := c = 123 || c = 125 || c = 40 || c = 41 || c = 46 || c = 44 || c = 59 || c = 61 || c = 60 || c = 62 || c = 33
/-- The token that begins here: its kind, number, text, and how many bytes it is. -/
def tokB : List UInt8 → Option (Int × Int × List UInt8 × Nat)
  | [] => none
  | c :: r =>
    if lett c = true then (if Named ((c :: r).takeWhile inm) then some (1, 0, (c :: r).takeWhile inm, ((c :: r).takeWhile inm).length) else none)
    else if dgt c = true then (decD 9223372036854775807 ((c :: r).takeWhile dgt)).map fun (n : Nat) => (2, (n : Int), [], ((c :: r).takeWhile dgt).length)
    else if c = 45 then (decD 9223372036854775808 (r.takeWhile dgt)).bind fun (n : Nat) => if n = 0 then none else some (2, -(n : Int), [], (r.takeWhile dgt).length + 1)
    else if c = 64 then (decD 1099511627776 (r.takeWhile dgt)).map fun (n : Nat) => (3, (n : Int), [], (r.takeWhile dgt).length + 1)
    else if c = 35 then (if Named (r.takeWhile inm) then some (4, 0, r.takeWhile inm, (r.takeWhile inm).length + 1) else none)
    else if c = 34 then (qtB r).bind fun p => if p.1.length ≤ 64 then some (5, 0, p.1, p.2 + 1) else none
    else if mrk c = true then some (6, 0, [c], 1)
    else none

/-- A token: kind, place, number, text. -/
structure Tk where
  k : Int
  p : Int
  n : Int
  s : ByteArray
def Tk.l (t : Tk) : List UInt8 := t.s.data.toList
theorem Tk.ext' {a b : Tk} (h1 : a.k = b.k) (h2 : a.p = b.p) (h3 : a.n = b.n) (h4 : a.l = b.l) : a = b := by
  obtain ⟨k, p, n, s⟩ := a
  obtain ⟨k', p', n', s'⟩ := b
  obtain ⟨⟨x⟩⟩ := s
  obtain ⟨⟨y⟩⟩ := s'
  simp_all [Tk.l]
instance : DecidableEq Tk := fun a b => if h : a.k = b.k ∧ a.p = b.p ∧ a.n = b.n ∧ a.l = b.l then .isTrue (Tk.ext' h.1 h.2.1 h.2.2.1 h.2.2.2) else .isFalse (by rintro rfl; exact h ⟨rfl, rfl, rfl, rfl⟩)

def cat (ts : List Tk) : Except Nat (List Tk) → Except Nat (List Tk)
  | .error e => .error e
  | .ok l => .ok (ts ++ l)
theorem cat_nil (x : Except Nat (List Tk)) : cat [] x = x := by cases x <;> rfl
theorem cat_cat (a b : List Tk) (x : Except Nat (List Tk)) : cat a (cat b x) = cat (a ++ b) x := by cases x <;> simp [cat]

/-- P7.1, behind place p. -/
def lexB (l : List UInt8) (p : Nat) : Except Nat (List Tk) :=
  match l with
  | [] => .ok [⟨7, p, 0, ⟨#[]⟩⟩]
  | c :: r => if blk c = true then lexB r (p + 1) else
      match tokB (c :: r) with
      | none => .error p
      | some (k, n, s, m) => cat [⟨k, p, n, ⟨s.toArray⟩⟩] (lexB (r.drop (m - 1)) (p + m))
termination_by l.length
decreasing_by
  · simp
  · simp only [List.length_drop, List.length_cons]; omega

/-! ### Equations -/
theorem qtB_nil : qtB [] = none := by rw [qtB]
theorem qtB_end (r : List UInt8) : qtB (34 :: r) = some ([], 1) := by rw [qtB]; rfl
theorem oneB_pos {l : List UInt8} {x : UInt8} {k : Nat} (h : oneB l = some (x, k)) : 1 ≤ k ∧ k ≤ l.length := by
  cases l with
  | nil => cases h
  | cons c r =>
    rw [oneB_cons] at h
    split at h
    · cases h; simp
    · split at h
      · match r, h with
        | a :: b :: r', h => have := hexB_three h; subst this; simp
      · cases h
theorem drop_cons' {α : Type} {c : α} {r : List α} {k : Nat} (h : 1 ≤ k) : r.drop (k - 1) = (c :: r).drop k := by
  obtain ⟨j, rfl⟩ : ∃ j, k = j + 1 := ⟨k - 1, by omega⟩
  rfl
theorem qtB_one {c : UInt8} {r : List UInt8} {x : UInt8} {k : Nat} (hc : c ≠ 34) (h : oneB (c :: r) = some (x, k)) : qtB (c :: r) = (qtB ((c :: r).drop k)).map fun p => (x :: p.1, k + p.2) := by
  rw [qtB, if_neg hc, h]
  dsimp only
  rw [drop_cons' (oneB_pos h).1]
theorem qtB_bad {c : UInt8} {r : List UInt8} (hc : c ≠ 34) (h : oneB (c :: r) = none) : qtB (c :: r) = none := by
  rw [qtB, if_neg hc, h]
theorem lexB_nil (p : Nat) : lexB [] p = .ok [⟨7, p, 0, ⟨#[]⟩⟩] := by rw [lexB]
theorem lexB_blank {c : UInt8} {r : List UInt8} {p : Nat} (h : blk c = true) : lexB (c :: r) p = lexB r (p + 1) := by rw [lexB, if_pos h]
theorem lexB_bad {c : UInt8} {r : List UInt8} {p : Nat} (h : blk c = false) (ht : tokB (c :: r) = none) : lexB (c :: r) p = .error p := by
  rw [lexB, if_neg (by rw [h]; simp), ht]
theorem tk_len (p : UInt8 → Bool) (l : List UInt8) : (l.takeWhile p).length ≤ l.length := (List.takeWhile_sublist p).length_le
theorem qtB_le : ∀ (n : Nat) (l m : List UInt8) (j : Nat), l.length ≤ n → qtB l = some (m, j) → 1 ≤ j ∧ j ≤ l.length ∧ m.length ≤ j
  | n, [], m, j, _, h => by rw [qtB_nil] at h; cases h
  | 0, c :: r, m, j, hl, h => by simp at hl
  | n + 1, c :: r, m, j, hl, h => by
    by_cases hc : c = 34
    · subst hc; rw [qtB_end] at h; cases h; simp
    · cases ho : oneB (c :: r) with
      | none => rw [qtB_bad hc ho] at h; cases h
      | some xk =>
        obtain ⟨x, k⟩ := xk
        rw [qtB_one hc ho] at h
        obtain ⟨k1, k2⟩ := oneB_pos ho
        cases hq : qtB ((c :: r).drop k) with
        | none => rw [hq] at h; cases h
        | some q =>
          obtain ⟨m', j'⟩ := q
          rw [hq] at h
          simp only [Option.map_some, Option.some.injEq, Prod.mk.injEq] at h
          obtain ⟨rfl, rfl⟩ := h
          have := qtB_le n _ m' j' (by simp only [List.length_drop]; simp only [List.length_cons] at hl; simp only [List.length_cons]; omega) hq
          simp only [List.length_drop, List.length_cons] at this k2 ⊢
          omega
theorem tokB_pos {l : List UInt8} {k n : Int} {s : List UInt8} {m : Nat} (h : tokB l = some (k, n, s, m)) : 1 ≤ m ∧ m ≤ l.length ∧ s.length ≤ m := by
  cases l with
  | nil => cases h
  | cons c r =>
    have t1 := tk_len inm (c :: r)
    have t2 := tk_len dgt (c :: r)
    have t3 := tk_len dgt r
    have t4 := tk_len inm r
    simp only [List.length_cons] at t1 t2 t3 t4 ⊢
    rw [tokB] at h
    split at h
    · split at h
      · rename_i hn
        cases h
        have := hn.1
        omega
      · cases h
    · split at h
      · rename_i hd
        cases hq : decD 9223372036854775807 ((c :: r).takeWhile dgt) with
        | none => rw [hq] at h; cases h
        | some x =>
          rw [hq] at h
          cases h
          have : 1 ≤ ((c :: r).takeWhile dgt).length := by rw [List.takeWhile_cons, if_pos hd]; simp
          simp
          omega
      · split at h
        · cases hq : decD 9223372036854775808 (r.takeWhile dgt) with
          | none => rw [hq] at h; cases h
          | some x =>
            rw [hq] at h
            simp only [Option.bind_some] at h
            split at h
            · cases h
            · cases h; simp; omega
        · split at h
          · cases hq : decD 1099511627776 (r.takeWhile dgt) with
            | none => rw [hq] at h; cases h
            | some x => rw [hq] at h; cases h; simp; omega
          · split at h
            · split at h
              · cases h; simp; omega
              · cases h
            · split at h
              · cases hq : qtB r with
                | none => rw [hq] at h; cases h
                | some q =>
                  obtain ⟨m', j⟩ := q
                  rw [hq] at h
                  simp only [Option.bind_some] at h
                  split at h
                  · cases h
                    have := qtB_le _ _ _ _ (Nat.le_refl _) hq
                    omega
                  · cases h
              · split at h
                · cases h; simp
                · cases h
theorem lexB_tok {c : UInt8} {r : List UInt8} {p : Nat} {k n : Int} {s : List UInt8} {m : Nat} (h : blk c = false) (ht : tokB (c :: r) = some (k, n, s, m)) :
    lexB (c :: r) p = cat [⟨k, p, n, ⟨s.toArray⟩⟩] (lexB ((c :: r).drop m) (p + m)) := by
  rw [lexB, if_neg (by rw [h]; simp), ht]
  dsimp only
  rw [drop_cons' (tokB_pos ht).1]
theorem lexB_skip (l : List UInt8) (p : Nat) : lexB l p = lexB (l.drop (l.takeWhile blk).length) (p + (l.takeWhile blk).length) := by
  induction l generalizing p with
  | nil => simp
  | cons c r ih =>
    cases h : blk c with
    | true => rw [lexB_blank h, ih, List.takeWhile_cons, if_pos h]; simp only [List.length_cons, List.drop_succ_cons]; congr 1; omega
    | false => rw [List.takeWhile_cons, if_neg (by rw [h]; simp)]; simp
/-- How many bytes a row goes on with. -/
theorem drop_tw {p : UInt8 → Bool} {l : List UInt8} {c : UInt8} {r : List UInt8} (h : l.drop (l.takeWhile p).length = c :: r) : p c = false := by
  induction l with
  | nil => simp at h
  | cons d t ih =>
    cases hd : p d with
    | true => rw [List.takeWhile_cons, if_pos hd] at h; exact ih (by simpa using h)
    | false =>
      rw [List.takeWhile_cons, if_neg (by rw [hd]; simp)] at h
      simp at h
      rw [← h.1, hd]
end Go.Proofs.YtdbnaaddocahpaaDoor
/- Tokens of texts set together, plainly. -/
namespace Go.Proofs.YtdbnaaddocahpaaDoor
set_option linter.unusedVariables false

def shT (d : Nat) (t : Tk) : Tk := ⟨t.k, t.p + d, t.n, t.s⟩
/-- Places moved. -/
def shE (d : Nat) : Except Nat (List Tk) → Except Nat (List Tk)
  | .error e => .error (e + d)
  | .ok ts => .ok (ts.map (shT d))
theorem shE_cat (d : Nat) (ts : List Tk) (x : Except Nat (List Tk)) : shE d (cat ts x) = cat (ts.map (shT d)) (shE d x) := by cases x <;> simp [shE, cat]
theorem lexB_shift_n : ∀ (n : Nat) (l : List UInt8) (p d : Nat), l.length ≤ n → lexB l (p + d) = shE d (lexB l p)
  | _, [], p, d, _ => by rw [lexB_nil, lexB_nil]; simp [shE, shT]
  | 0, c :: r, p, d, h => by simp at h
  | n + 1, c :: r, p, d, h => by
    simp only [List.length_cons] at h
    cases hb : blk c with
    | true => rw [lexB_blank hb, lexB_blank hb, show p + d + 1 = p + 1 + d by omega, lexB_shift_n n r (p + 1) d (by omega)]
    | false =>
      cases ht : tokB (c :: r) with
      | none => rw [lexB_bad hb ht, lexB_bad hb ht]; rfl
      | some q =>
        obtain ⟨k, m, s, j⟩ := q
        have hj := tokB_pos ht
        rw [lexB_tok hb ht, lexB_tok hb ht, shE_cat, show p + d + j = p + j + d by omega, lexB_shift_n n _ (p + j) d (by rw [List.length_drop, List.length_cons]; omega)]
        simp [shT]
theorem lexB_shift (l : List UInt8) (p d : Nat) : lexB l (p + d) = shE d (lexB l p) := lexB_shift_n l.length l p d (Nat.le_refl _)
theorem lexB_from (l : List UInt8) (d : Nat) : lexB l d = shE d (lexB l 0) := by have := lexB_shift l 0 d; rwa [Nat.zero_add] at this

theorem tw_sep {p : UInt8 → Bool} {x : UInt8} (h : p x = false) (l y : List UInt8) : (l ++ x :: y).takeWhile p = l.takeWhile p := by
  induction l with
  | nil => simp [h]
  | cons c r ih =>
    rw [List.cons_append, List.takeWhile_cons, List.takeWhile_cons]
    cases p c <;> simp [ih]
theorem escB_app {r : List UInt8} {q : UInt8 × Nat} (h : escB r = some q) (y : List UInt8) : escB (r ++ y) = some q := by
  match r, h with
  | a :: b :: r, h => exact h
theorem oneB_app {l : List UInt8} {q : UInt8 × Nat} (h : oneB l = some q) (y : List UInt8) : oneB (l ++ y) = some q := by
  cases l with
  | nil => cases h
  | cons c r =>
    rw [oneB_cons] at h
    rw [List.cons_append, oneB_cons]
    split at h
    · rename_i h1; rw [if_pos h1]; exact h
    · rename_i h1
      rw [if_neg h1]
      split at h
      · rename_i h2; rw [if_pos h2]; exact escB_app h y
      · cases h
theorem hexv_ten : hexv 10 = none := by decide
theorem escB_nl {r : List UInt8} (h : escB r = none) (y : List UInt8) : escB (r ++ 10 :: y) = none := by
  match r, h with
  | [], _ => cases y with
    | nil => rfl
    | cons a y => show hexB (hexv 10) (hexv a) = none; rw [hexv_ten, hexB_none1]
  | [a], _ => show hexB (hexv a) (hexv 10) = none; rw [hexv_ten, hexB_none2]
  | a :: b :: r, h => exact h
theorem oneB_nl {c : UInt8} {r : List UInt8} (h : oneB (c :: r) = none) (y : List UInt8) : oneB (c :: r ++ 10 :: y) = none := by
  rw [oneB_cons] at h
  rw [List.cons_append, oneB_cons]
  split at h
  · cases h
  · rename_i h1
    rw [if_neg h1]
    split at h
    · rename_i h2; rw [if_pos h2]; exact escB_nl h y
    · rename_i h2; rw [if_neg h2]
theorem qtB_app : ∀ (n : Nat) (l : List UInt8) (q : List UInt8 × Nat) (y : List UInt8), l.length ≤ n → qtB l = some q → qtB (l ++ y) = some q
  | _, [], q, y, _, h => by rw [qtB_nil] at h; cases h
  | 0, c :: r, q, y, hl, h => by simp at hl
  | n + 1, c :: r, q, y, hl, h => by
    by_cases hc : c = 34
    · subst hc; rw [qtB_end] at h; rw [List.cons_append, qtB_end]; exact h
    · cases ho : oneB (c :: r) with
      | none => rw [qtB_bad hc ho] at h; cases h
      | some xk =>
        obtain ⟨x, k⟩ := xk
        have hk := oneB_pos ho
        rw [qtB_one hc ho] at h
        have ho' := oneB_app ho y
        rw [List.cons_append] at ho'
        rw [List.cons_append, qtB_one hc ho', ← List.cons_append, List.drop_append_of_le_length hk.2]
        cases hq : qtB ((c :: r).drop k) with
        | none => rw [hq] at h; cases h
        | some q' =>
          rw [hq] at h
          rw [qtB_app n _ q' y (by simp only [List.length_drop]; simp only [List.length_cons] at hl ⊢; omega) hq]
          exact h
theorem qtB_nl : ∀ (n : Nat) (l : List UInt8) (y : List UInt8), l.length ≤ n → qtB l = none → qtB (l ++ 10 :: y) = none
  | _, [], y, _, _ => qtB_bad (by decide) (oneB_odd (by decide) (by decide))
  | 0, c :: r, y, hl, h => by simp at hl
  | n + 1, c :: r, y, hl, h => by
    by_cases hc : c = 34
    · subst hc; rw [qtB_end] at h; cases h
    · cases ho : oneB (c :: r) with
      | none => rw [List.cons_append]; exact qtB_bad hc (oneB_nl ho y)
      | some xk =>
        obtain ⟨x, k⟩ := xk
        have hk := oneB_pos ho
        rw [qtB_one hc ho] at h
        have ho' := oneB_app ho (10 :: y)
        rw [List.cons_append] at ho'
        rw [List.cons_append, qtB_one hc ho', ← List.cons_append, List.drop_append_of_le_length hk.2]
        cases hq : qtB ((c :: r).drop k) with
        | some q' => rw [hq] at h; cases h
        | none =>
          rw [qtB_nl n _ y (by simp only [List.length_drop]; simp only [List.length_cons] at hl ⊢; omega) hq]
          rfl
theorem tokB_cons (c : UInt8) (r : List UInt8) : tokB (c :: r) =
    if lett c = true then (if Named ((c :: r).takeWhile inm) then some (1, 0, (c :: r).takeWhile inm, ((c :: r).takeWhile inm).length) else none)
    else if dgt c = true then (decD 9223372036854775807 ((c :: r).takeWhile dgt)).map fun (n : Nat) => (2, (n : Int), [], ((c :: r).takeWhile dgt).length)
    else if c = 45 then (decD 9223372036854775808 (r.takeWhile dgt)).bind fun (n : Nat) => if n = 0 then none else some (2, -(n : Int), [], (r.takeWhile dgt).length + 1)
    else if c = 64 then (decD 1099511627776 (r.takeWhile dgt)).map fun (n : Nat) => (3, (n : Int), [], (r.takeWhile dgt).length + 1)
    else if c = 35 then (if Named (r.takeWhile inm) then some (4, 0, r.takeWhile inm, (r.takeWhile inm).length + 1) else none)
    else if c = 34 then (qtB r).bind fun p => if p.1.length ≤ 64 then some (5, 0, p.1, p.2 + 1) else none
    else if mrk c = true then some (6, 0, [c], 1)
    else none := rfl
/-- What isn't a text's inside is the same ahead of a blank. -/
theorem tokB_sep {c x : UInt8} (hi : inm x = false) (hd : dgt x = false) (r y : List UInt8) (hq : c = 34 → qtB (r ++ x :: y) = qtB r) : tokB (c :: r ++ x :: y) = tokB (c :: r) := by
  have e1 : (c :: r ++ x :: y).takeWhile inm = (c :: r).takeWhile inm := tw_sep hi _ _
  have e2 : (c :: r ++ x :: y).takeWhile dgt = (c :: r).takeWhile dgt := tw_sep hd _ _
  rw [List.cons_append] at e1 e2 ⊢
  rw [tokB_cons, tokB_cons, e1, e2, tw_sep hi, tw_sep hd]
  by_cases h34 : c = 34
  · rw [hq h34]
  · simp only [if_neg h34]
theorem tokB_app {c x : UInt8} (hi : inm x = false) (hd : dgt x = false) (r y : List UInt8) {q : Int × Int × List UInt8 × Nat} (h : tokB (c :: r) = some q) : tokB (c :: r ++ x :: y) = some q := by
  rw [← h]
  by_cases h34 : c = 34
  · subst h34
    have hh := h
    rw [tokB_cons, if_neg (by decide), if_neg (by decide), if_neg (by decide), if_neg (by decide), if_neg (by decide), if_pos rfl] at hh
    cases hq : qtB r with
    | none => rw [hq] at hh; cases hh
    | some p => exact tokB_sep hi hd r y fun _ => by rw [hq]; exact qtB_app _ _ _ _ (Nat.le_refl _) hq
  · exact tokB_sep hi hd r y fun hc => absurd hc h34
theorem tokB_nl {c : UInt8} (r y : List UInt8) (h : tokB (c :: r) = none) : tokB (c :: r ++ 10 :: y) = none := by
  rw [← h]
  refine tokB_sep (by decide) (by decide) r y fun _ => ?_
  cases hq : qtB r with
  | none => exact qtB_nl _ _ _ (Nat.le_refl _) hq
  | some p => exact qtB_app _ _ _ _ (Nat.le_refl _) hq

theorem lexB_ne : ∀ (n : Nat) (l : List UInt8) (p : Nat) (ts : List Tk), l.length ≤ n → lexB l p = .ok ts → ∃ us, ts = us ++ [⟨7, ((p + l.length : Nat) : Int), 0, ⟨#[]⟩⟩] ∧ us.length ≤ l.length
  | _, [], p, ts, _, h => by rw [lexB_nil] at h; cases h; exact ⟨[], by simp, by simp⟩
  | 0, c :: r, p, ts, hl, h => by simp at hl
  | n + 1, c :: r, p, ts, hl, h => by
    simp only [List.length_cons] at hl
    cases hb : blk c with
    | true =>
      rw [lexB_blank hb] at h
      obtain ⟨us, rfl, h2⟩ := lexB_ne n r (p + 1) ts (by omega) h
      exact ⟨us, by rw [List.length_cons, show p + 1 + r.length = p + (r.length + 1) by omega], by rw [List.length_cons]; omega⟩
    | false =>
      cases ht : tokB (c :: r) with
      | none => rw [lexB_bad hb ht] at h; cases h
      | some q =>
        obtain ⟨k, m, s, j⟩ := q
        have hj := tokB_pos ht
        rw [lexB_tok hb ht] at h
        cases hx : lexB ((c :: r).drop j) (p + j) with
        | error e => rw [hx] at h; cases h
        | ok ts' =>
          rw [hx] at h
          cases h
          obtain ⟨us, rfl, h2⟩ := lexB_ne n _ _ _ (by rw [List.length_drop, List.length_cons]; omega) hx
          rw [List.length_drop] at h2 ⊢
          exact ⟨⟨k, p, m, ⟨s.toArray⟩⟩ :: us, by rw [show p + j + ((c :: r).length - j) = p + (c :: r).length by omega]; rfl, by simp only [List.length_cons] at h2 ⊢; omega⟩
theorem lexB_places : ∀ (n : Nat) (l : List UInt8) (p : Nat) (ts : List Tk), l.length ≤ n → lexB l p = .ok ts → ∀ t ∈ ts, (p : Int) ≤ t.p ∧ t.p ≤ ((p + l.length : Nat) : Int)
  | _, [], p, ts, _, h => by rw [lexB_nil] at h; cases h; intro t ht; simp at ht; subst ht; simp
  | 0, c :: r, p, ts, hl, h => by simp at hl
  | n + 1, c :: r, p, ts, hl, h => by
    simp only [List.length_cons] at hl ⊢
    cases hb : blk c with
    | true =>
      rw [lexB_blank hb] at h
      intro t ht
      have := lexB_places n r (p + 1) ts (by omega) h t ht
      omega
    | false =>
      cases htk : tokB (c :: r) with
      | none => rw [lexB_bad hb htk] at h; cases h
      | some q =>
        obtain ⟨k, m, s, j⟩ := q
        have hj := tokB_pos htk
        rw [lexB_tok hb htk] at h
        cases hx : lexB ((c :: r).drop j) (p + j) with
        | error e => rw [hx] at h; cases h
        | ok ts' =>
          rw [hx] at h
          cases h
          intro t ht
          rcases List.mem_cons.1 ht with rfl | ht
          · dsimp only; omega
          · have := lexB_places n _ _ _ (by rw [List.length_drop, List.length_cons]; omega) hx t ht
            rw [List.length_drop] at this
            simp only [List.length_cons] at this hj
            omega
theorem lexB_err_le : ∀ (n : Nat) (l : List UInt8) (p e : Nat), l.length ≤ n → lexB l p = .error e → e ≤ p + l.length
  | _, [], p, e, _, h => by rw [lexB_nil] at h; cases h
  | 0, c :: r, p, e, hl, h => by simp at hl
  | n + 1, c :: r, p, e, hl, h => by
    simp only [List.length_cons] at hl ⊢
    cases hb : blk c with
    | true =>
      rw [lexB_blank hb] at h
      have := lexB_err_le n r (p + 1) e (by omega) h
      omega
    | false =>
      cases htk : tokB (c :: r) with
      | none => rw [lexB_bad hb htk] at h; cases h; omega
      | some q =>
        obtain ⟨k, m, s, j⟩ := q
        have hj := tokB_pos htk
        rw [lexB_tok hb htk] at h
        cases hx : lexB ((c :: r).drop j) (p + j) with
        | ok ts' => rw [hx] at h; cases h
        | error e' =>
          rw [hx] at h
          cases h
          have := lexB_err_le n _ _ _ (by rw [List.length_drop, List.length_cons]; omega) hx
          rw [List.length_drop] at this
          simp only [List.length_cons] at this hj
          omega
theorem lexB_join_n {x : UInt8} (hx : blk x = true) (hi : inm x = false) (hd : dgt x = false) (y : List UInt8) : ∀ (n : Nat) (a : List UInt8) (p : Nat) (ts : List Tk), a.length ≤ n → lexB a p = .ok ts → lexB (a ++ x :: y) p = cat ts.dropLast (lexB y (p + a.length + 1))
  | _, [], p, ts, _, h => by rw [lexB_nil] at h; cases h; rw [List.nil_append, lexB_blank hx]; simp [cat_nil]
  | 0, c :: r, p, ts, hl, h => by simp at hl
  | n + 1, c :: r, p, ts, hl, h => by
    simp only [List.length_cons] at hl
    cases hb : blk c with
    | true =>
      rw [lexB_blank hb] at h
      rw [List.cons_append, lexB_blank hb, lexB_join_n hx hi hd y n r (p + 1) ts (by omega) h, List.length_cons, show p + 1 + r.length + 1 = p + (r.length + 1) + 1 by omega]
    | false =>
      cases ht : tokB (c :: r) with
      | none => rw [lexB_bad hb ht] at h; cases h
      | some q =>
        obtain ⟨k, m, s, j⟩ := q
        have hj := tokB_pos ht
        have ht' := tokB_app hi hd r y ht
        rw [List.cons_append] at ht'
        rw [lexB_tok hb ht] at h
        rw [List.cons_append, lexB_tok hb ht', ← List.cons_append, List.drop_append_of_le_length hj.2.1]
        cases hq : lexB ((c :: r).drop j) (p + j) with
        | error e => rw [hq] at h; cases h
        | ok ts' =>
          rw [hq] at h
          cases h
          obtain ⟨us, rfl, _⟩ := lexB_ne _ _ _ _ (Nat.le_refl _) hq
          rw [lexB_join_n hx hi hd y n _ (p + j) _ (by rw [List.length_drop, List.length_cons]; omega) hq, cat_cat, List.length_drop, show p + j + ((c :: r).length - j) + 1 = p + (c :: r).length + 1 by omega]
          congr 1
          rw [List.dropLast_concat, ← List.append_assoc, List.dropLast_concat]
theorem lexB_join {x : UInt8} (hx : x = 32 ∨ x = 10) {a y : List UInt8} {p : Nat} {ts : List Tk} (h : lexB a p = .ok ts) : lexB (a ++ x :: y) p = cat ts.dropLast (lexB y (p + a.length + 1)) := by
  rcases hx with rfl | rfl
  · exact lexB_join_n (by decide) (by decide) (by decide) y _ a p ts (Nat.le_refl _) h
  · exact lexB_join_n (by decide) (by decide) (by decide) y _ a p ts (Nat.le_refl _) h
theorem lexB_nl : ∀ (n : Nat) (a y : List UInt8) (p e : Nat), a.length ≤ n → lexB a p = .error e → lexB (a ++ 10 :: y) p = .error e
  | _, [], y, p, e, _, h => by rw [lexB_nil] at h; cases h
  | 0, c :: r, y, p, e, hl, h => by simp at hl
  | n + 1, c :: r, y, p, e, hl, h => by
    simp only [List.length_cons] at hl
    cases hb : blk c with
    | true =>
      rw [lexB_blank hb] at h
      rw [List.cons_append, lexB_blank hb]
      exact lexB_nl n r y _ _ (by omega) h
    | false =>
      cases ht : tokB (c :: r) with
      | none =>
        have ht' := tokB_nl r y ht
        rw [List.cons_append] at ht'
        rw [List.cons_append, lexB_bad hb ht']
        rw [lexB_bad hb ht] at h
        exact h
      | some q =>
        obtain ⟨k, m, s, j⟩ := q
        have hj := tokB_pos ht
        have ht' := tokB_app (x := 10) (by decide) (by decide) r y ht
        rw [List.cons_append] at ht'
        rw [lexB_tok hb ht] at h
        rw [List.cons_append, lexB_tok hb ht', ← List.cons_append, List.drop_append_of_le_length hj.2.1]
        cases hq : lexB ((c :: r).drop j) (p + j) with
        | ok ts' => rw [hq] at h; cases h
        | error e' =>
          rw [hq] at h
          rw [lexB_nl n _ y _ _ (by rw [List.length_drop, List.length_cons]; omega) hq]
          exact h
theorem lexB_ahead : ∀ (a l : List UInt8) (p : Nat), (∀ c ∈ a, blk c = true) → lexB (a ++ l) p = lexB l (p + a.length)
  | [], l, p, _ => rfl
  | c :: a, l, p, h => by
    rw [List.cons_append, lexB_blank (h c (List.mem_cons_self ..)), lexB_ahead a l (p + 1) (fun d hd => h d (List.mem_cons_of_mem _ hd)), List.length_cons, show p + 1 + a.length = p + (a.length + 1) by omega]
end Go.Proofs.YtdbnaaddocahpaaDoor
/- The parser, plainly: its words, its state, and what each of its functions makes of it. -/
namespace Go.Proofs.YtdbnaaddocahpaaDoor
set_option linter.unusedVariables false

abbrev w_policy : ByteArray := ⟨#[112, 111, 108, 105, 99, 121]⟩
abbrev w_set : ByteArray := ⟨#[115, 101, 116]⟩
abbrev w_denyover : ByteArray := ⟨#[100, 101, 110, 121, 111, 118, 101, 114]⟩
abbrev w_permitover : ByteArray := ⟨#[112, 101, 114, 109, 105, 116, 111, 118, 101, 114]⟩
abbrev w_first : ByteArray := ⟨#[102, 105, 114, 115, 116]⟩
abbrev w_only : ByteArray := ⟨#[111, 110, 108, 121]⟩
abbrev w_denyunless : ByteArray := ⟨#[100, 101, 110, 121, 117, 110, 108, 101, 115, 115]⟩
abbrev w_permitunless : ByteArray := ⟨#[112, 101, 114, 109, 105, 116, 117, 110, 108, 101, 115, 115]⟩
abbrev w_permit : ByteArray := ⟨#[112, 101, 114, 109, 105, 116]⟩
abbrev w_deny : ByteArray := ⟨#[100, 101, 110, 121]⟩
abbrev w_when : ByteArray := ⟨#[119, 104, 101, 110]⟩
abbrev w_and : ByteArray := ⟨#[97, 110, 100]⟩
abbrev w_or : ByteArray := ⟨#[111, 114]⟩
abbrev w_subject : ByteArray := ⟨#[115, 117, 98, 106, 101, 99, 116]⟩
abbrev w_action : ByteArray := ⟨#[97, 99, 116, 105, 111, 110]⟩
abbrev w_case : ByteArray := ⟨#[99, 97, 115, 101]⟩
abbrev w_env : ByteArray := ⟨#[101, 110, 118]⟩
abbrev w_false : ByteArray := ⟨#[102, 97, 108, 115, 101]⟩
abbrev w_true : ByteArray := ⟨#[116, 114, 117, 101]⟩
abbrev w_if : ByteArray := ⟨#[105, 102]⟩
abbrev w_one : ByteArray := ⟨#[111, 110, 101]⟩
abbrev w_size : ByteArray := ⟨#[115, 105, 122, 101]⟩
abbrev w_has : ByteArray := ⟨#[104, 97, 115]⟩
abbrev w_eq : ByteArray := ⟨#[101, 113]⟩
abbrev w_less : ByteArray := ⟨#[108, 101, 115, 115]⟩
abbrev w_add : ByteArray := ⟨#[97, 100, 100]⟩
abbrev w_sub : ByteArray := ⟨#[115, 117, 98]⟩
abbrev w_mul : ByteArray := ⟨#[109, 117, 108]⟩
abbrev w_not : ByteArray := ⟨#[110, 111, 116]⟩
abbrev w_on : ByteArray := ⟨#[111, 110]⟩
abbrev w_log : ByteArray := ⟨#[108, 111, 103]⟩
abbrev w_redact : ByteArray := ⟨#[114, 101, 100, 97, 99, 116]⟩
abbrev w_review : ByteArray := ⟨#[114, 101, 118, 105, 101, 119]⟩
abbrev w_notify : ByteArray := ⟨#[110, 111, 116, 105, 102, 121]⟩
abbrev m_lb : ByteArray := ⟨#[123]⟩
abbrev m_rb : ByteArray := ⟨#[125]⟩
abbrev m_lp : ByteArray := ⟨#[40]⟩
abbrev m_rp : ByteArray := ⟨#[41]⟩
abbrev m_dot : ByteArray := ⟨#[46]⟩
abbrev m_bang : ByteArray := ⟨#[33]⟩
abbrev m_eqm : ByteArray := ⟨#[61]⟩
abbrev m_lt : ByteArray := ⟨#[60]⟩
abbrev m_gt : ByteArray := ⟨#[62]⟩
abbrev m_semi : ByteArray := ⟨#[59]⟩
abbrev m_comma : ByteArray := ⟨#[44]⟩

/-- What is left of the tokens, how many rules there were, and what went wrong first. -/
structure Pz where
  rest : List Tk
  met : Nat
  err : Int
  at_ : Int
def Pz.hd (s : Pz) : Tk := s.rest.headD ⟨7, 0, 0, ⟨#[]⟩⟩
/-- What holds of it all along: an end is left, and numbers and texts are such as Go has. -/
def Pz.ok (L : Nat) (s : Pz) : Prop :=
  (∃ e, s.rest.getLast? = some e ∧ e.k = 7) ∧ (∀ t ∈ s.rest, InI t.k ∧ (0 ≤ t.p ∧ t.p ≤ (L : Int)) ∧ InI t.n ∧ t.s.size ≤ maxLen) ∧ (s.rest.length ≤ 5000 ∧ s.met + s.rest.length ≤ 6000 ∧ L ≤ 4096) ∧ (s.err = 0 ∨ s.err = 5 ∨ s.err = 6) ∧ 0 ≤ s.at_ ∧ s.at_ ≤ (L : Int)

def failR (e a : Int) (s : Pz) : Pz := if s.err = 0 then ⟨s.rest.drop (s.rest.length - 1), s.met, e, a⟩ else ⟨s.rest.drop (s.rest.length - 1), s.met, s.err, s.at_⟩
def wrongR (s : Pz) : Pz := failR 5 s.hd.p s
def mostR (n limit : Int) (s : Pz) : Pz := if limit < n then failR 6 s.hd.p s else s
/-- Which of these it is, from 1 on, or 0. -/
def idxW (x : ByteArray) : List ByteArray → Nat
  | [] => 0
  | y :: l => if x = y then 1 else if idxW x l = 0 then 0 else idxW x l + 1
def seesR (ws : List ByteArray) (s : Pz) : Nat := if s.hd.k = 1 ∨ s.hd.k = 6 then idxW s.hd.s ws else 0
def nextR (s : Pz) : Pz := ⟨s.rest.drop 1, s.met, s.err, s.at_⟩
def takeR (ws : List ByteArray) (s : Pz) : Nat × Pz := if seesR ws s = 0 then (0, s) else (seesR ws s, nextR s)
def mustR (ws : List ByteArray) (s : Pz) : Nat × Pz := if seesR ws s = 0 then (0, wrongR s) else (seesR ws s, nextR s)
def endR (s : Pz) : Pz := if s.hd.k = 7 then s else wrongR s
def nameR (s : Pz) : ByteArray × Pz := if s.hd.k = 1 then (s.hd.s, nextR s) else (⟨#[]⟩, wrongR s)
def catR (s : Pz) : Nat × Pz := takeR [w_subject, w_action, w_case, w_env] s
def attrR (cat : Int) (s : Pz) : Atr × Pz :=
  let s1 := if cat = 0 then wrongR s else s
  let s2 := (mustR [m_dot] s1).2
  let s3 := (nameR s2).2
  (⟨cat, (nameR s2).1, decide (0 < (takeR [m_bang] s3).1)⟩, (takeR [m_bang] s3).2)
def kindR (k : Int) : Int := if k = 2 then 2 else if k = 3 then 4 else if k = 4 then 5 else if k = 5 then 3 else 1
def valueR (s : Pz) : Vl × Pz :=
  if kindR s.hd.k = 1 then (⟨1, ((mustR [w_false, w_true] s).1 : Int) - 1, ⟨#[]⟩⟩, (mustR [w_false, w_true] s).2)
  else (⟨kindR s.hd.k, s.hd.n, s.hd.s⟩, nextR s)
def matchR (s : Pz) : Mat × Pz :=
  let c := catR s
  let a := attrR (c.1 : Int) c.2
  let o := mustR [m_eqm, m_lt, m_gt] a.2
  let v := valueR o.2
  (⟨a.1, (o.1 : Int), v.1⟩, v.2)
/-- One behind the other, parted by a word. -/
def rowR {α : Type} (one : Pz → α × Pz) (btw : ByteArray) : Nat → List α → Pz → List α × Pz
  | 0, l, s => (l, s)
  | n + 1, l, s =>
    let x := one s
    let t := takeR [btw] (mostR ((l ++ [x.1]).length : Int) 8 x.2)
    if t.1 = 0 then (l ++ [x.1], t.2) else rowR one btw n (l ++ [x.1]) t.2
def allOfR (s : Pz) : List Mat × Pz := rowR matchR m_comma s.rest.length [] s
def anyOfR (s : Pz) : List (List Mat) × Pz :=
  let a := mustR [m_lp] s
  let r := rowR allOfR w_or a.2.rest.length [] a.2
  (r.1, (mustR [m_rp] r.2).2)
def targetR (s : Pz) : Tgt × Pz :=
  if (takeR [w_when] s).1 = 0 then ([], (takeR [w_when] s).2) else rowR anyOfR w_and (takeR [w_when] s).2.rest.length [] (takeR [w_when] s).2
def dutiesR : Nat → List Dut → Pz → List Dut × Pz
  | 0, l, s => (l, s)
  | n + 1, l, s =>
    if (takeR [w_on] s).1 = 0 then (l, (takeR [w_on] s).2) else
    let a := mustR [w_permit, w_deny] (takeR [w_on] s).2
    let b := mustR [w_log, w_redact, w_review, w_notify] a.2
    let c := nameR b.2
    dutiesR n (l ++ [⟨(a.1 : Int), (b.1 : Int), c.1⟩]) (mostR ((l ++ [(⟨(a.1 : Int), (b.1 : Int), c.1⟩ : Dut)]).length : Int) 8 c.2)
def leafR (s : Pz) : Nod × Pz :=
  if 0 < (catR s).1 then (⟨2, zeroV, (attrR ((catR s).1 : Int) (catR s).2).1⟩, (attrR ((catR s).1 : Int) (catR s).2).2)
  else (⟨1, (valueR (catR s).2).1, zeroA⟩, (valueR (catR s).2).2)
def isBag (op : Int) : Bool := decide (op = 3) || decide (op = 4) || decide (op = 5)
def isTwo (op : Int) : Bool := !decide (op = 3) && !decide (op = 4) && !decide (op = 11)
def callR (ex : List Nod → Bool → Pz → List Nod × Pz) (l : List Nod) (s : Pz) : List Nod × Int × Pz :=
  let m := mustR [w_one, w_size, w_has, w_eq, w_less, w_add, w_sub, w_mul, w_not, w_and, w_or] s
  let op : Int := 2 + (m.1 : Int)
  let e := ex l (isBag op) m.2
  let f := if isTwo op = true then ex e.1 false e.2 else e
  (f.1, op, (mustR [m_rp] f.2).2)
/-- Behind a node: it is one too many, or not what must stand here. -/
def nodR (bag : Bool) (p : Int) (l : List Nod) (n : Nod) (s : Pz) : List Nod × Pz :=
  (l ++ [n], if bag != decide (n.op = 2) then failR 5 p (mostR ((l ++ [n]).length : Int) 32 s) else mostR ((l ++ [n]).length : Int) 32 s)
def exprR : Nat → List Nod → Bool → Pz → List Nod × Pz
  | 0, l, _, s => (l, s)
  | n + 1, l, bag, s =>
    if 0 < (takeR [m_lp] s).1 then
      let c := callR (exprR n) l (takeR [m_lp] s).2
      nodR bag s.hd.p c.1 ⟨c.2.1, zeroV, zeroA⟩ c.2.2
    else nodR bag s.hd.p l (leafR (takeR [m_lp] s).2).1 (leafR (takeR [m_lp] s).2).2
def condR (s : Pz) : List Nod × Pz :=
  if (takeR [w_if] s).1 = 0 then ([], (takeR [w_if] s).2) else exprR (takeR [w_if] s).2.rest.length [] false (takeR [w_if] s).2
def dutsR (s : Pz) : List Dut × Pz := dutiesR s.rest.length [] s
def ruleR (s : Pz) : Rul × Pz :=
  let a := mustR [w_permit, w_deny] s
  let b := nameR a.2
  let t := targetR b.2
  let c := condR t.2
  let d := dutsR c.2
  (⟨b.1, decide (a.1 = 2), t.1, c.1, d.1⟩, (mustR [m_semi] d.2).2)
def metR (s : Pz) : Pz := ⟨s.rest, s.met + 1, s.err, s.at_⟩
def rulesR : Nat → List Rul → Pz → List Rul × Pz
  | 0, l, s => (l, s)
  | n + 1, l, s =>
    if seesR [w_permit, w_deny] s = 0 then (l, s) else
    let s1 := mostR ((l.length : Int) + 1) 16 (metR s)
    let u := ruleR (mostR (s1.met : Int) 64 s1)
    rulesR n (l ++ [u.1]) u.2
def kidsR (po : Pz → Pol × Pz) : Nat → List Pol → Pz → List Pol × Pz
  | 0, l, s => (l, s)
  | n + 1, l, s =>
    if seesR [w_policy, w_set] s = 0 then (l, s) else
    let u := po (mostR ((l.length : Int) + 1) 16 s)
    kidsR po n (l ++ [u.1]) u.2
/-- A policy, where so many levels are left. -/
def polR : Nat → Pz → Pol × Pz
  | 0, s => (.mk ⟨#[]⟩ false 0 [] [] [] [], s)
  | f + 1, s =>
    let s0 := mostR (5 - (f : Int)) 4 s
    let a := mustR [w_policy, w_set] s0
    let b := nameR a.2
    let c := mustR [w_denyover, w_permitover, w_first, w_only, w_denyunless, w_permitunless] b.2
    let t := targetR c.2
    let d := mustR [m_lb] t.2
    let k := if a.1 = 2 then kidsR (polR f) d.2.rest.length [] d.2 else ([], d.2)
    let r := if a.1 = 2 then ([], k.2) else rulesR d.2.rest.length [] d.2
    let e := mustR [m_rb] r.2
    let o := dutsR e.2
    (.mk b.1 (decide (a.1 = 2)) (c.1 : Int) t.1 r.1 k.1 o.1, o.2)
def noPol : Pol := .mk ⟨#[]⟩ false 0 [] [] [] []
/-- P9: a text's policy, or the error and its place. -/
def parseR (s : ByteArray) : Pol × Int × Int :=
  if 4096 < s.size then (noPol, 6, 4096) else
  match lexB s.data.toList 0 with
  | .error p => (noPol, 5, (p : Int))
  | .ok ts =>
    let u := polR 5 ⟨ts, 0, 0, 0⟩
    let z := endR u.2
    if z.err = 0 then (if rightE u.1 = 0 then (u.1, 0, 0) else (noPol, 5, (s.size : Int))) else (noPol, z.err, z.at_)

/-! ### What holds all along -/
section
variable {L : Nat} {s : Pz}
theorem Pz.ok.ne (h : s.ok L) : s.rest ≠ [] := by
  obtain ⟨⟨e, he, _⟩, _⟩ := h
  intro h0
  rw [h0] at he
  cases he
theorem Pz.ok.pos (h : s.ok L) : 1 ≤ s.rest.length := List.length_pos_iff.2 h.ne
theorem Pz.ok.get0 (h : s.ok L) : s.rest[0]? = some s.hd := by
  have := h.ne
  unfold Pz.hd
  cases hr : s.rest with
  | nil => exact absurd hr this
  | cons t l => rfl
theorem Pz.ok.hd_ok (h : s.ok L) : InI s.hd.k ∧ (0 ≤ s.hd.p ∧ s.hd.p ≤ (L : Int)) ∧ InI s.hd.n ∧ s.hd.s.size ≤ maxLen := h.2.1 _ (List.mem_of_getElem? h.get0)
/-- What is not the end is not the last. -/
theorem Pz.ok.more (h : s.ok L) (hk : s.hd.k ≠ 7) : 2 ≤ s.rest.length := by
  have h0 := h.ne
  obtain ⟨⟨e, he, h7⟩, _⟩ := h
  unfold Pz.hd at hk
  rcases hr : s.rest with _ | ⟨t, _ | ⟨u, l⟩⟩
  · exact absurd hr h0
  · rw [hr] at he hk
    simp at he hk
    rw [he] at hk
    exact absurd h7 hk
  · simp
theorem Pz.ok.next (h : s.ok L) (hk : s.hd.k ≠ 7) : (nextR s).ok L := by
  have h2 := h.more hk
  obtain ⟨⟨e, he, h7⟩, ha, hl, hx⟩ := h
  rcases hr : s.rest with _ | ⟨t, l⟩
  · rw [hr] at h2; simp at h2
  · rw [hr] at h2
    simp at h2
    refine ⟨⟨e, ?_, h7⟩, fun t ht => ha t ?_, ?_, hx⟩
    · show (s.rest.drop 1).getLast? = _
      rw [hr] at he ⊢
      rcases l with _ | ⟨u, l⟩
      · simp at h2
      · simpa [List.getLast?_cons_cons] using he
    · exact List.mem_of_mem_drop ht
    · have e : (nextR s).rest.length = s.rest.length - 1 := List.length_drop
      have e2 : (nextR s).met = s.met := rfl
      omega
theorem Pz.ok.fail (h : s.ok L) {e p : Int} (he : e = 5 ∨ e = 6) (hp : 0 ≤ p ∧ p ≤ (L : Int)) : (failR e p s).ok L := by
  have h1 := h.pos
  have key : ∀ (x y : Int), (x = 0 ∨ x = 5 ∨ x = 6) → 0 ≤ y ∧ y ≤ (L : Int) → (⟨s.rest.drop (s.rest.length - 1), s.met, x, y⟩ : Pz).ok L := by
    intro x y hx hy
    obtain ⟨⟨z, hz, h7⟩, ha, hl, _⟩ := h
    refine ⟨⟨z, ?_, h7⟩, fun t ht => ha t (List.mem_of_mem_drop ht), ?_, hx, hy⟩
    · show (s.rest.drop (s.rest.length - 1)).getLast? = _
      rw [List.getLast?_drop, if_neg (by omega)]
      exact hz
    · show (s.rest.drop (s.rest.length - 1)).length ≤ _ ∧ s.met + (s.rest.drop (s.rest.length - 1)).length ≤ _ ∧ _
      rw [List.length_drop]
      omega
  unfold failR
  split
  · exact key _ _ (by omega) hp
  · exact key _ _ h.2.2.2.1 h.2.2.2.2
theorem Pz.ok.wrong (h : s.ok L) : (wrongR s).ok L := h.fail (by omega) h.hd_ok.2.1
theorem Pz.ok.most (h : s.ok L) (n l : Int) : (mostR n l s).ok L := by
  unfold mostR
  split
  · exact h.fail (by omega) h.hd_ok.2.1
  · exact h
theorem failR_len (e p : Int) (h : s.ok L) : (failR e p s).rest.length = 1 := by
  have := h.pos
  unfold failR
  split <;> (show (s.rest.drop (s.rest.length - 1)).length = 1; rw [List.length_drop]; omega)
theorem mostR_len (h : s.ok L) (n l : Int) : (mostR n l s).rest.length ≤ s.rest.length := by
  have := h.pos
  unfold mostR
  split
  · rw [failR_len _ _ h]; exact this
  · exact Nat.le_refl _
theorem seesR_more (h : s.ok L) {ws : List ByteArray} (h0 : seesR ws s ≠ 0) : s.hd.k ≠ 7 := by
  intro h7
  unfold seesR at h0
  rw [h7] at h0
  simp at h0
theorem nextR_len (s : Pz) : (nextR s).rest.length = s.rest.length - 1 := List.length_drop
theorem Pz.ok.take (h : s.ok L) (ws : List ByteArray) : (takeR ws s).2.ok L := by
  unfold takeR
  split
  · exact h
  · rename_i h0
    exact h.next (seesR_more h h0)
theorem Pz.ok.must (h : s.ok L) (ws : List ByteArray) : (mustR ws s).2.ok L := by
  unfold mustR
  split
  · exact h.wrong
  · rename_i h0
    exact h.next (seesR_more h h0)
theorem Pz.ok.name (h : s.ok L) : (nameR s).2.ok L := by
  unfold nameR
  split
  · rename_i h1
    exact h.next (by omega)
  · exact h.wrong
theorem Pz.ok.end_ (h : s.ok L) : (endR s).ok L := by
  unfold endR
  split
  · exact h
  · exact h.wrong
theorem takeR_len (h : s.ok L) (ws : List ByteArray) : (takeR ws s).2.rest.length + (if (takeR ws s).1 = 0 then 0 else 1) = s.rest.length := by
  have := h.pos
  unfold takeR
  split
  · simp
  · rename_i h0
    show (nextR s).rest.length + 1 = _
    rw [nextR_len]
    omega
theorem mustR_len (h : s.ok L) (ws : List ByteArray) : (mustR ws s).2.rest.length ≤ s.rest.length ∧ 1 ≤ (mustR ws s).2.rest.length := by
  have := h.pos
  refine ⟨?_, (h.must ws).pos⟩
  unfold mustR
  split
  · unfold wrongR; rw [failR_len _ _ h]; exact this
  · rw [nextR_len]; omega
theorem nameR_len (h : s.ok L) : (nameR s).2.rest.length ≤ s.rest.length := by
  have := h.pos
  unfold nameR
  split
  · rw [nextR_len]; omega
  · unfold wrongR; rw [failR_len _ _ h]; exact this
theorem idxW_le (x : ByteArray) : ∀ ws : List ByteArray, idxW x ws ≤ ws.length
  | [] => Nat.le_refl _
  | y :: l => by
    have := idxW_le x l
    unfold idxW
    split
    · simp
    · split
      · omega
      · simp; omega
theorem seesR_le (ws : List ByteArray) (s : Pz) : seesR ws s ≤ ws.length := by
  unfold seesR
  split
  · exact idxW_le _ _
  · omega
theorem takeR_le (ws : List ByteArray) (s : Pz) : (takeR ws s).1 ≤ ws.length := by
  unfold takeR
  split
  · exact Nat.zero_le _
  · exact seesR_le _ _
theorem mustR_le (ws : List ByteArray) (s : Pz) : (mustR ws s).1 ≤ ws.length := by
  unfold mustR
  split
  · exact Nat.zero_le _
  · exact seesR_le _ _
theorem nameR_size (h : s.ok L) : (nameR s).1.size ≤ maxLen := by
  unfold nameR
  split
  · exact h.hd_ok.2.2.2
  · exact Nat.zero_le _
end
end Go.Proofs.YtdbnaaddocahpaaDoor
/- The parser, plainly: what is left only shrinks, and what is read is such as Go has. -/
namespace Go.Proofs.YtdbnaaddocahpaaDoor
set_option linter.unusedVariables false

/-- It stays in order, and no more is left than was. -/
def Goes (L : Nat) (s s' : Pz) : Prop := s'.ok L ∧ s'.rest.length ≤ s.rest.length
section
variable {L : Nat} {s s1 s2 : Pz}
theorem Goes.refl (h : s.ok L) : Goes L s s := ⟨h, Nat.le_refl _⟩
theorem Goes.trans (h1 : Goes L s s1) (h2 : s1.ok L → Goes L s1 s2) : Goes L s s2 := ⟨(h2 h1.1).1, Nat.le_trans (h2 h1.1).2 h1.2⟩
theorem fail_go (h : s.ok L) {e p : Int} (he : e = 5 ∨ e = 6) (hp : 0 ≤ p ∧ p ≤ (L : Int)) : Goes L s (failR e p s) := ⟨h.fail he hp, by rw [failR_len e p h]; exact h.pos⟩
theorem wrong_go (h : s.ok L) : Goes L s (wrongR s) := fail_go h (.inl rfl) h.hd_ok.2.1
theorem most_go (h : s.ok L) (n l : Int) : Goes L s (mostR n l s) := ⟨h.most n l, mostR_len h n l⟩
theorem take_go (h : s.ok L) (ws : List ByteArray) : Goes L s (takeR ws s).2 := ⟨h.take ws, by have := takeR_len h ws; omega⟩
theorem must_go (h : s.ok L) (ws : List ByteArray) : Goes L s (mustR ws s).2 := ⟨h.must ws, (mustR_len h ws).1⟩
theorem name_go (h : s.ok L) : Goes L s (nameR s).2 := ⟨h.name, nameR_len h⟩
theorem next_go (h : s.ok L) (hk : s.hd.k ≠ 7) : Goes L s (nextR s) := ⟨h.next hk, by rw [nextR_len]; omega⟩
theorem end_go (h : s.ok L) : Goes L s (endR s) := by
  unfold endR
  split
  · exact .refl h
  · exact wrong_go h
theorem attr_go (h : s.ok L) (cat : Int) : Goes L s (attrR cat s).2 := by
  have h1 : Goes L s (if cat = 0 then wrongR s else s) := by
    split
    · exact wrong_go h
    · exact .refl h
  exact ((h1.trans fun h => must_go h _).trans fun h => name_go h).trans fun h => take_go h _
theorem value_go (h : s.ok L) : Goes L s (valueR s).2 := by
  unfold valueR
  split
  · exact must_go h _
  · rename_i hk
    exact next_go h (by intro e; rw [e] at hk; exact hk rfl)
theorem match_go (h : s.ok L) : Goes L s (matchR s).2 :=
  (((take_go h _).trans fun h => attr_go h _).trans fun h => must_go h _).trans fun h => value_go h
theorem leaf_go (h : s.ok L) : Goes L s (leafR s).2 := by
  unfold leafR
  split
  · exact (take_go h _).trans fun h => attr_go h _
  · exact (take_go h _).trans fun h => value_go h
theorem row_go {α : Type} {one : Pz → α × Pz} {btw : ByteArray} (ho : ∀ s, s.ok L → Goes L s (one s).2) : ∀ (n : Nat) (l : List α) (s : Pz), s.ok L → Goes L s (rowR one btw n l s).2
  | 0, l, s, h => .refl h
  | n + 1, l, s, h => by
    have h1 := ((ho s h).trans fun h => most_go h ((l ++ [(one s).1]).length : Int) 8).trans fun h => take_go h [btw]
    unfold rowR
    simp only
    split
    · exact h1
    · exact h1.trans fun h => row_go ho n _ _ h
theorem allOf_go (h : s.ok L) : Goes L s (allOfR s).2 := row_go (fun s h => match_go h) _ _ _ h
theorem anyOf_go (h : s.ok L) : Goes L s (anyOfR s).2 :=
  ((must_go h [m_lp]).trans fun h => row_go (fun s h => allOf_go h) _ _ _ h).trans fun h => must_go h _
theorem target_go (h : s.ok L) : Goes L s (targetR s).2 := by
  unfold targetR
  split
  · exact take_go h _
  · exact (take_go h _).trans fun h => row_go (fun s h => anyOf_go h) _ _ _ h
theorem duties_go : ∀ (n : Nat) (l : List Dut) (s : Pz), s.ok L → Goes L s (dutiesR n l s).2
  | 0, l, s, h => .refl h
  | n + 1, l, s, h => by
    unfold dutiesR
    split
    · exact take_go h _
    · exact (((((take_go h _).trans fun h => must_go h _).trans fun h => must_go h _).trans fun h => name_go h).trans fun h => most_go h _ _).trans fun h => duties_go n _ _ h
theorem duts_go (h : s.ok L) : Goes L s (dutsR s).2 := duties_go _ _ _ h
theorem nod_go (h : s.ok L) (bag : Bool) {p : Int} (hp : 0 ≤ p ∧ p ≤ (L : Int)) (l : List Nod) (n : Nod) : Goes L s (nodR bag p l n s).2 := by
  unfold nodR
  simp only
  split
  · exact (most_go h _ _).trans fun h => fail_go h (.inl rfl) hp
  · exact most_go h _ _
/-- What a call's parts add, and what they take. -/
theorem expr_go : ∀ (n : Nat) (l : List Nod) (bag : Bool) (s : Pz), s.ok L → s.rest.length ≤ n → Goes L s (exprR n l bag s).2 ∧ (exprR n l bag s).1.length + 2 * (exprR n l bag s).2.rest.length ≤ l.length + 2 * s.rest.length + 1
  | 0, l, bag, s, h, hn => by have := h.pos; omega
  | n + 1, l, bag, s, h, hn => by
    have ht := take_go h [m_lp]
    have hp := h.hd_ok.2.1
    unfold exprR
    split
    · rename_i h0
      have hl := takeR_len h [m_lp]
      rw [if_neg (by omega)] at hl
      simp only [callR]
      generalize (takeR [m_lp] s).2 = s1 at *
      have hm := must_go ht.1 [w_one, w_size, w_has, w_eq, w_less, w_add, w_sub, w_mul, w_not, w_and, w_or]
      generalize mustR [w_one, w_size, w_has, w_eq, w_less, w_add, w_sub, w_mul, w_not, w_and, w_or] s1 = m at *
      obtain ⟨i, s2⟩ := m
      simp only at hm ⊢
      obtain ⟨he, hel⟩ := expr_go n l (isBag (2 + (i : Int))) s2 hm.1 (by have := hm.2; omega)
      generalize exprR n l (isBag (2 + (i : Int))) s2 = e at *
      obtain ⟨l3, s3⟩ := e
      simp only at he hel ⊢
      have key : ∀ f : List Nod × Pz, f = (if isTwo (2 + (i : Int)) = true then exprR n l3 false s3 else (l3, s3)) → Goes L s3 f.2 ∧ f.1.length + 2 * f.2.rest.length ≤ l3.length + 2 * s3.rest.length + 1 := by
        intro f hf
        split at hf
        · subst hf
          exact expr_go n l3 false s3 he.1 (by have := hm.2; have := he.2; omega)
        · subst hf
          exact ⟨.refl he.1, by simp only; omega⟩
      obtain ⟨hf, hfl⟩ := key _ rfl
      generalize (if isTwo (2 + (i : Int)) = true then exprR n l3 false s3 else (l3, s3)) = f at *
      obtain ⟨l4, s4⟩ := f
      simp only at hf hfl ⊢
      have hr := must_go hf.1 [m_rp]
      have hN := nod_go hr.1 bag hp l4 ⟨2 + (i : Int), zeroV, zeroA⟩
      refine ⟨⟨hN.1, ?_⟩, ?_⟩
      · have := hN.2; have := hr.2; have := hf.2; have := he.2; have := hm.2; have := ht.2; omega
      · have e1 : (nodR bag s.hd.p l4 ⟨2 + (i : Int), zeroV, zeroA⟩ (mustR [m_rp] s4).2).1.length = l4.length + 1 := by simp [nodR]
        have := hN.2; have := hr.2; have := hf.2; have := he.2; have := hm.2
        omega
    · have hlf := leaf_go ht.1
      have hN := nod_go hlf.1 bag hp l (leafR (takeR [m_lp] s).2).1
      have hl := takeR_len h [m_lp]
      refine ⟨⟨hN.1, ?_⟩, ?_⟩
      · have := hN.2; have := hlf.2; have := ht.2; omega
      · have e1 : (nodR bag s.hd.p l (leafR (takeR [m_lp] s).2).1 (leafR (takeR [m_lp] s).2).2).1.length = l.length + 1 := by simp [nodR]
        have := hN.2; have := hlf.2
        omega
theorem cond_go (h : s.ok L) : Goes L s (condR s).2 := by
  unfold condR
  split
  · exact take_go h _
  · exact (take_go h _).trans fun h => (expr_go _ [] false _ h (Nat.le_refl _)).1
theorem rule_go (h : s.ok L) : Goes L s (ruleR s).2 := by
  have h1 := must_go h [w_permit, w_deny]
  have h2 := h1.trans fun h => name_go h
  have h3 := h2.trans fun h => target_go h
  have h4 := h3.trans fun h => cond_go h
  have h5 := h4.trans fun h => duts_go h
  have h6 := h5.trans fun h => must_go h [m_semi]
  unfold ruleR
  simp only
  exact h6

/-! ### What is read is such as Go has -/
theorem zeroV_ok : zeroV.ok := by decide
theorem zeroA_ok : zeroA.ok := by decide
theorem attr_ok (h : s.ok L) {cat : Int} (hc : InI cat) : (attrR cat s).1.ok := by
  have h1 : Goes L s (if cat = 0 then wrongR s else s) := by
    split
    · exact wrong_go h
    · exact .refl h
  exact ⟨hc, nameR_size (h1.trans fun h => must_go h [m_dot]).1⟩
theorem in_small {n : Int} (h1 : -100 ≤ n) (h2 : n ≤ 100) : InI n := by unfold InI; omega
theorem kindR_in (k : Int) : InI (kindR k) := by
  unfold kindR
  repeat' split
  all_goals exact in_small (by omega) (by omega)
theorem value_ok (h : s.ok L) : (valueR s).1.ok := by
  unfold valueR
  split
  · have := mustR_le [w_false, w_true] s
    have : (mustR [w_false, w_true] s).1 ≤ 2 := this
    exact ⟨in_small (by show -100 ≤ (1 : Int); omega) (by show (1 : Int) ≤ 100; omega), in_small (by show -100 ≤ ((mustR [w_false, w_true] s).1 : Int) - 1; omega) (by show ((mustR [w_false, w_true] s).1 : Int) - 1 ≤ 100; omega), Nat.zero_le _⟩
  · exact ⟨kindR_in _, h.hd_ok.2.2.1, h.hd_ok.2.2.2⟩
theorem cat_in (s : Pz) : InI ((catR s).1 : Int) := by
  have : (catR s).1 ≤ 4 := takeR_le _ _
  exact in_small (by omega) (by omega)
theorem match_ok (h : s.ok L) : (matchR s).1.ok := by
  have h1 : (catR s).2.ok L := h.take _
  have h2 := attr_go h1 ((catR s).1 : Int)
  have h3 : (mustR [m_eqm, m_lt, m_gt] (attrR ((catR s).1 : Int) (catR s).2).2).1 ≤ 3 := mustR_le _ _
  exact ⟨attr_ok h1 (cat_in s), in_small (by show -100 ≤ ((mustR [m_eqm, m_lt, m_gt] (attrR ((catR s).1 : Int) (catR s).2).2).1 : Int); omega) (by show ((mustR [m_eqm, m_lt, m_gt] (attrR ((catR s).1 : Int) (catR s).2).2).1 : Int) ≤ 100; omega), value_ok (h2.trans fun h => must_go h _).1⟩
theorem leaf_ok (h : s.ok L) : (leafR s).1.ok := by
  have h1 : (catR s).2.ok L := h.take _
  unfold leafR
  split
  · exact ⟨in_small (by show -100 ≤ (2 : Int); omega) (by show (2 : Int) ≤ 100; omega), zeroV_ok, attr_ok h1 (cat_in s)⟩
  · exact ⟨in_small (by show -100 ≤ (1 : Int); omega) (by show (1 : Int) ≤ 100; omega), value_ok h1, zeroA_ok⟩
end
end Go.Proofs.YtdbnaaddocahpaaDoor
/- The parser, plainly: who counts rules; what takes a token. -/
namespace Go.Proofs.YtdbnaaddocahpaaDoor
set_option linter.unusedVariables false

section
variable {L : Nat} {s s1 s2 : Pz}
theorem failR_met (e p : Int) (s : Pz) : (failR e p s).met = s.met := by unfold failR; split <;> rfl
theorem wrongR_met (s : Pz) : (wrongR s).met = s.met := failR_met _ _ _
theorem mostR_met (n l : Int) (s : Pz) : (mostR n l s).met = s.met := by
  unfold mostR
  split
  · exact failR_met _ _ _
  · rfl
theorem takeR_met (ws : List ByteArray) (s : Pz) : (takeR ws s).2.met = s.met := by unfold takeR; split <;> rfl
theorem mustR_met (ws : List ByteArray) (s : Pz) : (mustR ws s).2.met = s.met := by
  unfold mustR
  split
  · exact wrongR_met _
  · rfl
theorem nameR_met (s : Pz) : (nameR s).2.met = s.met := by
  unfold nameR
  split
  · rfl
  · exact wrongR_met _
theorem attrR_met (cat : Int) (s : Pz) : (attrR cat s).2.met = s.met := by
  unfold attrR
  simp only
  rw [takeR_met, nameR_met, mustR_met]
  split
  · exact wrongR_met _
  · rfl
theorem valueR_met (s : Pz) : (valueR s).2.met = s.met := by
  unfold valueR
  split
  · exact mustR_met _ _
  · rfl
theorem catR_met (s : Pz) : (catR s).2.met = s.met := takeR_met _ _
theorem matchR_met (s : Pz) : (matchR s).2.met = s.met := by
  unfold matchR
  simp only
  rw [valueR_met, mustR_met, attrR_met, catR_met]
theorem leafR_met (s : Pz) : (leafR s).2.met = s.met := by
  unfold leafR
  split
  · simp only; rw [attrR_met, catR_met]
  · simp only; rw [valueR_met, catR_met]
theorem rowR_met {α : Type} {one : Pz → α × Pz} {btw : ByteArray} (ho : ∀ s, (one s).2.met = s.met) : ∀ (n : Nat) (l : List α) (s : Pz), (rowR one btw n l s).2.met = s.met
  | 0, _, _ => rfl
  | n + 1, l, s => by
    unfold rowR
    simp only
    split
    · rw [takeR_met, mostR_met, ho]
    · rw [rowR_met ho n, takeR_met, mostR_met, ho]
theorem allOfR_met (s : Pz) : (allOfR s).2.met = s.met := rowR_met matchR_met _ _ _
theorem anyOfR_met (s : Pz) : (anyOfR s).2.met = s.met := by
  unfold anyOfR
  simp only
  rw [mustR_met, rowR_met allOfR_met, mustR_met]
theorem targetR_met (s : Pz) : (targetR s).2.met = s.met := by
  unfold targetR
  split
  · exact takeR_met _ _
  · rw [rowR_met anyOfR_met, takeR_met]
theorem dutiesR_met : ∀ (n : Nat) (l : List Dut) (s : Pz), (dutiesR n l s).2.met = s.met
  | 0, _, _ => rfl
  | n + 1, l, s => by
    unfold dutiesR
    split
    · exact takeR_met _ _
    · simp only
      rw [dutiesR_met n, mostR_met, nameR_met, mustR_met, mustR_met, takeR_met]
theorem dutsR_met (s : Pz) : (dutsR s).2.met = s.met := dutiesR_met _ _ _
theorem nodR_met (bag : Bool) (p : Int) (l : List Nod) (n : Nod) (s : Pz) : (nodR bag p l n s).2.met = s.met := by
  unfold nodR
  simp only
  split
  · rw [failR_met, mostR_met]
  · rw [mostR_met]
theorem callR_met {ex : List Nod → Bool → Pz → List Nod × Pz} (he : ∀ l b s, (ex l b s).2.met = s.met) (l : List Nod) (s : Pz) : (callR ex l s).2.2.met = s.met := by
  unfold callR
  simp only
  rw [mustR_met]
  split
  · rw [he, he, mustR_met]
  · rw [he, mustR_met]
theorem exprR_met : ∀ (n : Nat) (l : List Nod) (b : Bool) (s : Pz), (exprR n l b s).2.met = s.met
  | 0, _, _, _ => rfl
  | n + 1, l, b, s => by
    unfold exprR
    split
    · simp only
      rw [nodR_met, callR_met (exprR_met n), takeR_met]
    · rw [nodR_met, leafR_met, takeR_met]
theorem condR_met (s : Pz) : (condR s).2.met = s.met := by
  unfold condR
  split
  · exact takeR_met _ _
  · rw [exprR_met, takeR_met]
theorem ruleR_met (s : Pz) : (ruleR s).2.met = s.met := by
  unfold ruleR
  simp only
  rw [mustR_met, dutsR_met, condR_met, targetR_met, nameR_met, mustR_met]

/-- Either nothing was too many, or the end alone is left. -/
theorem most_or (h : s.ok L) (n l : Int) : mostR n l s = s ∨ (mostR n l s).rest.length = 1 := by
  unfold mostR
  split
  · exact .inr (failR_len _ _ h)
  · exact .inl rfl
theorem sees_more (h : s.ok L) {ws : List ByteArray} (h0 : seesR ws s ≠ 0) : 2 ≤ s.rest.length := h.more (seesR_more h h0)
theorem sees_one (h : s.ok L) (h1 : s.rest.length = 1) (ws : List ByteArray) : seesR ws s = 0 := by
  apply Decidable.byContradiction
  intro h0
  have := sees_more h h0
  omega
theorem must_one (h : s.ok L) (h1 : s.rest.length = 1) (ws : List ByteArray) : (mustR ws s).1 = 0 := by
  unfold mustR
  rw [if_pos (sees_one h h1 ws)]
theorem must_less (h : s.ok L) {ws : List ByteArray} (h0 : seesR ws s ≠ 0) : (mustR ws s).2.rest.length + 1 = s.rest.length := by
  have := sees_more h h0
  unfold mustR
  rw [if_neg h0]
  show (nextR s).rest.length + 1 = _
  rw [nextR_len]
  omega
theorem rule_less (h : s.ok L) (h0 : seesR [w_permit, w_deny] s ≠ 0) : (ruleR s).2.rest.length < s.rest.length := by
  have h1 := must_less h h0
  have h2 := (((((Goes.refl (h.must [w_permit, w_deny])).trans fun h => name_go h).trans fun h => target_go h).trans fun h => cond_go h).trans fun h => duts_go h).trans fun h => must_go h [m_semi]
  have h3 : (ruleR s).2.rest.length ≤ (mustR [w_permit, w_deny] s).2.rest.length := by unfold ruleR; simp only; exact h2.2
  omega
/-- One more rule is met. -/
theorem met_ok (h : s.ok L) (hm : s.met + s.rest.length ≤ 5990) : (metR s).ok L := by
  obtain ⟨h1, h2, h3, h4⟩ := h
  exact ⟨h1, h2, ⟨h3.1, by show s.met + 1 + s.rest.length ≤ 6000; omega, h3.2.2⟩, h4⟩
theorem metR_sees (ws : List ByteArray) (s : Pz) : seesR ws (metR s) = seesR ws s := rfl
/-- What a round of rules leaves. -/
theorem round_rule (h : s.ok L) (hm : s.met + s.rest.length ≤ 5990) (h0 : seesR [w_permit, w_deny] s ≠ 0) (n : Int) :
    (mostR n 16 (metR s)).ok L ∧ (mostR ((mostR n 16 (metR s)).met : Int) 64 (mostR n 16 (metR s))).ok L ∧ (mostR n 16 (metR s)).met = s.met + 1 ∧
    Goes L s (ruleR (mostR ((mostR n 16 (metR s)).met : Int) 64 (mostR n 16 (metR s)))).2 ∧ (ruleR (mostR ((mostR n 16 (metR s)).met : Int) 64 (mostR n 16 (metR s)))).2.rest.length < s.rest.length ∧
    (ruleR (mostR ((mostR n 16 (metR s)).met : Int) 64 (mostR n 16 (metR s)))).2.met = s.met + 1 := by
  have k0 := met_ok h hm
  have k1 := k0.most n 16
  have e1 : (mostR n 16 (metR s)).met = s.met + 1 := mostR_met _ _ _
  have k2 := k1.most ((mostR n 16 (metR s)).met : Int) 64
  have hr : (metR s).rest.length = s.rest.length := rfl
  have l2 := sees_more h h0
  have lr := rule_go k2
  have key : (ruleR (mostR ((mostR n 16 (metR s)).met : Int) 64 (mostR n 16 (metR s)))).2.rest.length < s.rest.length := by
    rcases most_or k1 ((mostR n 16 (metR s)).met : Int) 64 with e | e
    · rcases most_or k0 n 16 with e' | e'
      · rw [e, e']
        have := rule_less k0 (by rw [metR_sees]; exact h0)
        omega
      · have := lr.2
        rw [e] at this ⊢
        omega
    · have := lr.2
      omega
  refine ⟨k1, k2, e1, ⟨lr.1, by omega⟩, key, ?_⟩
  rw [ruleR_met, mostR_met, e1]
theorem rules_go : ∀ (n : Nat) (l : List Rul) (s : Pz), s.ok L → s.met + s.rest.length ≤ 5990 → Goes L s (rulesR n l s).2 ∧ (rulesR n l s).2.met + (rulesR n l s).2.rest.length ≤ s.met + s.rest.length
  | 0, l, s, h, hm => ⟨.refl h, Nat.le_refl _⟩
  | n + 1, l, s, h, hm => by
    unfold rulesR
    split
    · exact ⟨.refl h, Nat.le_refl _⟩
    · rename_i h0
      obtain ⟨k1, k2, e1, g, hl, hmt⟩ := round_rule h hm h0 ((l.length : Int) + 1)
      simp only
      obtain ⟨a, b⟩ := rules_go n (l ++ [(ruleR (mostR ((mostR ((l.length : Int) + 1) 16 (metR s)).met : Int) 64 (mostR ((l.length : Int) + 1) 16 (metR s)))).1]) _ g.1 (by omega)
      exact ⟨g.trans fun _ => a, by omega⟩
/-- A policy's reader: what it leaves. -/
def PoGo (L : Nat) (po : Pz → Pol × Pz) : Prop := ∀ s : Pz, s.ok L → s.met + s.rest.length ≤ 5990 → Goes L s (po s).2 ∧ (po s).2.met + (po s).2.rest.length ≤ s.met + s.rest.length ∧ (seesR [w_policy, w_set] s ≠ 0 → (po s).2.rest.length < s.rest.length)
theorem most_sum (h : s.ok L) (n l : Int) : (mostR n l s).met + (mostR n l s).rest.length ≤ s.met + s.rest.length := by
  have := mostR_len h n l
  rw [mostR_met]
  omega
theorem round_kid {po : Pz → Pol × Pz} (hp : PoGo L po) (h : s.ok L) (hm : s.met + s.rest.length ≤ 5990) (h0 : seesR [w_policy, w_set] s ≠ 0) (n : Int) :
    Goes L s (po (mostR n 16 s)).2 ∧ (po (mostR n 16 s)).2.rest.length < s.rest.length ∧ (po (mostR n 16 s)).2.met + (po (mostR n 16 s)).2.rest.length ≤ s.met + s.rest.length := by
  have k1 := h.most n 16
  have l1 := mostR_len h n 16
  have m1 := most_sum h n 16
  have l2 := sees_more h h0
  obtain ⟨a, b, c⟩ := hp _ k1 (by omega)
  refine ⟨⟨a.1, Nat.le_trans a.2 l1⟩, ?_, by omega⟩
  rcases most_or h n 16 with e | e
  · rw [e] at c ⊢
    exact c h0
  · have := a.2
    omega
theorem kids_go {po : Pz → Pol × Pz} (hp : PoGo L po) : ∀ (n : Nat) (l : List Pol) (s : Pz), s.ok L → s.met + s.rest.length ≤ 5990 → Goes L s (kidsR po n l s).2 ∧ (kidsR po n l s).2.met + (kidsR po n l s).2.rest.length ≤ s.met + s.rest.length
  | 0, l, s, h, hm => ⟨.refl h, Nat.le_refl _⟩
  | n + 1, l, s, h, hm => by
    unfold kidsR
    split
    · exact ⟨.refl h, Nat.le_refl _⟩
    · rename_i h0
      obtain ⟨g, hl, hmt⟩ := round_kid hp h hm h0 ((l.length : Int) + 1)
      simp only
      obtain ⟨a, b⟩ := kids_go hp n (l ++ [(po (mostR ((l.length : Int) + 1) 16 s)).1]) _ g.1 (by omega)
      exact ⟨g.trans fun _ => a, by omega⟩
/-- .. and the rules are not more than the tokens. -/
def Go2 (L : Nat) (s s' : Pz) : Prop := Goes L s s' ∧ s'.met + s'.rest.length ≤ s.met + s.rest.length
theorem Go2.of (g : Goes L s s1) (m : s1.met = s.met) : Go2 L s s1 := ⟨g, by have := g.2; omega⟩
theorem Go2.trans (h1 : Go2 L s s1) (h2 : s1.ok L → Go2 L s1 s2) : Go2 L s s2 := ⟨h1.1.trans fun h => (h2 h).1, Nat.le_trans (h2 h1.1.1).2 h1.2⟩
abbrev w_algs : List ByteArray := [w_denyover, w_permitover, w_first, w_only, w_denyunless, w_permitunless]
/-- What stands in a policy's brackets. -/
def inR (f : Nat) (a : Nat) (s : Pz) : List Rul × List Pol × Pz :=
  if a = 2 then ([], kidsR (polR f) s.rest.length [] s) else ((rulesR s.rest.length [] s).1, [], (rulesR s.rest.length [] s).2)
theorem polR_eq (f : Nat) (s : Pz) {s0 s1 s2 s3 s4 s5 s6 s7 s8 : Pz} {a c d e : Nat} {b : ByteArray} {t : Tgt} {r : List Rul} {k : List Pol} {o : List Dut} (h0 : mostR (5 - (f : Int)) 4 s = s0) (h1 : mustR [w_policy, w_set] s0 = (a, s1)) (h2 : nameR s1 = (b, s2)) (h3 : mustR w_algs s2 = (c, s3))
    (h4 : targetR s3 = (t, s4)) (h5 : mustR [m_lb] s4 = (d, s5)) (h6 : inR f a s5 = (r, k, s6)) (h7 : mustR [m_rb] s6 = (e, s7)) (h8 : dutsR s7 = (o, s8)) :
    polR (f + 1) s = (.mk b (decide (a = 2)) (c : Int) t r k o, s8) := by
  unfold polR
  simp only [h0, h1, h2, h3, h4, h5]
  unfold inR at h6
  split at h6
  · rename_i ha
    have e1 : ((kidsR (polR f) s5.rest.length [] s5).1, (kidsR (polR f) s5.rest.length [] s5).2) = (k, s6) := by injection h6
    have e2 : ([] : List Rul) = r := by injection h6
    injection e1 with e3 e4
    subst e2 e3 e4
    simp only [if_pos ha, h7, h8]
  · rename_i ha
    injection h6 with e1 e2
    injection e2 with e2 e3
    subst e1 e2 e3
    simp only [if_neg ha, h7, h8]
theorem pol_step (f : Nat) (ih : ∀ f', f = f' + 1 → PoGo L (polR f)) : ∀ s : Pz, s.ok L → s.met + s.rest.length ≤ 5990 → ∀ {a : Nat} {s1 : Pz}, mustR [w_policy, w_set] (mostR (5 - (f : Int)) 4 s) = (a, s1) →
    ∀ s5 : Pz, Go2 L s1 s5 → s5.ok L → s5.met + s5.rest.length ≤ 5990 → Go2 L s5 (inR f a s5).2.2 := by
  intro s h hm a s1 h1 s5 g5 k5 m5
  unfold inR
  split
  · rename_i ha
    match f, ih with
    | 0, ih =>
      have h5 : (mostR (5 - ((0 : Nat) : Int)) 4 s).rest.length = 1 := by
        unfold mostR
        rw [if_pos (by omega)]
        exact failR_len _ _ h
      have := must_one (h.most (5 - ((0 : Nat) : Int)) 4) h5 [w_policy, w_set]
      rw [h1] at this
      simp only at this
      omega
    | f' + 1, ih => exact kids_go (ih f' rfl) _ _ _ k5 m5
  · exact rules_go _ _ _ k5 m5
theorem pol_key (f : Nat) (ih : ∀ f', f = f' + 1 → PoGo L (polR f)) : PoGo L (polR (f + 1)) := by
  intro s h hm
  obtain ⟨s0, h0⟩ : ∃ t, mostR (5 - (f : Int)) 4 s = t := ⟨_, rfl⟩
  obtain ⟨a, s1, h1⟩ : ∃ a t, mustR [w_policy, w_set] s0 = (a, t) := ⟨_, _, rfl⟩
  obtain ⟨b, s2, h2⟩ : ∃ a t, nameR s1 = (a, t) := ⟨_, _, rfl⟩
  obtain ⟨c, s3, h3⟩ : ∃ a t, mustR w_algs s2 = (a, t) := ⟨_, _, rfl⟩
  obtain ⟨t, s4, h4⟩ : ∃ a t, targetR s3 = (a, t) := ⟨_, _, rfl⟩
  obtain ⟨d, s5, h5⟩ : ∃ a t, mustR [m_lb] s4 = (a, t) := ⟨_, _, rfl⟩
  obtain ⟨r, k, s6, h6⟩ : ∃ x y z, inR f a s5 = (x, y, z) := ⟨_, _, _, rfl⟩
  obtain ⟨e, s7, h7⟩ : ∃ a t, mustR [m_rb] s6 = (a, t) := ⟨_, _, rfl⟩
  obtain ⟨o, s8, h8⟩ : ∃ a t, dutsR s7 = (a, t) := ⟨_, _, rfl⟩
  have G0 : Go2 L s s0 := .of (h0 ▸ most_go h _ _) (h0 ▸ mostR_met _ _ _)
  have k0 := G0.1.1
  have G1 : Go2 L s0 s1 := .of (by have := must_go k0 [w_policy, w_set]; rwa [h1] at this) (by have := mustR_met [w_policy, w_set] s0; rwa [h1] at this)
  have k1 := G1.1.1
  have G2 : Go2 L s1 s2 := .of (by have := name_go k1; rwa [h2] at this) (by have := nameR_met s1; rwa [h2] at this)
  have k2 := G2.1.1
  have G3 : Go2 L s2 s3 := .of (by have := must_go k2 w_algs; rwa [h3] at this) (by have := mustR_met w_algs s2; rwa [h3] at this)
  have k3 := G3.1.1
  have G4 : Go2 L s3 s4 := .of (by have := target_go k3; rwa [h4] at this) (by have := targetR_met s3; rwa [h4] at this)
  have k4 := G4.1.1
  have G5 : Go2 L s4 s5 := .of (by have := must_go k4 [m_lb]; rwa [h5] at this) (by have := mustR_met [m_lb] s4; rwa [h5] at this)
  have k5 := G5.1.1
  have G15 : Go2 L s1 s5 := ((G2.trans fun _ => G3).trans fun _ => G4).trans fun _ => G5
  have G6 : Go2 L s5 s6 := by
    have := pol_step f ih s h hm (by rw [h0]; exact h1) s5 G15 k5 (by have := G0.2; have := G1.2; have := G15.2; omega)
    rwa [h6] at this
  have k6 := G6.1.1
  have G7 : Go2 L s6 s7 := .of (by have := must_go k6 [m_rb]; rwa [h7] at this) (by have := mustR_met [m_rb] s6; rwa [h7] at this)
  have k7 := G7.1.1
  have G8 : Go2 L s7 s8 := .of (by have := duts_go k7; rwa [h8] at this) (by have := dutsR_met s7; rwa [h8] at this)
  have G18 : Go2 L s1 s8 := ((G15.trans fun _ => G6).trans fun _ => G7).trans fun _ => G8
  have G08 := G0.trans fun _ => G1.trans fun _ => G18
  rw [polR_eq f s h0 h1 h2 h3 h4 h5 h6 h7 h8]
  refine ⟨G08.1, G08.2, fun hs => ?_⟩
  have l2 := sees_more h hs
  have := G18.1.2
  rcases most_or h (5 - (f : Int)) 4 with e | e
  · rw [h0] at e
    subst e
    have := must_less k0 hs
    rw [h1] at this
    simp only at this ⊢
    omega
  · rw [h0] at e
    have := G1.1.2
    simp only
    omega
theorem pol_go : ∀ f : Nat, PoGo L (polR (f + 1))
  | 0 => pol_key 0 (fun f' e => by omega)
  | f + 1 => pol_key (f + 1) (fun f' e => by obtain rfl : f = f' := by omega
                                             exact pol_go f)
end
end Go.Proofs.YtdbnaaddocahpaaDoor
