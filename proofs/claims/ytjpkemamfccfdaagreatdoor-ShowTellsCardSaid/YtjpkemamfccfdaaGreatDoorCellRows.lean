/- append of many cells, one each, to a row of the call's own; what it leaves alone. -/
import Derived.Test.YtjpkemamfccfdaaGreatDoorCells
import Derived.Maps.AppendAt
import Derived.Deep.RegionLaw
namespace Go.Proofs.YtjpkemamfccfdaaGreatDoor
set_option linter.unusedVariables false
open Go.RowKit

theorem append_cells {P : Program} {T E : TypeId} {i : TypeInfo} {z : Value} {by_ : Nat} (ht : P.underlying T = some (.slice E)) (hi : P.info? E = some i) (hz : i.zero = some z) (hz1 : z.oneCell' = true) (hs : i.size = 1) (hb : i.bytes = by_) (hby : by_ ≤ 1000)
    {w : World} {base B n c m c2 ty : Nat} {A A2 : Option Addr} {xs ys : List Value} (h : w.ownsRow base E 1 (.slice A n c) n xs) (hy : Sl w B A2 m c2 ys) (h1 : ∀ v ∈ ys, v.oneCell' = true)
    (hn : n + m ≤ 1000000) (hbase : base ≤ w.heap.size) :
    ∃ A' c' w', (Builtin.append_ #[T, T] ty #[.slice A n c, .slice A2 m c2]).run P w = .ok (.slice A' (n + m) c') w' ∧
      w'.ownsRow base E 1 (.slice A' (n + m) c') (n + m) (xs ++ ys) ∧ Below base w w' ∧ w.grownBy w' (Value.slice A n c).ownBlock ∧
      ((Value.slice A' (n + m) c').ownBlock = (Value.slice A n c).ownBlock ∨ (Value.slice A' (n + m) c').ownBlock = some w.heap.size) := by
  have hlen := hy.len
  have fin : ∀ (ad : Addr), A2 = some ad → (∀ j u, ys[j]? = some u → w.cell? (ad.add j) = some u) → ∃ A' c' w', (Builtin.append_ #[T, T] ty #[.slice A n c, .slice A2 m c2]).run P w = .ok (.slice A' (n + m) c') w' ∧
      w'.ownsRow base E 1 (.slice A' (n + m) c') (n + m) (xs ++ ys) ∧ Below base w w' ∧ w.grownBy w' (Value.slice A n c).ownBlock ∧
      ((Value.slice A' (n + m) c').ownBlock = (Value.slice A n c).ownBlock ∨ (Value.slice A' (n + m) c').ownBlock = some w.heap.size) := by
    rintro ad rfl hc
    have hb2 : (n + m) * by_ ≤ 1000000 * 1000 := Nat.mul_le_mul hn hby
    obtain ⟨v', w', hrun, h2, h3, h4, h5⟩ := run_append_own_at (P := P) w base T ty E i z 1 by_ ht hi hz hs hb (by cases z <;> first | rfl | cases hz1) (by omega) (.slice A n c) n xs h
      ad m c2 ys (by omega) hc h1 (by unfold maxLen; omega) (by omega) hbase
    have hform : ∃ A' c', v' = .slice A' (n + m) c' := by
      rcases h2.2 with ⟨hv, hz⟩ | ⟨g, cap, cur, hv, _⟩
      · exact ⟨_, _, by rw [hv, hz]⟩
      · exact ⟨_, _, hv⟩
    obtain ⟨A', c', rfl⟩ := hform
    exact ⟨A', c', w', hrun, h2, (Below.refl base w).grown h3 hbase (fun k hk => (h.lt k hk).1), h3, h5⟩
  rcases hy.2.2.2 with h0 | ⟨b, o, e, hb', hc⟩
  · subst h0
    obtain rfl : ys = [] := List.eq_nil_of_length_eq_zero hlen
    rcases A2 with _ | ad
    · exact ⟨A, c, w, append_nil_src ht hi h, by simpa using h, Below.refl _ _, ⟨rfl, rfl, rfl, Nat.le_refl _, fun _ _ _ => rfl⟩, .inl rfl⟩
    · exact fin ad rfl (fun j u hu => by simp at hu)
  · refine fin _ e fun j u hu => ?_
    have := hc j u hu
    by_cases hj : j = 0
    · subst hj; simpa [Addr.add] using this
    · simpa [Addr.add, hj] using this

/-- A slice that lies in one block is kept by whatever keeps that block. -/
theorem Sl.keep1 {w w' : World} {B n c : Nat} {A : Option Addr} {xs : List Value} (h : Sl w B A n c xs) (hk : ∀ ad, A = some ad → w'.heap[ad.block]? = w.heap[ad.block]?) : Sl w' B A n c xs := by
  obtain ⟨h1, h2, h3, h4⟩ := h
  refine ⟨h1, h2, h3, ?_⟩
  rcases h4 with h4 | ⟨b, o, e, hb, hc⟩
  · exact .inl h4
  · have hk' : w'.heap[b]? = w.heap[b]? := hk _ e
    exact .inr ⟨b, o, e, hb, fun j u hu => (World.cell?_of_block (a := ⟨b, o + j, none⟩) hk').trans (hc j u hu)⟩
/-- .. by an append to a row that lies elsewhere. -/
theorem Sl.grown {w w' : World} {n c : Nat} {A : Option Addr} {xs : List Value} {v : Value} (h : Sl w w.heap.size A n c xs) (g : w.grownBy w' v.ownBlock) (hne : ∀ ad, A = some ad → v.ownBlock ≠ some ad.block) : Sl w' w'.heap.size A n c xs := by
  rcases Nat.eq_zero_or_pos n with h0 | h0
  · subst h0
    exact ⟨h.1, h.2.1, h.2.2.1, .inl rfl⟩
  · refine (h.keep1 fun ad e => g.block ad.block ?_ ?_).more g.size
    · obtain ⟨b, o, u, e', hb, _⟩ := h.at_ h0
      rw [e] at e'
      injection e' with e'
      subst e'
      exact hb
    · exact fun hh => hne ad e hh.symm
end Go.Proofs.YtjpkemamfccfdaaGreatDoor
