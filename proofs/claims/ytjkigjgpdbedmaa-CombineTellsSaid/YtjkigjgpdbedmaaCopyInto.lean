/- copy into a known block. -/
import Derived.Test.YtjkigjgpdbedmaaMade
namespace Go.Proofs.Ytjkigjgpdbedmaa
set_option linter.unusedVariables false
open Go.RowKit

/-- copy(to, from): 'to' is a known block, no shorter than 'from'. -/
theorem copy_into {P : Program} {T E : TypeId} {i : TypeInfo} (ht : P.underlying T = some (.slice E)) (hi : P.info? E = some i) (hs : i.size = 1)
    {w : World} {B g n d m c ty : Nat} {A : Option Addr} {xs : List Value} {cur : Array Value} {t : TypeId} (hg : Ob w g t cur) (h : Sl w B A n c xs) (hd : n ≤ d) (hn : n ≤ cur.size) (h1 : ∀ v ∈ xs, v.oneCell' = true) :
    ∃ w', (Builtin.copy_ #[T, T] ty #[.slice (some ⟨g, 0, none⟩) d m, .slice A n c]).run P w = .ok (.int .i64 (n : Int)) w' ∧ Ob w' g t (xs ++ cur.toList.drop n).toArray ∧ w'.heap.size = w.heap.size ∧ Only g w w' := by
  have hlen := h.len
  have hsz : (P.info? E).map (·.size) = some 1 := by rw [hi]; simp [hs]
  have hmin : Nat.min n d = n := Nat.min_eq_left hd
  by_cases h0 : n = 0
  · subst h0
    obtain rfl : xs = [] := List.eq_nil_of_length_eq_zero hlen
    refine ⟨w, run_copy_none (P := P) w T T ty E _ A d m 0 c ht hsz hmin, by simpa using hg, rfl, Only.refl⟩
  · obtain ⟨b, o, e, hb, hc⟩ : ∃ b o, A = some ⟨b, o, none⟩ ∧ b < B ∧ ∀ j u, xs[j]? = some u → w.cell? ⟨b, o + j, none⟩ = some u := h.2.2.2.resolve_left h0
    subst e
    have hr := run_copy_row (P := P) w T T ty E g 0 d m ⟨b, o, none⟩ n c cur t xs ht hsz hg (by rw [hlen, hmin]) (fun j v hj => by
      have := hc j v hj
      by_cases hj0 : j = 0
      · subst hj0; simpa [Addr.add] using this
      · simpa [Addr.add, hj0] using this) (by omega) h1
    refine ⟨w.setRow g (cur.toList.take 0 ++ (xs ++ cur.toList.drop (0 + xs.length))).toArray, by rw [hr]; simp [goInt, hlen], ?_, by simp [World.setRow], ⟨rfl, rfl, rfl, by simp [World.setRow], fun k hk hne => setRow_other w g k _ (fun e => hne (by rw [e]))⟩⟩
    have := setRow_heap w g cur (cur.toList.take 0 ++ (xs ++ cur.toList.drop (0 + xs.length))).toArray t _ hg
    unfold Ob
    rw [this, hlen]
    simp
end Go.Proofs.Ytjkigjgpdbedmaa
