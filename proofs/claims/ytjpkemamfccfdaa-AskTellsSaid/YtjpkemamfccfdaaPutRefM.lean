/- The reference's Put, plainly: of what is left the least is picked, one after the other. -/
import Derived.Test.YtjpkemamfccfdaaAskC
namespace Go.Proofs.Ytjpkemamfccfdaa
set_option linter.unusedVariables false
open Go.RowKit

def cntT : List Bool → Nat
  | [] => 0
  | b :: r => (if b = true then 1 else 0) + cntT r
theorem cntT_le : ∀ f : List Bool, cntT f ≤ f.length
  | [] => Nat.le_refl _
  | b :: r => by have := cntT_le r; simp only [cntT, List.length_cons]; split <;> omega
theorem cntT_false : ∀ {f : List Bool}, cntT f < f.length → ∃ k : Nat, f[k]? = some false
  | [], h => by simp [cntT] at h
  | false :: r, _ => ⟨0, rfl⟩
  | true :: r, h => by
    simp only [cntT, List.length_cons, if_true] at h
    obtain ⟨k, hk⟩ := cntT_false (f := r) (by omega)
    exact ⟨k + 1, by simpa using hk⟩
theorem cntT_all : ∀ {f : List Bool}, cntT f = f.length → ∀ k : Nat, k < f.length → f[k]? = some true
  | [], _, k, h => by simp at h
  | false :: r, h, k, hk => by have := cntT_le r; simp [cntT] at h; omega
  | true :: r, h, 0, hk => rfl
  | true :: r, h, k + 1, hk => by
    simp only [cntT, List.length_cons, if_true] at h
    simpa using cntT_all (f := r) (by omega) k (by simpa using hk)
theorem cntT_set : ∀ {f : List Bool} {k : Nat}, f[k]? = some false → cntT (f.set k true) = cntT f + 1
  | [], k, h => by simp at h
  | b :: r, 0, h => by simp at h; subst h; simp [cntT]; omega
  | b :: r, k + 1, h => by
    have := cntT_set (f := r) (k := k) (by simpa using h)
    simp only [List.set_cons_succ, cntT, this]
    omega
theorem cntT_none (n : Nat) : cntT (List.replicate n false) = 0 := by
  induction n with
  | zero => rfl
  | succ n ih => simp [List.replicate_succ, cntT, ih]
/-- These are picked, in this order, and none that is left is ahead of one of them. -/
structure Sel (l : List Giv) (f : List Bool) (js : List Nat) : Prop where
  len : f.length = l.length
  nd : js.Nodup
  mem : ∀ i : Nat, f[i]? = some true ↔ i ∈ js
  cnt : cntT f = js.length
  ord : ∀ (a b i j : Nat), js[a]? = some i → js[b]? = some j → a < b → leG (lsF l i) (lsF l j)
  rest : ∀ (i k : Nat), i ∈ js → f[k]? = some false → leG (lsF l i) (lsF l k)
theorem Sel.nil (l : List Giv) : Sel l (List.replicate l.length false) [] :=
  ⟨by simp, List.nodup_nil, fun i => by simp [List.getElem?_replicate], cntT_none _, fun a b i j h => by simp at h, fun i k h => by simp at h⟩
theorem Sel.left {l : List Giv} {f : List Bool} {js : List Nat} (h : Sel l f js) (hl : js.length < l.length) : ∃ k : Nat, f[k]? = some false := cntT_false (by rw [h.cnt, h.len]; exact hl)
theorem Sel.step {l : List Giv} {f : List Bool} {js : List Nat} {k : Nat} (h : Sel l f js) (hk : f[k]? = some false) (hm : ∀ j : Nat, f[j]? = some false → leG (lsF l k) (lsF l j)) : Sel l (f.set k true) (js ++ [k]) := by
  have hkl := (List.getElem?_eq_some_iff.1 hk).1
  have hnk : k ∉ js := fun e => by have := (h.mem k).2 e; rw [hk] at this; simp at this
  have hset : ∀ j : Nat, (f.set k true)[j]? = some false → f[j]? = some false ∧ j ≠ k := fun j hj => by
    by_cases e : k = j
    · subst e; rw [List.getElem?_set_self hkl] at hj; simp at hj
    · rw [List.getElem?_set_ne e] at hj; exact ⟨hj, fun e2 => e e2.symm⟩
  refine ⟨by rw [List.length_set]; exact h.len, ?_, fun i => ?_, by rw [cntT_set hk, h.cnt, List.length_append]; rfl, fun a b i j ha hb hab => ?_, fun i j hi hj => ?_⟩
  · rw [List.nodup_append]
    refine ⟨h.nd, by simp, fun a ha b hb => ?_⟩
    simp at hb
    subst hb
    intro e
    subst e
    exact hnk ha
  · by_cases e : k = i
    · subst e; simp [List.getElem?_set_self hkl]
    · rw [List.getElem?_set_ne e, h.mem]
      simp only [List.mem_append, List.mem_singleton]
      exact ⟨.inl, fun hh => hh.resolve_right (fun e2 => e e2.symm)⟩
  · have hbl := (List.getElem?_eq_some_iff.1 hb).1
    rw [List.length_append, List.length_singleton] at hbl
    rw [List.getElem?_append_left (by omega)] at ha
    by_cases e : b < js.length
    · rw [List.getElem?_append_left e] at hb
      exact h.ord a b i j ha hb hab
    · obtain rfl : b = js.length := by omega
      simp at hb
      subst hb
      exact h.rest i _ (List.mem_of_getElem? ha) hk
  · obtain ⟨hj1, hj2⟩ := hset j hj
    rcases List.mem_append.1 hi with hi | hi
    · exact h.rest i j hi hj1
    · simp at hi; subst hi; exact hm j hj1
theorem Sel.lt {l : List Giv} {f : List Bool} {js : List Nat} (h : Sel l f js) {i : Nat} (hi : i ∈ js) : i < l.length := by
  have := (List.getElem?_eq_some_iff.1 ((h.mem i).2 hi)).1
  rw [h.len] at this
  exact this
/-- In the end it is the request in order. -/
theorem Sel.put {l : List Giv} {f : List Bool} {js : List Nat} (h : Sel l f js) (hl : js.length = l.length) : PutOf l (reqB (js.map (lsF l))) := by
  have hall : ∀ i, i < l.length → i ∈ js := fun i hi => (h.mem i).1 (cntT_all (by rw [h.cnt, h.len, hl]) i (by rw [h.len]; exact hi))
  have hm : ∀ i (hi : i < js.length), lsF (js.map (lsF l)) i = lsF l js[i] := fun i hi => by
    rw [lsF_get?, List.getElem?_map, List.getElem?_eq_getElem hi]
    rfl
  refine ⟨js.map (lsF l), by rw [List.length_map, hl], ⟨fun i hi => ?_, fun i => js[i]?.getD 0, fun i => js.idxOf i, fun i h1 h2 => ?_⟩, fun i j h1 h2 h3 => ?_, rfl⟩
  · rw [lsF_get?, lsF_get?, List.getElem?_eq_none (by rw [List.length_map]; omega), List.getElem?_eq_none (by omega)]
  · have hi : i < js.length := by omega
    have e1 : js[i]?.getD 0 = js[i] := by rw [List.getElem?_eq_getElem hi]; rfl
    have hx := hall i h2
    have hlt := List.idxOf_lt_length_of_mem hx
    show 0 ≤ js[i]?.getD 0 ∧ js[i]?.getD 0 < l.length ∧ 0 ≤ js.idxOf i ∧ js.idxOf i < l.length ∧ js.idxOf (js[i]?.getD 0) = i ∧ js[js.idxOf i]?.getD 0 = i ∧ _
    rw [e1]
    refine ⟨Nat.zero_le _, h.lt (List.getElem_mem _), Nat.zero_le _, by omega, ?_, ?_, (hm i hi).trans (by show lsF l js[i] = lsF l (js[i]?.getD 0); rw [e1])⟩
    · exact h.nd.idxOf_getElem i hi
    · rw [List.getElem?_eq_getElem hlt]
      exact List.getElem_idxOf hlt
  · rw [hm i (by omega), hm j (by omega)]
    by_cases e : i = j
    · subst e; exact ahead_irrefl _
    · exact h.ord i j _ _ (List.getElem?_eq_getElem (by omega)) (List.getElem?_eq_getElem (by omega)) (by omega)
/-- Among these the least that is left is that one; below 0, if none is left. -/
def Least (l : List Giv) (f : List Bool) (i : Nat) (z : Int) : Prop :=
  (z = -1 ∧ ∀ j : Nat, j < i → f[j]? ≠ some false) ∨ ∃ q : Nat, z = q ∧ q < i ∧ f[q]? = some false ∧ ∀ j : Nat, j < i → f[j]? = some false → ¬ aheadG (lsF l j) (lsF l q)
theorem Least.zero (l : List Giv) (f : List Bool) : Least l f 0 (-1) := .inl ⟨rfl, fun _ h => absurd h (Nat.not_lt_zero _)⟩
theorem Least.skip {l : List Giv} {f : List Bool} {i : Nat} {z : Int} (h : Least l f i z) (hf : f[i]? = some true) : Least l f (i + 1) z := by
  rcases h with ⟨rfl, h⟩ | ⟨q, rfl, h1, h2, h3⟩
  · refine .inl ⟨rfl, fun j hj => ?_⟩
    by_cases e : j = i
    · subst e; rw [hf]; simp
    · exact h j (by omega)
  · refine .inr ⟨q, rfl, by omega, h2, fun j hj hjf => ?_⟩
    by_cases e : j = i
    · subst e; rw [hf] at hjf; simp at hjf
    · exact h3 j (by omega) hjf
theorem Least.first {l : List Giv} {f : List Bool} {i : Nat} (h : Least l f i (-1)) (hf : f[i]? = some false) : Least l f (i + 1) i := by
  refine .inr ⟨i, rfl, by omega, hf, fun j hj hjf => ?_⟩
  rcases h with ⟨_, h⟩ | ⟨q, hq, _⟩
  · by_cases e : j = i
    · subst e; exact ahead_irrefl _
    · exact absurd hjf (h j (by omega))
  · omega
theorem Least.take {l : List Giv} {f : List Bool} {i q : Nat} (h : Least l f i (q : Int)) (hf : f[i]? = some false) (ha : aheadG (lsF l i) (lsF l q)) : Least l f (i + 1) i := by
  rcases h with ⟨hz, _⟩ | ⟨q', hq, h1, h2, h3⟩
  · omega
  · obtain rfl : q = q' := by omega
    refine .inr ⟨i, rfl, by omega, hf, fun j hj hjf => ?_⟩
    by_cases e : j = i
    · subst e; exact ahead_irrefl _
    · exact fun hh => h3 j (by omega) hjf (ahead_trans hh ha)
theorem Least.keep {l : List Giv} {f : List Bool} {i q : Nat} (h : Least l f i (q : Int)) (ha : ¬ aheadG (lsF l i) (lsF l q)) : Least l f (i + 1) q := by
  rcases h with ⟨hz, _⟩ | ⟨q', hq, h1, h2, h3⟩
  · omega
  · obtain rfl : q = q' := by omega
    refine .inr ⟨q, rfl, by omega, h2, fun j hj hjf => ?_⟩
    by_cases e : j = i
    · subst e; exact ha
    · exact h3 j (by omega) hjf
theorem Least.done {l : List Giv} {f : List Bool} {n : Nat} {z : Int} {js : List Nat} (h : Least l f n z) (hs : Sel l f js) (hl : js.length < l.length) (hn : l.length = n) : ∃ q : Nat, z = q ∧ q < n ∧ f[q]? = some false ∧ Sel l (f.set q true) (js ++ [q]) := by
  obtain ⟨k, hk⟩ := hs.left hl
  have hkn : k < n := by have := (List.getElem?_eq_some_iff.1 hk).1; rw [hs.len] at this; omega
  rcases h with ⟨_, h⟩ | ⟨q, hz, h1, h2, h3⟩
  · exact absurd hk (h k hkn)
  · refine ⟨q, hz, h1, h2, hs.step h2 fun j hj => h3 j ?_ hj⟩
    have := (List.getElem?_eq_some_iff.1 hj).1
    rw [hs.len] at this
    omega
end Go.Proofs.Ytjpkemamfccfdaa
