/- Marks as pairs of quarters; the algorithms over lists of them (plain). -/
import Derived.Test.YtjkigjgpdbedmaaMarks
namespace Go.Proofs.Ytjkigjgpdbedmaa

abbrev Mk := Fin 5 × Fin 5
def joinM (j m : Mk) : Mk := (hiF j.1 m.1, hiF j.2 m.2)
def turnM (j : Mk) : Mk := (j.2, j.1)
def overM (j : Mk) : Mk := (overP j.1 j.2, overD j.1 j.2)
def rightK (m : Mk) : Bool := rightM m.1 m.2
def firstM (j m : Mk) : Mk := if j = (0, 0) then m else j
def onlyM (j m : Mk) : Mk := if j = (0, 0) then m else if m = (0, 0) then j else (2, 2)
def sureB (j : Mk) : Bool := j = (0, 0) || j = (4, 0) || j = (0, 4)
def sureM (j : Mk) : Mk := if sureB j then j else (2, 2)
def stepM (a : Fin 6) (j m : Mk) : Mk := if a = 2 then firstM j m else if a = 3 then onlyM j m else joinM j m
def decideM (a : Fin 6) (j : Mk) : Mk :=
  if a = 0 then overM j else if a = 1 then turnM (overM (turnM j)) else if a = 2 then j else if a = 3 then sureM j
  else if a = 4 then (if j.1 = 4 then (4, 0) else (0, 4)) else (if j.2 = 4 then (0, 4) else (4, 0))
def foldM (a : Fin 6) (l : List Mk) : Mk := l.foldl (stepM a) (0, 0)
/-- P5.2, over decisions. -/
def makeM (a : Fin 6) (l : List Mk) : Mk := decideM a (foldM a l)
def Six (l : List Mk) : Prop := ∀ m ∈ l, rightK m = true

theorem six0 : ∀ a : Fin 6, a = 0 ∨ a = 1 ∨ a = 2 ∨ a = 3 ∨ a = 4 ∨ a = 5 := by decide
theorem hi_0l : ∀ i : Fin 5, hiF 0 i = i := by decide +kernel
theorem hi_0r : ∀ i : Fin 5, hiF i 0 = i := by decide +kernel
theorem hi_comm : ∀ i j : Fin 5, hiF i j = hiF j i := by decide +kernel
theorem hi_assoc : ∀ i j k : Fin 5, hiF (hiF i j) k = hiF i (hiF j k) := by decide +kernel
theorem join_0l (m : Mk) : joinM (0, 0) m = m := by obtain ⟨p, d⟩ := m; simp only [joinM, hi_0l]
theorem join_0r (m : Mk) : joinM m (0, 0) = m := by obtain ⟨p, d⟩ := m; simp only [joinM, hi_0r]
theorem join_comm (x y : Mk) : joinM x y = joinM y x := by simp only [joinM, hi_comm x.1 y.1, hi_comm x.2 y.2]
theorem join_assoc (x y z : Mk) : joinM (joinM x y) z = joinM x (joinM y z) := by simp only [joinM, hi_assoc]

/-- Which kind of step: joins (0), the first (1), the only one (2). -/
theorem step_join {a : Fin 6} (h2 : a ≠ 2) (h3 : a ≠ 3) (x y : Mk) : stepM a x y = joinM x y := by unfold stepM; rw [if_neg h2, if_neg h3]
theorem step_first (x y : Mk) : stepM 2 x y = firstM x y := rfl
theorem step_only (x y : Mk) : stepM 3 x y = onlyM x y := rfl
theorem step_0l (a : Fin 6) (m : Mk) : stepM a (0, 0) m = m := by
  unfold stepM
  split
  · simp [firstM]
  · split
    · simp [onlyM]
    · exact join_0l m
theorem step_0r (a : Fin 6) (m : Mk) : stepM a m (0, 0) = m := by
  unfold stepM
  split
  · unfold firstM; split
    · next h => exact h.symm
    · rfl
  · split
    · unfold onlyM; split
      · next h => exact h.symm
      · simp
    · exact join_0r m
theorem step_assoc (a : Fin 6) (x y z : Mk) : stepM a (stepM a x y) z = stepM a x (stepM a y z) := by
  unfold stepM
  split
  · unfold firstM
    by_cases h : x = (0, 0) <;> simp [h]
  · split
    · unfold onlyM
      by_cases hx : x = (0, 0)
      · simp [hx]
      · by_cases hy : y = (0, 0)
        · simp [hx, hy]
        · by_cases hz : z = (0, 0)
          · simp [hx, hy, hz]
          · simp [hx, hy, hz]
    · exact join_assoc x y z
theorem step_comm {a : Fin 6} (ha : a ≠ 2) (x y : Mk) : stepM a x y = stepM a y x := by
  unfold stepM
  rw [if_neg ha, if_neg ha]
  split
  · unfold onlyM
    by_cases hx : x = (0, 0)
    · by_cases hy : y = (0, 0) <;> simp [hx, hy]
    · by_cases hy : y = (0, 0) <;> simp [hx, hy]
  · exact join_comm x y
theorem fold_from (a : Fin 6) (l : List Mk) : ∀ x, l.foldl (stepM a) x = stepM a x (foldM a l) := by
  induction l with
  | nil => intro x; exact (step_0r a x).symm
  | cons m l ih =>
    intro x
    have e : foldM a (m :: l) = stepM a m (foldM a l) := by
      show List.foldl (stepM a) (stepM a (0, 0) m) l = _
      rw [ih, step_0l]
    rw [List.foldl_cons, ih, e, step_assoc]
theorem fold_cons (a : Fin 6) (m : Mk) (l : List Mk) : foldM a (m :: l) = stepM a m (foldM a l) := by
  rw [foldM, List.foldl_cons, fold_from, step_0l]
theorem fold_app (a : Fin 6) (l k : List Mk) : foldM a (l ++ k) = stepM a (foldM a l) (foldM a k) := by
  rw [foldM, List.foldl_append, fold_from]; rfl
theorem fold_take (a : Fin 6) {l : List Mk} {k : Nat} {m : Mk} (h : l[k]? = some m) : foldM a (l.take (k + 1)) = stepM a (foldM a (l.take k)) m := by
  obtain ⟨hk, e⟩ := List.getElem?_eq_some_iff.1 h
  rw [List.take_succ_eq_append_getElem hk, e, fold_app]
  show stepM a _ (stepM a (0, 0) m) = _
  rw [step_0l]
theorem fold_perm {a : Fin 6} (ha : a ≠ 2) {l k : List Mk} (h : l.Perm k) : foldM a l = foldM a k := by
  induction h with
  | nil => rfl
  | cons x _ ih => rw [fold_cons, fold_cons, ih]
  | swap x y l => rw [fold_cons, fold_cons, fold_cons, fold_cons, ← step_assoc, ← step_assoc, step_comm ha y x]
  | trans _ _ ih1 ih2 => exact ih1.trans ih2
theorem fold_some (a : Fin 6) (l : List Mk) : foldM a (l.filter fun m => m != (0, 0)) = foldM a l := by
  induction l with
  | nil => rfl
  | cons m l ih =>
    rw [List.filter_cons]
    split
    · rw [fold_cons, fold_cons, ih]
    · next h =>
      have : m = (0, 0) := by simpa using h
      rw [ih, fold_cons, this, step_0l]
def evenB (p : Fin 5) : Bool := p = 0 || p = 2 || p = 4
def evenK (m : Mk) : Bool := evenB m.1 && evenB m.2
theorem right_even_ : ∀ p d : Fin 5, rightK (p, d) = true → evenK (p, d) = true := by decide +kernel
theorem right_even {m : Mk} (h : rightK m = true) : evenK m = true := right_even_ m.1 m.2 h
theorem hi_even : ∀ i j : Fin 5, evenB i = true → evenB j = true → evenB (hiF i j) = true := by decide +kernel
theorem step_even (a : Fin 6) {x y : Mk} (hx : evenK x = true) (hy : evenK y = true) : evenK (stepM a x y) = true := by
  unfold stepM
  split
  · unfold firstM; split <;> assumption
  · split
    · unfold onlyM
      split
      · exact hy
      · split
        · exact hx
        · decide +kernel
    · simp only [evenK, Bool.and_eq_true] at hx hy
      simp only [evenK, joinM, Bool.and_eq_true]
      exact ⟨hi_even _ _ hx.1 hy.1, hi_even _ _ hx.2 hy.2⟩
theorem fold_even (a : Fin 6) {l : List Mk} (h : Six l) : evenK (foldM a l) = true := by
  induction l with
  | nil => exact (by decide +kernel : evenK (0, 0) = true)
  | cons m l ih =>
    rw [fold_cons]
    exact step_even a (right_even (h m List.mem_cons_self)) (ih fun x hx => h x (List.mem_cons_of_mem _ hx))
theorem first_right {l : List Mk} (h : Six l) : rightK (foldM 2 l) = true := by
  induction l with
  | nil => exact (by decide +kernel : rightK (0, 0) = true)
  | cons m l ih =>
    rw [fold_cons, step_first]
    unfold firstM
    split
    · exact ih fun x hx => h x (List.mem_cons_of_mem _ hx)
    · exact h m List.mem_cons_self
theorem decide_right_ : ∀ a : Fin 6, a ≠ 2 → ∀ p d : Fin 5, evenK (p, d) = true → rightK (decideM a (p, d)) = true := by decide +kernel
theorem make_right (a : Fin 6) {l : List Mk} (h : Six l) : rightK (makeM a l) = true := by
  by_cases ha : a = 2
  · subst ha; exact first_right h
  · exact decide_right_ a ha (foldM a l).1 (foldM a l).2 (fold_even a h)
theorem nest_ : ∀ a : Fin 6, ∀ p d q e : Fin 5, evenK (p, d) = true → evenK (q, e) = true → decideM a (stepM a (decideM a (p, d)) (decideM a (q, e))) = decideM a (stepM a (p, d) (q, e)) := by decide +kernel
theorem make_two (a : Fin 6) (x y : Mk) : makeM a [x, y] = decideM a (stepM a x y) := by
  unfold makeM
  rw [fold_cons, fold_cons, foldM, List.foldl_nil, step_0r]
/-- CombineNested's matter. -/
theorem make_nested (a : Fin 6) {l k : List Mk} (hl : Six l) (hk : Six k) : makeM a [makeM a l, makeM a k] = makeM a (l ++ k) := by
  rw [make_two]
  unfold makeM
  rw [fold_app]
  exact nest_ a (foldM a l).1 (foldM a l).2 (foldM a k).1 (foldM a k).2 (fold_even a hl) (fold_even a hk)
end Go.Proofs.Ytjkigjgpdbedmaa
