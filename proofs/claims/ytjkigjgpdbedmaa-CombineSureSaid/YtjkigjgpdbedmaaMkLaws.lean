/- What the algorithms make of rows of the six (plain): turned, sure, one alone, many. -/
import Derived.Test.YtjkigjgpdbedmaaMk
namespace Go.Proofs.Ytjkigjgpdbedmaa

theorem fold_same {a b : Fin 6} (h : ∀ x y, stepM a x y = stepM b x y) (l : List Mk) : foldM a l = foldM b l := by
  have e : stepM a = stepM b := funext fun x => funext fun y => h x y
  unfold foldM
  rw [e]
theorem join_1 (l : List Mk) : foldM 1 l = foldM 0 l := fold_same (fun _ _ => rfl) l
theorem join_4 (l : List Mk) : foldM 4 l = foldM 0 l := fold_same (fun _ _ => rfl) l
theorem join_5 (l : List Mk) : foldM 5 l = foldM 0 l := fold_same (fun _ _ => rfl) l

theorem turn_turn (m : Mk) : turnM (turnM m) = m := rfl
theorem join_turn (x y : Mk) : joinM (turnM x) (turnM y) = turnM (joinM x y) := rfl
theorem turn_na (m : Mk) : turnM m = (0, 0) ↔ m = (0, 0) := by
  obtain ⟨p, d⟩ := m
  simp only [turnM, Prod.mk.injEq]
  exact And.comm
theorem first_turn (x y : Mk) : firstM (turnM x) (turnM y) = turnM (firstM x y) := by
  unfold firstM
  by_cases h : x = (0, 0)
  · rw [if_pos ((turn_na x).2 h), if_pos h]
  · rw [if_neg (fun k => h ((turn_na x).1 k)), if_neg h]
theorem fold_turn0 (l : List Mk) : foldM 0 (l.map turnM) = turnM (foldM 0 l) := by
  induction l with
  | nil => rfl
  | cons m l ih => rw [List.map_cons, fold_cons, fold_cons, ih]; exact join_turn m (foldM 0 l)
theorem fold_turn2 (l : List Mk) : foldM 2 (l.map turnM) = turnM (foldM 2 l) := by
  induction l with
  | nil => rfl
  | cons m l ih => rw [List.map_cons, fold_cons, fold_cons, ih]; exact first_turn m (foldM 2 l)
theorem Six.turn {l : List Mk} (h : Six l) : Six (l.map turnM) := by
  intro m hm
  obtain ⟨x, hx, rfl⟩ := List.mem_map.1 hm
  have t : ∀ p d : Fin 5, rightK (p, d) = true → rightK (d, p) = true := by decide +kernel
  exact t x.1 x.2 (h x hx)
theorem make_turn0 (l : List Mk) : makeM 1 (l.map turnM) = turnM (makeM 0 l) := by
  unfold makeM
  rw [join_1, fold_turn0]
  rfl
theorem make_turn2 (l : List Mk) : makeM 2 (l.map turnM) = turnM (makeM 2 l) := fold_turn2 l
theorem make_turn4 (l : List Mk) : makeM 5 (l.map turnM) = turnM (makeM 4 l) := by
  unfold makeM
  rw [join_5, join_4, fold_turn0]
  show (if (foldM 0 l).1 = 4 then ((0, 4) : Mk) else (4, 0)) = turnM (if (foldM 0 l).1 = 4 then (4, 0) else (0, 4))
  split <;> rfl
theorem make_unless (l : List Mk) : makeM 4 l = (4, 0) ∨ makeM 4 l = (0, 4) := by
  show (if (foldM 4 l).1 = 4 then ((4, 0) : Mk) else (0, 4)) = (4, 0) ∨ (if (foldM 4 l).1 = 4 then ((4, 0) : Mk) else (0, 4)) = (0, 4)
  split
  · exact .inl rfl
  · exact .inr rfl

/-- One that isn't sure; how many apply. -/
def anyU (l : List Mk) : Bool := l.any fun m => !sureB m
def cnt (l : List Mk) : Nat := l.countP fun m => m != (0, 0)
theorem anyU_cons (m : Mk) (l : List Mk) : anyU (m :: l) = (!sureB m || anyU l) := by simp [anyU]
theorem cnt_cons (m : Mk) (l : List Mk) : cnt (m :: l) = cnt l + if m = (0, 0) then 0 else 1 := by
  unfold cnt
  rw [List.countP_cons]
  by_cases h : m = (0, 0) <;> simp [h]
theorem only_fold (l : List Mk) : (cnt l = 0 ∧ foldM 3 l = (0, 0) ∧ anyU l = false) ∨ (cnt l = 1 ∧ foldM 3 l ≠ (0, 0) ∧ anyU l = !sureB (foldM 3 l)) ∨ (2 ≤ cnt l ∧ foldM 3 l = (2, 2)) := by
  induction l with
  | nil => exact .inl ⟨rfl, rfl, rfl⟩
  | cons m l ih =>
    rw [fold_cons, anyU_cons, cnt_cons, step_only]
    by_cases h : m = (0, 0)
    · subst h
      have e : sureB (0, 0) = true := rfl
      rw [if_pos rfl, e]
      simpa [onlyM] using ih
    · rw [if_neg h]
      rcases ih with ⟨c, f, u⟩ | ⟨c, f, u⟩ | ⟨c, f⟩
      · rw [f, u, onlyM, if_neg h, if_pos rfl]
        exact .inr (.inl ⟨by omega, h, by simp⟩)
      · exact .inr (.inr ⟨by omega, by rw [onlyM, if_neg h, if_neg f]⟩)
      · refine .inr (.inr ⟨by omega, ?_⟩)
        rw [f, onlyM, if_neg h, if_neg (by decide)]
theorem sure_22 : sureB (2, 2) = false := by decide
/-- CombineSteps' matter, for the only one. -/
theorem make_only (l : List Mk) : makeM 3 l = if anyU l then (2, 2) else foldM 3 l := by
  show sureM (foldM 3 l) = _
  rcases only_fold l with ⟨c, f, u⟩ | ⟨c, f, u⟩ | ⟨c, f⟩
  · rw [f, u]; rfl
  · rw [u, sureM]
    cases sureB (foldM 3 l) <;> rfl
  · rw [f, sureM, sure_22]
    simp
theorem make_only_two (l : List Mk) : (makeM 3 l = (2, 2)) ↔ (anyU l = true ∨ 1 < cnt l) := by
  show sureM (foldM 3 l) = (2, 2) ↔ _
  rcases only_fold l with ⟨c, f, u⟩ | ⟨c, f, u⟩ | ⟨c, f⟩
  · rw [f, u, c]; decide
  · rw [u, c, sureM]
    cases h : sureB (foldM 3 l)
    · simp
    · have : foldM 3 l ≠ (2, 2) := by
        intro e
        rw [e] at h
        revert h
        decide
      simp [this]
  · rw [f, sureM, sure_22]
    have : 1 < cnt l := by omega
    simp [this]

theorem hi_4 : ∀ i j : Fin 5, (hiF i j = 4) ↔ (i = 4 ∨ j = 4) := by decide +kernel
theorem right_4d_ : ∀ p d : Fin 5, rightK (p, d) = true → (d = 4 ↔ (p, d) = ((0, 4) : Mk)) := by decide +kernel
theorem right_4p_ : ∀ p d : Fin 5, rightK (p, d) = true → (p = 4 ↔ (p, d) = ((4, 0) : Mk)) := by decide +kernel
theorem fold_4d {l : List Mk} (h : Six l) : (foldM 0 l).2 = 4 ↔ (0, 4) ∈ l := by
  induction l with
  | nil => decide
  | cons m l ih =>
    rw [fold_cons, List.mem_cons, ← ih (fun x hx => h x (List.mem_cons_of_mem _ hx))]
    have e : (stepM 0 m (foldM 0 l)).2 = hiF m.2 (foldM 0 l).2 := rfl
    rw [e, hi_4, right_4d_ m.1 m.2 (h m List.mem_cons_self)]
    exact or_congr ⟨fun h => h.symm, fun h => h.symm⟩ Iff.rfl
theorem fold_4p {l : List Mk} (h : Six l) : (foldM 0 l).1 = 4 ↔ (4, 0) ∈ l := by
  induction l with
  | nil => decide
  | cons m l ih =>
    rw [fold_cons, List.mem_cons, ← ih (fun x hx => h x (List.mem_cons_of_mem _ hx))]
    have e : (stepM 0 m (foldM 0 l)).1 = hiF m.1 (foldM 0 l).1 := rfl
    rw [e, hi_4, right_4p_ m.1 m.2 (h m List.mem_cons_self)]
    exact or_congr ⟨fun h => h.symm, fun h => h.symm⟩ Iff.rfl
theorem over_4 : ∀ p d : Fin 5, (overM (p, d) = (0, 4)) ↔ d = 4 := by decide +kernel
theorem make_deny {l : List Mk} (h : Six l) : makeM 0 l = (0, 4) ↔ (0, 4) ∈ l := by
  rw [← fold_4d h]
  exact over_4 (foldM 0 l).1 (foldM 0 l).2
theorem turned_4 : ∀ p d : Fin 5, (turnM (overM (turnM (p, d))) = (4, 0)) ↔ p = 4 := by decide +kernel
theorem make_permit {l : List Mk} (h : Six l) : makeM 1 l = (4, 0) ↔ (4, 0) ∈ l := by
  rw [← fold_4p h]
  unfold makeM
  rw [join_1]
  exact turned_4 (foldM 0 l).1 (foldM 0 l).2
theorem sure_cases {m : Mk} (h : sureB m = true) : m = (0, 0) ∨ m = (4, 0) ∨ m = (0, 4) := by
  simpa [sureB, or_assoc] using h
theorem sure_fold {l : List Mk} (h : anyU l = false) : ((foldM 0 l).1 = 0 ∨ (foldM 0 l).1 = 4) ∧ ((foldM 0 l).2 = 0 ∨ (foldM 0 l).2 = 4) := by
  induction l with
  | nil => decide
  | cons m l ih =>
    rw [anyU_cons, Bool.or_eq_false_iff] at h
    have hm := sure_cases (by simpa using h.1 : sureB m = true)
    have ih := ih h.2
    rw [fold_cons]
    have e1 : (stepM 0 m (foldM 0 l)).1 = hiF m.1 (foldM 0 l).1 := rfl
    have e2 : (stepM 0 m (foldM 0 l)).2 = hiF m.2 (foldM 0 l).2 := rfl
    rw [e1, e2]
    generalize foldM 0 l = j at *
    obtain ⟨p, d⟩ := j
    obtain ⟨h1, h2⟩ := ih
    dsimp only at h1 h2 ⊢
    rcases hm with rfl | rfl | rfl <;> rcases h1 with rfl | rfl <;> rcases h2 with rfl | rfl <;> decide
/-- CombineSure's matter: without any that is unsure. -/
theorem make_sure {l : List Mk} (h : Six l) (u : anyU l = false) : makeM 0 l = if (0, 4) ∈ l then (0, 4) else if (4, 0) ∈ l then (4, 0) else (0, 0) := by
  have h1 := fold_4d h
  have h2 := fold_4p h
  obtain ⟨s1, s2⟩ := sure_fold u
  show overM (foldM 0 l) = _
  generalize foldM 0 l = j at *
  obtain ⟨p, d⟩ := j
  dsimp only at h1 h2 s1 s2
  by_cases hd : (0, 4) ∈ l
  · rw [if_pos hd]
    obtain rfl := h1.2 hd
    exact (over_4 p 4).2 rfl
  · rw [if_neg hd]
    have hd' : d = 0 := s2.resolve_right fun e => hd (h1.1 e)
    subst hd'
    by_cases hp : (4, 0) ∈ l
    · rw [if_pos hp]
      obtain rfl := h2.2 hp
      decide
    · rw [if_neg hp]
      have hp' : p = 0 := s1.resolve_right fun e => hp (h2.1 e)
      subst hp'
      decide
end Go.Proofs.Ytjkigjgpdbedmaa
