/- How many branches are reached (P16.4), plainly. -/
import Derived.Test.YtipeefehhaffkaaDagM
namespace Go.Proofs.Ytipeefehhaffkaa
set_option linter.unusedVariables false

/-- Is j reached from w, in so many steps? -/
def rchD (l : List Br) (j : Nat) : Nat → Int → Bool
  | 0, _ => false
  | n + 1, w => if w < 0 then false else match l[w.toNat]? with | none => false | some b => decide (w.toNat = j) || rchD l j n b.x || rchD l j n b.y || rchD l j n b.z
def rch (l : List Br) (w : Int) (j : Nat) : Bool := rchD l j (w + 1).toNat w
def sizeD (l : List Br) (w : Int) : Nat := (List.range l.length).countP (rch l w)
section
variable {l : List Br}
theorem rchD_neg {j : Nat} {w : Int} (h : w < 0) : ∀ n, rchD l j n w = false
  | 0 => rfl
  | n + 1 => by rw [rchD, if_pos h]
theorem rch_neg {j : Nat} {w : Int} (h : w < 0) : rch l w j = false := rchD_neg h _
theorem rch_big {j : Nat} {w : Int} (h : (l.length : Int) ≤ w) : rch l w j = false := by
  unfold rch
  rw [show (w + 1).toNat = w.toNat + 1 by omega, rchD, if_neg (by omega), List.getElem?_eq_none (by omega)]
theorem rchD_more (h : Dg l) (j : Nat) : ∀ (n : Nat) (w : Int), w < n → ∀ m : Nat, n ≤ m → w < l.length → rchD l j m w = rchD l j n w
  | 0, w, hn, m, hm, hl => by rw [rchD_neg (by omega), rchD_neg (by omega)]
  | n + 1, w, hn, m, hm, hl => by
    by_cases h0 : w < 0
    · rw [rchD_neg h0, rchD_neg h0]
    · match m, hm with
      | m + 1, hm =>
        rw [rchD, rchD, if_neg h0, if_neg h0]
        have hlt : w.toNat < l.length := by omega
        rw [List.getElem?_eq_getElem hlt]
        have hb := (h.2 w.toNat _ (List.getElem?_eq_getElem hlt)).2.1
        have hx : l[w.toNat].x < (w.toNat : Int) := (hb 0).2.1
        have hy : l[w.toNat].y < (w.toNat : Int) := (hb 1).2.1
        have hz : l[w.toNat].z < (w.toNat : Int) := (hb 2).2.1
        show (decide (w.toNat = j) || rchD l j m l[w.toNat].x || rchD l j m l[w.toNat].y || rchD l j m l[w.toNat].z) = (decide (w.toNat = j) || rchD l j n l[w.toNat].x || rchD l j n l[w.toNat].y || rchD l j n l[w.toNat].z)
        rw [rchD_more h j n _ (by omega) m (by omega) (by omega), rchD_more h j n _ (by omega) m (by omega) (by omega), rchD_more h j n _ (by omega) m (by omega) (by omega)]
/-- A branch reaches itself, and what its ways reach. -/
theorem rch_step (h : Dg l) {w : Int} {b : Br} (h0 : 0 ≤ w) (hb : l[w.toNat]? = some b) (j : Nat) : rch l w j = (decide (w.toNat = j) || rch l b.x j || rch l b.y j || rch l b.z j) := by
  have hlt := (List.getElem?_eq_some_iff.1 hb).1
  have hw := (h.2 w.toNat b hb).2.1
  have hx : b.x < (w.toNat : Int) := (hw 0).2.1
  have hy : b.y < (w.toNat : Int) := (hw 1).2.1
  have hz : b.z < (w.toNat : Int) := (hw 2).2.1
  unfold rch
  rw [show (w + 1).toNat = w.toNat + 1 by omega, rchD, if_neg (by omega), hb]
  show (decide (w.toNat = j) || rchD l j w.toNat b.x || rchD l j w.toNat b.y || rchD l j w.toNat b.z) = _
  rw [rchD_more h j (b.x + 1).toNat b.x (by omega) w.toNat (by omega) (by omega), rchD_more h j (b.y + 1).toNat b.y (by omega) w.toNat (by omega) (by omega), rchD_more h j (b.z + 1).toNat b.z (by omega) w.toNat (by omega) (by omega)]
theorem rch_le (h : Dg l) : ∀ (n : Nat) (w : Int), w < n → ∀ {j : Nat}, rch l w j = true → (j : Int) ≤ w
  | 0, w, hn, j, hr => by rw [rch_neg (by omega)] at hr; cases hr
  | n + 1, w, hn, j, hr => by
    by_cases h0 : w < 0
    · rw [rch_neg h0] at hr; cases hr
    · by_cases hl : (l.length : Int) ≤ w
      · rw [rch_big hl] at hr; cases hr
      · obtain ⟨b, hb⟩ := get_toNat (l := l) (w := w) (by omega) (by omega)
        have hw := (h.2 w.toNat b hb).2.1
        have hx : b.x < (w.toNat : Int) := (hw 0).2.1
        have hy : b.y < (w.toNat : Int) := (hw 1).2.1
        have hz : b.z < (w.toNat : Int) := (hw 2).2.1
        rw [rch_step h (by omega) hb] at hr
        simp only [Bool.or_eq_true, decide_eq_true_eq] at hr
        rcases hr with ((e | e) | e) | e
        · omega
        · have := rch_le h n b.x (by omega) e; omega
        · have := rch_le h n b.y (by omega) e; omega
        · have := rch_le h n b.z (by omega) e; omega
theorem countP_or {α : Type} (p q : α → Bool) : ∀ s : List α, s.countP (fun a => p a || q a) ≤ s.countP p + s.countP q
  | [] => by simp
  | a :: s => by
    have := countP_or p q s
    simp only [List.countP_cons]
    cases p a <;> cases q a <;> simp <;> omega
theorem countP_less {α : Type} {p q : α → Bool} : ∀ {s : List α}, (∀ a ∈ s, p a = true → q a = true) → (∃ a ∈ s, p a = false ∧ q a = true) → s.countP p < s.countP q
  | [], _, ⟨a, ha, _⟩ => by simp at ha
  | a :: s, h, ⟨b, hb, h1, h2⟩ => by
    have hm : s.countP p ≤ s.countP q := List.countP_mono_left fun x hx => h x (by simp [hx])
    simp only [List.countP_cons]
    rcases List.mem_cons.1 hb with rfl | hb
    · rw [h1, h2]; simp; omega
    · have := countP_less (fun x hx => h x (by simp [hx])) ⟨b, hb, h1, h2⟩
      have h3 := h a (by simp)
      cases hp : p a
      · cases q a <;> simp <;> omega
      · rw [h3 hp]; simp; omega
theorem countP_one (j : Nat) : ∀ n, (List.range n).countP (fun i => decide (j = i)) ≤ 1
  | 0 => by simp
  | n + 1 => by
    rw [List.range_succ, List.countP_append]
    have h1 := countP_one j n
    by_cases e : j = n
    · subst e
      have : (List.range j).countP (fun i => decide (j = i)) = 0 := by
        rw [List.countP_eq_zero]
        intro i hi
        rw [List.mem_range] at hi
        simp
        omega
      simp [this]
    · simp [e]
      simpa using h1
theorem size_neg {w : Int} (h : w < 0) : sizeD l w = 0 := by
  unfold sizeD
  rw [List.countP_eq_zero]
  intro j _
  rw [rch_neg h]
  simp
theorem size_big {w : Int} (h : (l.length : Int) ≤ w) : sizeD l w = 0 := by
  unfold sizeD
  rw [List.countP_eq_zero]
  intro j _
  rw [rch_big h]
  simp
theorem size_len (w : Int) : sizeD l w ≤ l.length := by
  have := List.countP_le_length (p := rch l w) (l := List.range l.length)
  rwa [List.length_range] at this
/-- P16.4: it reaches itself and what its ways reach. -/
theorem size_sum (h : Dg l) {w : Int} {b : Br} (h0 : 0 ≤ w) (hb : l[w.toNat]? = some b) : sizeD l w ≤ 1 + sizeD l b.x + sizeD l b.y + sizeD l b.z := by
  unfold sizeD
  rw [show rch l w = fun j => ((decide (w.toNat = j) || rch l b.x j) || rch l b.y j) || rch l b.z j from funext fun j => rch_step h h0 hb j]
  have h1 := countP_or (fun j => (decide (w.toNat = j) || rch l b.x j) || rch l b.y j) (rch l b.z) (List.range l.length)
  have h2 := countP_or (fun j => decide (w.toNat = j) || rch l b.x j) (rch l b.y) (List.range l.length)
  have h3 := countP_or (fun j => decide (w.toNat = j)) (rch l b.x) (List.range l.length)
  have h4 := countP_one w.toNat l.length
  omega
theorem size_less (h : Dg l) {w : Int} {b : Br} (h0 : 0 ≤ w) (hb : l[w.toNat]? = some b) (k : Nat) : sizeD l (b.to k) < sizeD l w := by
  have hlt := (List.getElem?_eq_some_iff.1 hb).1
  have hw := (h.2 w.toNat b hb).2.1 k
  refine countP_less (fun j _ hj => ?_) ⟨w.toNat, List.mem_range.2 hlt, ?_, ?_⟩
  · rw [rch_step h h0 hb]
    simp only [Bool.or_eq_true]
    match k, hj with
    | 0, hj => exact .inl (.inl (.inr hj))
    | 1, hj => exact .inl (.inr hj)
    | _ + 2, hj => exact .inr hj
  · cases hr : rch l (b.to k) w.toNat with
    | false => rfl
    | true =>
      have := rch_le h (b.to k + 1).toNat (b.to k) (by omega) hr
      omega
  · rw [rch_step h h0 hb]
    simp
end
end Go.Proofs.Ytipeefehhaffkaa
