/- A run that is turned, place by place: what the row is behind i places, and whether all of them were nought. Plain mathematics. -/
import Derived.Test.YtfehafeopoejgaaSumMath
namespace Go.Proofs.Ytfehafeopoejgaa

theorem zipXor_len (ts : List UInt8) : ∀ q : List UInt8, (zipXor q ts).length = q.length := by
  induction ts with
  | nil => intro q; cases q <;> rfl
  | cons t ts ih =>
    intro q
    cases q with
    | nil => rfl
    | cons x q => simp only [zipXor, List.length_cons, ih]

/-- The row l whose places from k on were turned by the first i of ts. -/
def turnedTo (l : List UInt8) (k : Nat) (ts : List UInt8) (i : Nat) : List UInt8 := l.take k ++ zipXor (l.drop k) (ts.take i)
def noughtTo (l : List UInt8) (k : Nat) (ts : List UInt8) (i : Nat) : Bool := allNought (l.drop k) (ts.take i)

theorem zip_step (ts : List UInt8) : ∀ (q : List UInt8) (i : Nat) (hi : i < ts.length) (hq : i < q.length),
    (zipXor q (ts.take i))[i]? = some q[i] ∧ (zipXor q (ts.take i)).set i (q[i] ^^^ ts[i]) = zipXor q (ts.take (i + 1)) ∧ allNought q (ts.take (i + 1)) = (allNought q (ts.take i) && (ts[i] == 0)) := by
  induction ts with
  | nil => intro q i hi; simp at hi
  | cons t ts ih =>
    intro q i hi hq
    cases q with
    | nil => simp at hq
    | cons x q =>
      cases i with
      | zero =>
        refine ⟨rfl, ?_, ?_⟩
        · cases q <;> rfl
        · cases q <;> simp [allNought]
      | succ i =>
        obtain ⟨h1, h2, h3⟩ := ih q i (by simpa using hi) (by simpa using hq)
        refine ⟨?_, ?_, ?_⟩
        · simpa [zipXor] using h1
        · simpa [zipXor] using h2
        · simp only [List.take_succ_cons, allNought, h3, List.getElem_cons_succ, Bool.and_assoc]

theorem turnedTo_len (l : List UInt8) (k : Nat) (ts : List UInt8) (i : Nat) : (turnedTo l k ts i).length = l.length := by
  unfold turnedTo
  rw [List.length_append, zipXor_len, List.length_take, List.length_drop]; omega
theorem turnedTo_zero (l : List UInt8) (k : Nat) (ts : List UInt8) : turnedTo l k ts 0 = l := by
  unfold turnedTo
  rw [List.take_zero]
  have : ∀ q : List UInt8, zipXor q [] = q := by intro q; cases q <;> rfl
  rw [this, List.take_append_drop]
theorem noughtTo_zero (l : List UInt8) (k : Nat) (ts : List UInt8) : noughtTo l k ts 0 = true := by
  unfold noughtTo
  rw [List.take_zero]
  cases l.drop k <;> rfl

theorem turn_step {l : List UInt8} {k : Nat} {ts : List UInt8} {i : Nat} (hi : i < ts.length) (hl : k + i < l.length) :
    (turnedTo l k ts i)[k + i]? = some l[k + i] ∧ (turnedTo l k ts i).set (k + i) (l[k + i] ^^^ ts[i]) = turnedTo l k ts (i + 1) ∧ noughtTo l k ts (i + 1) = (noughtTo l k ts i && (ts[i] == 0)) := by
  have hd : i < (l.drop k).length := by rw [List.length_drop]; omega
  obtain ⟨h1, h2, h3⟩ := zip_step ts (l.drop k) i hi hd
  rw [List.getElem_drop] at h1 h2
  have hlen : (l.take k).length = k := by rw [List.length_take]; omega
  refine ⟨?_, ?_, h3⟩
  · unfold turnedTo
    rw [List.getElem?_append_right (by omega), hlen, show k + i - k = i from by omega]
    exact h1
  · unfold turnedTo
    rw [List.set_append_right _ _ (by omega), hlen, show k + i - k = i from by omega, h2]

theorem zip_stop (ts : List UInt8) : ∀ q : List UInt8, zipXor q (ts.take q.length) = zipXor q ts ∧ allNought q (ts.take q.length) = allNought q ts := by
  induction ts with
  | nil => intro q; rw [List.take_nil]; exact ⟨rfl, rfl⟩
  | cons t ts ih =>
    intro q
    cases q with
    | nil => exact ⟨rfl, rfl⟩
    | cons x q =>
      obtain ⟨h1, h2⟩ := ih q
      simp only [List.length_cons, List.take_succ_cons, zipXor, allNought, h1, h2, and_self]

/-- Behind the last place: the sums are the same just if all that was turned was turned by nought. -/
theorem turn_end {l : List UInt8} {k : Nat} {ts : List UInt8} {i : Nat} (ht : ts.length = 4) (hi : i = 4 ∨ k + i = l.length) : (crcOf (turnedTo l k ts i) = crcOf l) ↔ noughtTo l k ts i = true := by
  have e : zipXor (l.drop k) (ts.take i) = zipXor (l.drop k) ts ∧ allNought (l.drop k) (ts.take i) = allNought (l.drop k) ts := by
    rcases hi with h | h
    · rw [List.take_of_length_le (by omega)]; exact ⟨rfl, rfl⟩
    · have hl : (l.drop k).length = i := by rw [List.length_drop]; omega
      rw [← hl]; exact zip_stop ts _
  have h := crcOf_turned (p := l.take k) (q := l.drop k) (ts := ts) (by omega)
  unfold turnedTo noughtTo
  rw [e.1, e.2, ← h, List.take_append_drop]
end Go.Proofs.Ytfehafeopoejgaa
