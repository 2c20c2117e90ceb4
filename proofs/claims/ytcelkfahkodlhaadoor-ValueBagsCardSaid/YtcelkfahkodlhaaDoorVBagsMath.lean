/- Bags: what is put into one; and the calls by what they answer. -/
import Derived.Test.YtcelkfahkodlhaaDoorVBag
import Derived.Test.YtcelkfahkodlhaaDoorVHas
namespace Go.Proofs.YtcelkfahkodlhaaDoor
set_option linter.unusedVariables false
open Go.RowKit

theorem bag_at {w : World} {B n c : Nat} {A : Option Addr} {l : List Vl} {b : Bool} (hb : bagB l = b) (h : Vs w B A n c l) (hB : B ≤ w.heap.size) :
    Calls Tryd.prog 25 #[.slice A n c] w fun e w' => e = .returned (.bool b) ∧ Below w.heap.size w w' := by
  have := vbag_any h hB
  rwa [hb] at this
theorem has_at {w : World} {B n c : Nat} {A : Option Addr} {l : List Vl} {b : Bool} {k n0 : Int} {s : ByteArray} (hb : hasB l ⟨k, n0, s⟩ = b) (h : Vs w B A n c l) (hB : B ≤ w.heap.size) :
    Calls Tryd.prog 27 #[.slice A n c, .agg #[.int .i64 k, .int .i64 n0, .string s]] w fun e w' => e = .returned (.bool b) ∧ Below w.heap.size w w' := by
  have := vhas_any h hB k n0 s
  rwa [hb] at this
theorem right_at {k n : Int} {s : ByteArray} {b : Bool} (hb : decide (Vl.right ⟨k, n, s⟩) = b) (hs : s.size ≤ maxLen) (w : World) :
    Calls Tryd.prog 23 #[.agg #[.int .i64 k, .int .i64 n, .string s]] w fun e w' => e = .returned (.bool b) ∧ Below w.heap.size w w' := by
  have := right_any k n s hs w
  rwa [show decide (RightV k n s.data.toList) = b from hb] at this

theorem bag_iff {l : List Vl} : bagB l = true ↔ l.length ≤ 16 ∧ ∀ u ∈ l, u.right ∧ ∀ v ∈ l, u.k = v.k := by
  unfold bagB
  rw [Bool.and_eq_true, decide_eq_true_iff, List.all_eq_true]
  refine and_congr_right fun _ => ⟨fun h u hu => ?_, fun h u hu => ?_⟩
  · have key : ∀ v ∈ l, v.right ∧ v.k = ((l.head?).map Vl.k).getD 0 := fun v hv => by
      have := h v hv
      rw [Bool.and_eq_true, decide_eq_true_iff, decide_eq_true_iff] at this
      exact this
    exact ⟨(key u hu).1, fun v hv => (key u hu).2.trans (key v hv).2.symm⟩
  · rw [Bool.and_eq_true, decide_eq_true_iff, decide_eq_true_iff]
    refine ⟨(h u hu).1, ?_⟩
    cases l with
    | nil => cases hu
    | cons x r => exact (h u hu).2 x (List.mem_cons_self ..)
theorem bag_sub {l m : List Vl} (h : bagB l = true) (hs : ∀ v ∈ m, v ∈ l) (hl : m.length ≤ l.length) : bagB m = true := by
  rw [bag_iff] at h ⊢
  exact ⟨by omega, fun u hu => ⟨(h.2 u (hs u hu)).1, fun v hv => (h.2 u (hs u hu)).2 v (hs v hv)⟩⟩
theorem bag_take {l : List Vl} (h : bagB l = true) (k : Nat) : bagB (l.take k) = true := bag_sub h (fun v hv => List.mem_of_mem_take hv) (by rw [List.length_take]; omega)
theorem bag_drop {l : List Vl} (h : bagB l = true) (k : Nat) : bagB (l.drop k) = true := bag_sub h (fun v hv => List.mem_of_mem_drop hv) (by rw [List.length_drop]; omega)

def moreB (l : List Vl) (k : Nat) (v : Vl) : List Vl := l.take k ++ [v] ++ l.drop k
theorem more_mem {l : List Vl} {k : Nat} {v x : Vl} : x ∈ moreB l k v ↔ x = v ∨ x ∈ l := by
  have e : x ∈ l ↔ x ∈ l.take k ∨ x ∈ l.drop k := by rw [← List.mem_append, List.take_append_drop]
  unfold moreB
  rw [e, List.mem_append, List.mem_append, List.mem_singleton]
  constructor
  · rintro ((h | h) | h)
    · exact .inr (.inl h)
    · exact .inl h
    · exact .inr (.inr h)
  · rintro (h | h | h)
    · exact .inl (.inr h)
    · exact .inl (.inl h)
    · exact .inr h
theorem more_len {l : List Vl} {k : Nat} {v : Vl} : (moreB l k v).length = l.length + 1 := by
  unfold moreB
  simp
  omega
theorem more_has (l : List Vl) (k : Nat) (v : Vl) : hasB (moreB l k v) v = true := by
  unfold hasB
  rw [List.any_eq_true]
  exact ⟨v, more_mem.2 (.inl rfl), veq_true rfl⟩
theorem more_yes {l : List Vl} {k : Nat} {v : Vl} (h : bagB l = true) (hv : v.right) (hl : l.length + 1 ≤ 16) (hk : ∀ y, l[0]? = some y → y.k = v.k) : bagB (moreB l k v) = true := by
  have hall : ∀ u ∈ l, u.k = v.k := fun u hu => by
    cases l with
    | nil => cases hu
    | cons y r => exact ((bag_iff.1 h).2 u hu).2 y (List.mem_cons_self ..) |>.trans (hk y rfl)
  rw [bag_iff] at h ⊢
  refine ⟨by rw [more_len]; exact hl, fun u hu => ?_⟩
  have hku : ∀ x ∈ moreB l k v, x.k = v.k := fun x hx => by
    rcases more_mem.1 hx with rfl | hx
    · rfl
    · exact hall x hx
  refine ⟨?_, fun x hx => (hku u hu).trans (hku x hx).symm⟩
  rcases more_mem.1 hu with rfl | hu
  · exact hv
  · exact (h.2 u hu).1
theorem more_no {l : List Vl} {k : Nat} {v y : Vl} (hy : l[0]? = some y) (hk : y.k ≠ v.k) : bagB (moreB l k v) = false := by
  rw [← Bool.not_eq_true]
  intro h
  rw [bag_iff] at h
  exact hk ((h.2 y (more_mem.2 (.inr (List.mem_of_getElem? hy)))).2 v (more_mem.2 (.inl rfl)))
theorem more_full {l : List Vl} {k : Nat} {v : Vl} (hl : 16 < l.length + 1) : bagB (moreB l k v) = false := bag_long (by rw [more_len]; omega)
theorem Vs.drop_ne {w : World} {B n c k : Nat} {A : Option Addr} {l : List Vl} (h : Vs w B A n c l) (hk : k ≤ n) (hc : ¬ c = k) : Vs w B (Option.map (fun x => x.add (k * 3)) A) (n - k) (c - k) (l.drop k) := by
  have := h.drop hk
  rwa [if_neg hc] at this
theorem Vs.drop_eq {w : World} {B n c k : Nat} {A : Option Addr} {l : List Vl} (h : Vs w B A n c l) (hk : k ≤ n) (hc : c = k) : Vs w B A (n - k) 0 (l.drop k) := by
  have := h.drop hk
  rw [if_pos hc, hc, Nat.sub_self] at this
  exact this
end Go.Proofs.YtcelkfahkodlhaaDoor
