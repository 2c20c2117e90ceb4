/- Requests, plainly (chapter 11): what is given, where it stands, which are right, and with one more. -/
import Derived.Test.YtincnopaclmppaaPolMath
import Derived.Test.YtincnopaclmppaaVBag
namespace Go.Proofs.Ytincnopaclmppaa
set_option linter.unusedVariables false

structure Giv where
  cat : Int
  name : ByteArray
  bag : List Vl
instance : Inhabited Giv := ⟨⟨0, ByteArray.empty, []⟩⟩
def Giv.ok (g : Giv) : Prop := InI g.cat ∧ g.name.size ≤ maxLen
/-- Is it that one? -/
def isG (c : Int) (s : ByteArray) (g : Giv) : Bool := decide (g.cat = c) && decide (g.name = s)
def idxA (l : List Giv) (c : Int) (s : ByteArray) : Nat := l.findIdx (isG c s)
def placeI (l : List Giv) (c : Int) (s : ByteArray) : Int := if idxA l c s < l.length then (idxA l c s : Int) else -1
def bagA (l : List Giv) (c : Int) (s : ByteArray) : List Vl := ((l[idxA l c s]?).map Giv.bag).getD []
/-- P11.2: what is there, and the error. -/
def getB (l : List Giv) (a : Atr) : List Vl := bagA l a.cat a.name
def getE (l : List Giv) (a : Atr) : Int := if a.must = true ∧ getB l a = [] then 4 else 0
def getR (l : List Giv) (a : Atr) : List Vl := if getE l a = 0 then getB l a else []
/-- P11.1. -/
def wrongA (ahead : List Giv) (g : Giv) : Int := if attrB ⟨g.cat, g.name, false⟩ = true ∧ bagB g.bag = true then (if idxA ahead g.cat g.name < ahead.length then 11 else 0) else 1
def rightL : List Giv → List Giv → Int
  | _, [] => 0
  | ah, g :: r => if wrongA ah g ≠ 0 then wrongA ah g else rightL (ah ++ [g]) r
def rightA (l : List Giv) : Int := if 64 < l.length then 6 else rightL [] l
/-- P11.3. -/
def withA (l : List Giv) (g : Giv) : List Giv := if idxA l g.cat g.name < l.length then l.set (idxA l g.cat g.name) g else l ++ [g]

theorem isG_iff {c : Int} {s : ByteArray} {g : Giv} : isG c s g = true ↔ g.cat = c ∧ g.name = s := by simp [isG]
theorem isG_self (g : Giv) : isG g.cat g.name g = true := isG_iff.2 ⟨rfl, rfl⟩
theorem idx_at {l : List Giv} {c : Int} {s : ByteArray} {k : Nat} {g : Giv} (hk : l[k]? = some g) (hg : isG c s g = true) (hf : ∀ (j : Nat) (x : Giv), l[j]? = some x → j < k → isG c s x = false) : idxA l c s = k := by
  obtain ⟨h, rfl⟩ := List.getElem?_eq_some_iff.1 hk
  unfold idxA
  rw [List.findIdx_eq h]
  exact ⟨hg, fun j hj => hf j _ (List.getElem?_eq_getElem (by omega)) hj⟩
theorem idx_none {l : List Giv} {c : Int} {s : ByteArray} (hf : ∀ (j : Nat) (x : Giv), l[j]? = some x → isG c s x = false) : idxA l c s = l.length := by
  unfold idxA
  rw [List.findIdx_eq_length]
  intro x hx
  obtain ⟨j, hj, rfl⟩ := List.getElem_of_mem hx
  exact hf j _ (List.getElem?_eq_getElem hj)
theorem place_at {l : List Giv} {c : Int} {s : ByteArray} {k : Nat} {g : Giv} (hk : l[k]? = some g) (hg : isG c s g = true) (hf : ∀ (j : Nat) (x : Giv), l[j]? = some x → j < k → isG c s x = false) : placeI l c s = k := by
  have e := idx_at hk hg hf
  have h := (List.getElem?_eq_some_iff.1 hk).1
  unfold placeI
  rw [e, if_pos h]
theorem place_none {l : List Giv} {c : Int} {s : ByteArray} (hf : ∀ (j : Nat) (x : Giv), l[j]? = some x → isG c s x = false) : placeI l c s = -1 := by
  unfold placeI
  rw [idx_none hf, if_neg (by omega)]
theorem idx_hit {l : List Giv} {c : Int} {s : ByteArray} (h : idxA l c s < l.length) : ∃ g, l[idxA l c s]? = some g ∧ isG c s g = true ∧ bagA l c s = g.bag := by
  refine ⟨l[idxA l c s], List.getElem?_eq_getElem h, List.findIdx_getElem (w := h), ?_⟩
  unfold bagA
  rw [List.getElem?_eq_getElem h]
  rfl
theorem idx_before {l : List Giv} {c : Int} {s : ByteArray} {j : Nat} {x : Giv} (hx : l[j]? = some x) (h : j < idxA l c s) : isG c s x = false := by
  obtain ⟨hj, rfl⟩ := List.getElem?_eq_some_iff.1 hx
  have := List.not_of_lt_findIdx h
  simpa using this
theorem bag_none {l : List Giv} {c : Int} {s : ByteArray} (h : ¬ idxA l c s < l.length) : bagA l c s = [] := by
  unfold bagA
  rw [List.getElem?_eq_none (by omega)]
  rfl
theorem place_pos {l : List Giv} {c : Int} {s : ByteArray} (h : idxA l c s < l.length) : placeI l c s = idxA l c s := if_pos h
theorem place_neg {l : List Giv} {c : Int} {s : ByteArray} (h : ¬ idxA l c s < l.length) : placeI l c s = -1 := if_neg h

theorem rightL_step {l : List Giv} {k : Nat} {g : Giv} (h : l[k]? = some g) : rightL (l.take k) (l.drop k) = if wrongA (l.take k) g ≠ 0 then wrongA (l.take k) g else rightL (l.take (k + 1)) (l.drop (k + 1)) := by
  obtain ⟨hk, rfl⟩ := List.getElem?_eq_some_iff.1 h
  rw [List.drop_eq_getElem_cons hk, rightL, List.take_succ_eq_append_getElem hk]
theorem rightL_end {l : List Giv} {k : Nat} (h : l.length ≤ k) : rightL (l.take k) (l.drop k) = 0 := by
  rw [List.drop_of_length_le h, rightL]
/-- Right, said of each. -/
theorem rightL_iff {l : List Giv} : ∀ {ah : List Giv}, rightL ah l = 0 ↔ ∀ (k : Nat) (g : Giv), l[k]? = some g → wrongA (ah ++ l.take k) g = 0 := by
  induction l with
  | nil => intro ah; simp [rightL]
  | cons x r ih =>
    intro ah
    rw [rightL]
    by_cases h : wrongA ah x = 0
    · rw [if_neg (by simpa using h), ih]
      constructor
      · intro hh k g hg
        cases k with
        | zero => simp at hg; subst hg; simpa using h
        | succ k => have := hh k g (by simpa using hg); simpa using this
      · intro hh k g hg
        have := hh (k + 1) g (by simpa using hg)
        simpa using this
    · rw [if_pos h]
      constructor
      · intro e; exact absurd e h
      · intro hh; exact absurd (by simpa using hh 0 x rfl) h
theorem rightA_iff {l : List Giv} : rightA l = 0 ↔ l.length ≤ 64 ∧ ∀ (k : Nat) (g : Giv), l[k]? = some g → wrongA (l.take k) g = 0 := by
  unfold rightA
  split
  · rename_i h; constructor
    · intro e; cases e
    · intro e; omega
  · rename_i h
    rw [rightL_iff]
    simp only [List.nil_append]
    exact ⟨fun e => ⟨by omega, e⟩, fun e => e.2⟩
theorem wrongA_iff {ah : List Giv} {g : Giv} : wrongA ah g = 0 ↔ attrB ⟨g.cat, g.name, false⟩ = true ∧ bagB g.bag = true ∧ ∀ (j : Nat) (x : Giv), ah[j]? = some x → isG g.cat g.name x = false := by
  unfold wrongA
  constructor
  · intro h
    split at h
    · rename_i hab
      split at h
      · cases h
      · rename_i hi
        refine ⟨hab.1, hab.2, fun j x hx => ?_⟩
        have hj := (List.getElem?_eq_some_iff.1 hx).1
        exact idx_before hx (by omega)
    · cases h
  · rintro ⟨h1, h2, h3⟩
    rw [if_pos ⟨h1, h2⟩, if_neg (by rw [idx_none h3]; omega)]
/-- A right request, plainly. -/
theorem right_iff {l : List Giv} : rightA l = 0 ↔ l.length ≤ 64 ∧ (∀ g ∈ l, attrB ⟨g.cat, g.name, false⟩ = true ∧ bagB g.bag = true) ∧ ∀ (j k : Nat) x g, l[j]? = some x → l[k]? = some g → j < k → isG g.cat g.name x = false := by
  rw [rightA_iff]
  constructor
  · rintro ⟨h1, h2⟩
    refine ⟨h1, fun g hg => ?_, fun j k x g hx hg hjk => ?_⟩
    · obtain ⟨k, hk, rfl⟩ := List.getElem_of_mem hg
      obtain ⟨a, b, _⟩ := wrongA_iff.1 (h2 k _ (List.getElem?_eq_getElem hk))
      exact ⟨a, b⟩
    · exact (wrongA_iff.1 (h2 k g hg)).2.2 j x (by rw [List.getElem?_take, if_pos hjk]; exact hx)
  · rintro ⟨h1, h2, h3⟩
    refine ⟨h1, fun k g hg => wrongA_iff.2 ⟨(h2 g (List.mem_of_getElem? hg)).1, (h2 g (List.mem_of_getElem? hg)).2, fun j x hx => ?_⟩⟩
    rw [List.getElem?_take] at hx
    split at hx
    · rename_i hjk; exact h3 j k x g hx hg hjk
    · cases hx
/-- What is given is told. -/
theorem right_get {l : List Giv} (h : rightA l = 0) {k : Nat} {g : Giv} (hg : l[k]? = some g) : bagA l g.cat g.name = g.bag ∧ idxA l g.cat g.name = k := by
  have e := idx_at hg (isG_self g) (fun j x hx hj => (right_iff.1 h).2.2 j k x g hx hg hj)
  refine ⟨?_, e⟩
  unfold bagA
  rw [e, hg]
  rfl
theorem attr_cat {c : Int} {s : ByteArray} (h : attrB ⟨c, s, false⟩ = true) : 1 ≤ c ∧ c ≤ 4 := by
  unfold attrB at h
  simp only [Bool.and_eq_true, decide_eq_true_eq] at h
  omega
theorem right_nine {l : List Giv} (h : rightA l = 0) (s : ByteArray) : bagA l 9 s = [] := by
  refine bag_none ?_
  rw [idx_none ?_]
  · omega
  · intro j x hx
    have := attr_cat ((right_iff.1 h).2.1 x (List.mem_of_getElem? hx)).1
    rw [← Bool.not_eq_true]
    intro e
    have := (isG_iff.1 e).1
    omega
theorem rightL_app {g : Giv} : ∀ {r ah : List Giv}, rightL ah r = 0 → rightL ah (r ++ [g]) = wrongA (ah ++ r) g
  | [], ah, _ => by
    simp only [List.nil_append, rightL, List.append_nil]
    split
    · rfl
    · rename_i e; simp at e; exact e.symm
  | x :: r, ah, h => by
    rw [rightL] at h
    by_cases hw : wrongA ah x = 0
    · rw [if_neg (by simpa using hw)] at h
      rw [List.cons_append, rightL, if_neg (by simpa using hw), rightL_app h]
      simp
    · rw [if_pos hw] at h; exact absurd h hw
/-- Given twice it isn't right. -/
theorem right_twice {l : List Giv} (h : rightA l = 0) {k : Nat} {g : Giv} (hg : l[k]? = some g) : rightA (l ++ [g]) = if l.length = 64 then 6 else 11 := by
  have h1 := right_iff.1 h
  have hab := h1.2.1 g (List.mem_of_getElem? hg)
  have hk := (List.getElem?_eq_some_iff.1 hg).1
  unfold rightA
  rw [List.length_append, List.length_singleton]
  by_cases h64 : l.length = 64
  · rw [if_pos (by omega), if_pos h64]
  · rw [if_neg (by have := h1.1; omega), if_neg h64]
    have hr : rightL [] l = 0 := by
      unfold rightA at h
      rwa [if_neg (by have := h1.1; omega)] at h
    rw [rightL_app hr, List.nil_append]
    unfold wrongA
    rw [if_pos hab, (right_get h hg).2, if_pos hk]
/-- With one more, or another one. -/
theorem with_at {l : List Giv} {g : Giv} : ∃ k : Nat, (withA l g)[k]? = some g ∧ ∀ (j : Nat) (x : Giv), (withA l g)[j]? = some x → j < k → isG g.cat g.name x = false := by
  unfold withA
  by_cases h : idxA l g.cat g.name < l.length
  · rw [if_pos h]
    refine ⟨idxA l g.cat g.name, by simp [h], fun j x hx hj => ?_⟩
    rw [List.getElem?_set_ne (by omega)] at hx
    exact idx_before hx hj
  · rw [if_neg h]
    refine ⟨l.length, by simp, fun j x hx hj => ?_⟩
    rw [List.getElem?_append_left hj] at hx
    exact idx_before hx (by omega)
theorem with_idx {l : List Giv} {g : Giv} : idxA (withA l g) g.cat g.name < (withA l g).length ∧ bagA (withA l g) g.cat g.name = g.bag ∧ (withA l g)[idxA (withA l g) g.cat g.name]? = some g := by
  obtain ⟨k, hk, hf⟩ := @with_at l g
  have e := idx_at hk (isG_self g) hf
  have hlt := (List.getElem?_eq_some_iff.1 hk).1
  refine ⟨by rw [e]; exact hlt, ?_, by rw [e]; exact hk⟩
  unfold bagA
  rw [e, hk]
  rfl
theorem withA_pos {l : List Giv} {g : Giv} (h : idxA l g.cat g.name < l.length) : withA l g = l.set (idxA l g.cat g.name) g := if_pos h
theorem with_twice {l : List Giv} {g : Giv} : withA (withA l g) g = withA l g := by
  obtain ⟨h1, _, h3⟩ := @with_idx l g
  have e : ∀ m : List Giv, m = withA l g → withA m g = m := by
    rintro m rfl
    rw [withA_pos h1]
    apply List.ext_getElem?
    intro j
    by_cases hj : j = idxA (withA l g) g.cat g.name
    · subst hj; rw [List.getElem?_set_self h1, h3]
    · rw [List.getElem?_set_ne (fun e => hj e.symm)]
  exact e _ rfl
theorem with_len {l : List Giv} {g : Giv} : (withA l g).length ≤ l.length + 1 := by
  unfold withA
  split <;> simp
theorem with_mem {l : List Giv} {g x : Giv} (h : x ∈ withA l g) : x = g ∨ x ∈ l := by
  unfold withA at h
  split at h
  · exact (List.mem_or_eq_of_mem_set h).symm
  · simpa [or_comm] using h
theorem isG_ne {c c' : Int} {s s' : ByteArray} (h : ¬ (c = c' ∧ s = s')) {g : Giv} (hg : isG c s g = true) : isG c' s' g = false := by
  rw [← Bool.not_eq_true]
  intro e
  obtain ⟨a1, a2⟩ := isG_iff.1 hg
  obtain ⟨b1, b2⟩ := isG_iff.1 e
  exact h ⟨a1.symm.trans b1, a2.symm.trans b2⟩
/-- All else is as it was. -/
theorem with_other {l : List Giv} {g : Giv} {c : Int} {s : ByteArray} (h : ¬ (c = g.cat ∧ s = g.name)) : bagA (withA l g) c s = bagA l c s := by
  have hg : isG c s g = false := by
    rw [← Bool.not_eq_true]
    intro e
    obtain ⟨a, b⟩ := isG_iff.1 e
    exact h ⟨a.symm, b.symm⟩
  by_cases hc : idxA l c s < l.length
  · obtain ⟨x, hx, hxg, hb⟩ := idx_hit hc
    have hk : (withA l g)[idxA l c s]? = some x ∧ ∀ (j : Nat) (y : Giv), (withA l g)[j]? = some y → j < idxA l c s → isG c s y = false := by
      unfold withA
      by_cases hi : idxA l g.cat g.name < l.length
      · rw [if_pos hi]
        have hne : idxA l g.cat g.name ≠ idxA l c s := by
          intro e
          obtain ⟨y, hy, hyg, _⟩ := idx_hit hi
          rw [e, hx] at hy
          injection hy with hy
          subst hy
          rw [isG_ne h hxg] at hyg
          cases hyg
        refine ⟨by rw [List.getElem?_set_ne hne]; exact hx, fun j y hy hj => ?_⟩
        by_cases hj2 : idxA l g.cat g.name = j
        · subst hj2
          rw [List.getElem?_set_self hi] at hy
          injection hy with hy
          subst hy
          exact hg
        · rw [List.getElem?_set_ne hj2] at hy
          exact idx_before hy hj
      · rw [if_neg hi]
        refine ⟨by rw [List.getElem?_append_left hc]; exact hx, fun j y hy hj => ?_⟩
        rw [List.getElem?_append_left (by omega)] at hy
        exact idx_before hy hj
    have e := idx_at hk.1 hxg hk.2
    rw [hb]
    unfold bagA
    rw [e, hk.1]
    rfl
  · rw [bag_none hc]
    refine bag_none ?_
    have hl : idxA l c s = l.length := by
      have := List.findIdx_le_length (p := isG c s) (xs := l)
      unfold idxA at hc ⊢
      omega
    rw [idx_none]
    · omega
    · intro j y hy
      rcases with_mem (List.mem_of_getElem? hy) with rfl | hm
      · exact hg
      · obtain ⟨i, hi, rfl⟩ := List.getElem_of_mem hm
        exact idx_before (List.getElem?_eq_getElem hi) (by omega)
/-- A right one stays right. -/
theorem with_right {l : List Giv} {g : Giv} (h : rightA l = 0) (hg : attrB ⟨g.cat, g.name, false⟩ = true ∧ bagB g.bag = true) (hl : l.length < 64) : rightA (withA l g) = 0 := by
  obtain ⟨h1, h2, h3⟩ := right_iff.1 h
  refine right_iff.2 ⟨by have := @with_len l g; omega, fun x hx => ?_, fun j k x y hx hy hjk => ?_⟩
  · rcases with_mem hx with rfl | hx
    · exact hg
    · exact h2 x hx
  · unfold withA at hx hy
    by_cases hi : idxA l g.cat g.name < l.length
    · rw [if_pos hi] at hx hy
      obtain ⟨z, hz, hzg, _⟩ := idx_hit hi
      obtain ⟨z1, z2⟩ := isG_iff.1 hzg
      by_cases hj : idxA l g.cat g.name = j
      · rw [hj, List.getElem?_set_self (by omega)] at hx
        injection hx with hx
        subst hx
        rw [List.getElem?_set_ne (by omega)] at hy
        have := h3 _ k z y hz hy (by omega)
        unfold isG at this ⊢
        rw [← z1, ← z2]
        exact this
      · rw [List.getElem?_set_ne hj] at hx
        by_cases hk : idxA l g.cat g.name = k
        · rw [hk, List.getElem?_set_self (by omega)] at hy
          injection hy with hy
          subst hy
          exact idx_before hx (by omega)
        · rw [List.getElem?_set_ne hk] at hy
          exact h3 j k x y hx hy hjk
    · rw [if_neg hi] at hx hy
      have hlen : (l ++ [g]).length = l.length + 1 := by simp
      have hk := (List.getElem?_eq_some_iff.1 hy).1
      by_cases hkl : k < l.length
      · rw [List.getElem?_append_left hkl] at hy
        rw [List.getElem?_append_left (by omega)] at hx
        exact h3 j k x y hx hy hjk
      · obtain rfl : k = l.length := by omega
        rw [List.getElem?_append_left (by omega)] at hx
        simp at hy
        subst hy
        exact idx_before hx (by omega)
end Go.Proofs.Ytincnopaclmppaa
