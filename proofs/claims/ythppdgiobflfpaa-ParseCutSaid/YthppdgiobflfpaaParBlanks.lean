/- ParseBlanks, plainly: blanks ahead and behind change nothing. -/
import Derived.Test.YthppdgiobflfpaaParStrip
namespace Go.Proofs.Ythppdgiobflfpaa
set_option linter.unusedVariables false

/-- What is read without an error. -/
theorem parseR_fine {s : ByteArray} {p : Pol} {i : Int} (hs : s.size ≤ 4096) (h : parseR s = (p, 0, i)) : ∃ ts, lexB s.data.toList 0 = .ok ts ∧ (polR 5 ⟨ts, 0, 0, 0⟩).1 = p ∧ (endR (polR 5 ⟨ts, 0, 0, 0⟩).2).err = 0 ∧ rightE p = 0 ∧ i = 0 := by
  cases hl : lexB s.data.toList 0 with
  | error q => rw [parseR_bad hs hl] at h; simp at h
  | ok ts =>
    obtain ⟨q, s1, hq⟩ := pair_eq (polR 5 ⟨ts, 0, 0, 0⟩)
    obtain ⟨z, hz⟩ : ∃ z, endR s1 = z := ⟨_, rfl⟩
    rw [parseR_ok hs hl hq hz] at h
    split at h
    · rename_i he
      split at h
      · rename_i hr
        simp only [Prod.mk.injEq] at h
        obtain ⟨rfl, _, hi⟩ := h
        exact ⟨ts, rfl, by rw [hq], by rw [hq, hz]; exact he, hr, hi.symm⟩
      · simp at h
    · rename_i he
      simp only [Prod.mk.injEq] at h
      exact absurd h.2.1 he
theorem parseR_of {s : ByteArray} {ts : List Tk} {p : Pol} (hs : s.size ≤ 4096) (hl : lexB s.data.toList 0 = .ok ts) (hp : (polR 5 ⟨ts, 0, 0, 0⟩).1 = p) (he : (endR (polR 5 ⟨ts, 0, 0, 0⟩).2).err = 0) (hr : rightE p = 0) : parseR s = (p, 0, 0) := by
  obtain ⟨q, s1, hq⟩ := pair_eq (polR 5 ⟨ts, 0, 0, 0⟩)
  obtain ⟨z, hz⟩ : ∃ z, endR s1 = z := ⟨_, rfl⟩
  rw [hq] at hp he
  simp only at hp
  subst hp
  change (endR s1).err = 0 at he
  rw [hz] at he
  rw [parseR_ok hs hl hq hz, if_pos he, if_pos hr]
theorem z_sh (d : Nat) (t : Tk) : (shT d t).z = t.z := rfl
theorem lexB_blanks : ∀ (g : List UInt8) (p : Nat), (∀ c ∈ g, blk c = true) → lexB g p = .ok [⟨7, ((p + g.length : Nat) : Int), 0, ⟨#[]⟩⟩] := by
  intro g p hg
  have := lexB_ahead g [] p hg
  rw [List.append_nil] at this
  rw [this, lexB_nil]
/-- .. and what stands there is the same but for its places. -/
theorem blanks_toks {g a : List UInt8} {ts : List Tk} (hg : ∀ c ∈ g, blk c = true) (h : lexB a 0 = .ok ts) : ∃ us, lexB ((10 :: g) ++ (a ++ (10 :: g))) 0 = .ok us ∧ us.map Tk.z = ts.map Tk.z := by
  have hg' : ∀ c ∈ (10 :: g), blk c = true := by
    intro c hc
    rcases List.mem_cons.1 hc with rfl | hc
    · decide
    · exact hg c hc
  rw [lexB_ahead _ _ _ hg', lexB_from, lexB_join (.inr rfl) h, lexB_blanks g _ hg]
  refine ⟨_, rfl, ?_⟩
  obtain ⟨us, e, _⟩ := lexB_ne _ _ 0 ts (Nat.le_refl _) h
  rw [e]
  simp [Tk.z, shT]
theorem blanks_read {s t : ByteArray} {p : Pol} {i : Int} {g : List UInt8} (hs : s.size ≤ 600) (h : parseR s = (p, 0, i)) (hg : ∀ c ∈ g, blk c = true) (hgl : g.length ≤ 10) (ht : t.data.toList = (10 :: g) ++ (s.data.toList ++ (10 :: g))) : parseR t = (p, 0, 0) := by
  obtain ⟨ts, hl, hp, he, hr, _⟩ := parseR_fine (by omega) h
  obtain ⟨us, hu, hz⟩ := blanks_toks hg hl
  have e := read_same hz
  have hsz : t.size = (10 :: g).length + (s.size + (10 :: g).length) := by
    have : t.size = t.data.toList.length := rfl
    rw [this, ht, List.length_append, List.length_append]
    rfl
  refine parseR_of (by simp only [List.length_cons] at hsz; omega) (by rw [ht]; exact hu) (e.1.trans hp) (e.2.trans he) hr
end Go.Proofs.Ythppdgiobflfpaa
