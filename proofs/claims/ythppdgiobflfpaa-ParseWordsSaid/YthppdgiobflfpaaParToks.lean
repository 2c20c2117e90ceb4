/- The parser, plainly: texts as rows of tokens, places aside. -/
import Derived.Test.YthppdgiobflfpaaParBlanks
import Derived.Test.YthppdgiobflfpaaNineA
namespace Go.Proofs.Ythppdgiobflfpaa
set_option linter.unusedVariables false

/-- The tokens of a text, places aside. -/
def Zx (l : List UInt8) (zs : List Tk) : Prop := ∃ ts, lexB l 0 = .ok ts ∧ ts.map Tk.z = zs
def tEnd : Tk := ⟨7, 0, 0, ⟨#[]⟩⟩
def tName (s : ByteArray) : Tk := ⟨1, 0, 0, s⟩
def tMark (c : UInt8) : Tk := ⟨6, 0, 0, ⟨#[c]⟩⟩
theorem Zx.nil : Zx [] [tEnd] := ⟨_, lexB_nil 0, rfl⟩
theorem map_sh (d : Nat) (ts : List Tk) : (ts.map (shT d)).map Tk.z = ts.map Tk.z := by simp [Tk.z, shT]
theorem Zx.at_ {l : List UInt8} {zs : List Tk} (h : Zx l zs) (p : Nat) : ∃ ts, lexB l p = .ok ts ∧ ts.map Tk.z = zs := by
  obtain ⟨ts, h1, h2⟩ := h
  exact ⟨ts.map (shT p), by rw [lexB_from, h1]; rfl, by rw [map_sh, h2]⟩
theorem Zx.blank {c : UInt8} {r : List UInt8} {zs : List Tk} (hc : blk c = true) (h : Zx r zs) : Zx (c :: r) zs := by
  obtain ⟨ts, h1, h2⟩ := h.at_ (0 + 1)
  exact ⟨ts, by rw [lexB_blank hc, h1], h2⟩
theorem Zx.sp {r : List UInt8} {zs : List Tk} (h : Zx r zs) : Zx (32 :: r) zs := h.blank (by decide)
theorem Zx.tok {c : UInt8} {r : List UInt8} {zs : List Tk} {k n : Int} {s : List UInt8} {m : Nat} (hc : blk c = false) (ht : tokB (c :: r) = some (k, n, s, m)) (h : Zx ((c :: r).drop m) zs) : Zx (c :: r) (⟨k, 0, n, ⟨s.toArray⟩⟩ :: zs) := by
  obtain ⟨ts, h1, h2⟩ := h.at_ (0 + m)
  refine ⟨_, by rw [lexB_tok hc ht, h1]; rfl, ?_⟩
  rw [← h2]
  rfl
theorem lett_blk {a : UInt8} (h : lett a = true) : blk a = false := by
  unfold lett at h
  unfold blk
  simp at h ⊢
  omega
theorem take_name {l : List UInt8} (hl : ∀ b ∈ l, inm b = true) {c : UInt8} (hc : inm c = false) (r : List UInt8) : (l ++ c :: r).takeWhile inm = l := by
  induction l with
  | nil => simp [hc]
  | cons a l ih =>
    rw [List.cons_append, List.takeWhile_cons, if_pos (hl a (by simp)), ih (fun b hb => hl b (by simp [hb]))]
theorem Named.inm {l : List UInt8} (h : Named l) : ∀ b ∈ l, inm b = true := by
  intro b hb
  obtain ⟨j, hj, rfl⟩ := List.mem_iff_getElem.1 hb
  have := h.2 j hj
  unfold okAt at this
  unfold Go.Proofs.Ythppdgiobflfpaa.inm
  simp at this ⊢
  rcases this with h | h
  · exact .inl h
  · exact .inr h.2
theorem Zx.name {nm : List UInt8} (hn : Named nm) {c : UInt8} (hc : inm c = false) {r : List UInt8} {zs : List Tk} (h : Zx (c :: r) zs) : Zx (nm ++ c :: r) (tName ⟨nm.toArray⟩ :: zs) := by
  have hi := hn.inm
  have ht := take_name hi hc r
  cases nm with
  | nil => exact absurd hn.1.1 (by simp)
  | cons a l =>
    have ha : lett a = true := by
      have := hn.2 0 (by simp)
      unfold okAt at this
      simpa using this
    refine Zx.tok (k := 1) (n := 0) (s := a :: l) (m := (a :: l).length) (lett_blk ha) ?_ ?_
    · show tokB ((a :: l) ++ c :: r) = _
      rw [List.cons_append, tokB, if_pos ha, ← List.cons_append, ht, if_pos hn]
    · show Zx (((a :: l) ++ c :: r).drop (a :: l).length) zs
      rw [List.drop_left]
      exact h
theorem Zx.mark {c : UInt8} (hb : blk c = false) (ht : ∀ r, tokB (c :: r) = some (6, 0, [c], 1)) {r : List UInt8} {zs : List Tk} (h : Zx r zs) : Zx (c :: r) (tMark c :: zs) :=
  Zx.tok (k := 6) (n := 0) (s := [c]) (m := 1) hb (ht r) h
theorem markT (c : UInt8) (h : lett c = false ∧ dgt c = false ∧ c ≠ 45 ∧ c ≠ 64 ∧ c ≠ 35 ∧ c ≠ 34 ∧ mrk c = true) : ∀ r, tokB (c :: r) = some (6, 0, [c], 1) := by
  intro r
  obtain ⟨h1, h2, h3, h4, h5, h6, h7⟩ := h
  rw [tokB, if_neg (by rw [h1]; simp), if_neg (by rw [h2]; simp), if_neg h3, if_neg h4, if_neg h5, if_neg h6, if_pos h7]
theorem Zx.m123 {r : List UInt8} {zs : List Tk} (h : Zx r zs) : Zx (123 :: r) (tMark 123 :: zs) := h.mark (by decide) (markT _ (by decide))
theorem Zx.m125 {r : List UInt8} {zs : List Tk} (h : Zx r zs) : Zx (125 :: r) (tMark 125 :: zs) := h.mark (by decide) (markT _ (by decide))
theorem Zx.m40 {r : List UInt8} {zs : List Tk} (h : Zx r zs) : Zx (40 :: r) (tMark 40 :: zs) := h.mark (by decide) (markT _ (by decide))
theorem Zx.m41 {r : List UInt8} {zs : List Tk} (h : Zx r zs) : Zx (41 :: r) (tMark 41 :: zs) := h.mark (by decide) (markT _ (by decide))
theorem Zx.m46 {r : List UInt8} {zs : List Tk} (h : Zx r zs) : Zx (46 :: r) (tMark 46 :: zs) := h.mark (by decide) (markT _ (by decide))
theorem Zx.m44 {r : List UInt8} {zs : List Tk} (h : Zx r zs) : Zx (44 :: r) (tMark 44 :: zs) := h.mark (by decide) (markT _ (by decide))
theorem Zx.m59 {r : List UInt8} {zs : List Tk} (h : Zx r zs) : Zx (59 :: r) (tMark 59 :: zs) := h.mark (by decide) (markT _ (by decide))
theorem Zx.m61 {r : List UInt8} {zs : List Tk} (h : Zx r zs) : Zx (61 :: r) (tMark 61 :: zs) := h.mark (by decide) (markT _ (by decide))
theorem Zx.m60 {r : List UInt8} {zs : List Tk} (h : Zx r zs) : Zx (60 :: r) (tMark 60 :: zs) := h.mark (by decide) (markT _ (by decide))
theorem Zx.m62 {r : List UInt8} {zs : List Tk} (h : Zx r zs) : Zx (62 :: r) (tMark 62 :: zs) := h.mark (by decide) (markT _ (by decide))
theorem Zx.m33 {r : List UInt8} {zs : List Tk} (h : Zx r zs) : Zx (33 :: r) (tMark 33 :: zs) := h.mark (by decide) (markT _ (by decide))
/-- What is read, of a text whose tokens are known. -/
theorem Zx.read {s : ByteArray} {zs : List Tk} {p : Pol} {z : Pz} (hs : s.size ≤ 4096) (h : Zx s.data.toList zs) (hp : polR 5 ⟨zs, 0, 0, 0⟩ = (p, z)) (he : (endR z).err = 0) (hr : rightE p = 0) : parseR s = (p, 0, 0) := by
  obtain ⟨ts, h1, h2⟩ := h
  have hz : zs.map Tk.z = zs := by rw [← h2, List.map_map]; rfl
  have e := read_same (h2.trans hz.symm)
  rw [hp] at e
  exact parseR_of hs h1 e.1 (e.2.trans he) hr
end Go.Proofs.Ythppdgiobflfpaa
