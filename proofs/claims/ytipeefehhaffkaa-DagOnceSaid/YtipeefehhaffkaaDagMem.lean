/- Diagrams in memory: a block of two cells, and the row of branches that it leads to. -/
import Derived.Test.YtipeefehhaffkaaDagMark
import Derived.Test.YtipeefehhaffkaaDagLaws
import Derived.Test.YtipeefehhaffkaaGrew
import Derived.Test.YtipeefehhaffkaaNums
namespace Go.Proofs.Ytipeefehhaffkaa
set_option linter.unusedVariables false
open Go.RowKit

def Br.cells (b : Br) : List Value := [.int .i64 b.a, .int .i64 b.x, .int .i64 b.y, .int .i64 b.z]
def Br.val (b : Br) : Value := .agg #[.int .i64 b.a, .int .i64 b.x, .int .i64 b.y, .int .i64 b.z]
def BrP (vs : List Value) (b : Br) : Prop := vs = b.cells
theorem BrP.one (vs : List Value) (b : Br) (h : BrP vs b) : ∀ v ∈ vs, v.oneCell' = true := by
  unfold BrP at h
  subst h
  intro v hv
  simp [Br.cells] at hv
  rcases hv with rfl | rfl | rfl | rfl <;> rfl
/-- Numbers that are. -/
def Br.ok (b : Br) : Prop := InI b.a ∧ InI b.x ∧ InI b.y ∧ InI b.z
theorem BrOk.in_ {l : List Br} {i : Nat} {b : Br} (h : BrOk l i b) (hi : i ≤ 1000000) : b.ok := by
  obtain ⟨h1, h2, _⟩ := h
  have h20 := h2 0
  have h21 := h2 1
  have h22 := h2 2
  simp only [Br.to] at h20 h21 h22
  unfold Br.ok InI
  omega
/-- A diagram: where it lies, how many there may be, its row. -/
def DgAt (T : TypeId) (w : World) (base g : Nat) (most : Int) (A : Option Addr) (n c : Nat) (l : List Br) : Prop :=
  Ob w g T #[.int .i64 most, .slice A n c] ∧ Ow 4 BrP w base 30 A n c l ∧ (base ≤ g ∧ base ≤ w.heap.size) ∧ some g ≠ (Value.slice A n c).ownBlock ∧ (1 ≤ most ∧ most ≤ 2000 ∧ (n : Int) ≤ most) ∧ Dg l
/-- Its blocks. -/
def Ft (g : Nat) (v : Value) (b : Nat) : Prop := b = g ∨ some b = v.ownBlock
theorem own_keep {w w' : World} {base n size : Nat} {E : TypeId} {v : Value} {xs : List Value} (h : w.ownsRow base E size v n xs) (hk : ∀ b, some b = v.ownBlock → w'.heap[b]? = w.heap[b]?) : w'.ownsRow base E size v n xs := by
  obtain ⟨h1, h2⟩ := h
  refine ⟨h1, ?_⟩
  rcases h2 with h | ⟨g, cap, cur, e, hb, hh, h⟩
  · exact .inl h
  · refine .inr ⟨g, cap, cur, e, hb, ?_, h⟩
    rw [hk g (by rw [e]; rfl)]
    exact hh
section
variable {T : TypeId} {w w' w'' : World} {base g : Nat} {most : Int} {A : Option Addr} {n c : Nat} {l : List Br}
theorem DgAt.len (h : DgAt T w base g most A n c l) : l.length = n := h.2.1.len
theorem DgAt.dg (h : DgAt T w base g most A n c l) : Dg l := h.2.2.2.2.2
theorem DgAt.few (h : DgAt T w base g most A n c l) : n ≤ 2000 ∧ 1 ≤ most ∧ most ≤ 2000 ∧ (n : Int) ≤ most := by obtain ⟨_, _, _, _, h, _⟩ := h; omega
theorem DgAt.lt (h : DgAt T w base g most A n c l) : ∀ b, Ft g (.slice A n c) b → base ≤ b ∧ b < w.heap.size := fun b hb => by
  obtain ⟨h1, h2, h3, _⟩ := h
  rcases hb with rfl | hb
  · exact ⟨h3.1, h1.lt⟩
  · obtain ⟨raw, o1, _⟩ := h2
    exact o1.lt b hb.symm
theorem DgAt.keep (h : DgAt T w base g most A n c l) (hk : Kept (Ft g (.slice A n c)) w w') : DgAt T w' base g most A n c l := by
  have hlt := h.lt
  obtain ⟨h1, ⟨raw, o1, o2⟩, h3, h4, h5⟩ := h
  exact ⟨h1.keep (hk.2 g (.inl rfl) h1.lt), ⟨raw, own_keep o1 fun b hb => hk.2 b (.inr hb) (hlt b (.inr hb)).2, o2⟩, ⟨h3.1, Nat.le_trans h3.2 hk.1⟩, h4, h5⟩
theorem DgAt.below (h : DgAt T w base g most A n c l) (hb : Below w.heap.size w w') : DgAt T w' base g most A n c l := h.keep (Kept.all hb _)
theorem DgAt.glt (h : DgAt T w base g most A n c l) : g < w.heap.size := h.1.lt
theorem DgAt.cells (h : DgAt T w base g most A n c l) : w.cell? ⟨g, 0, none⟩ = some (.int .i64 most) ∧ w.cell? ⟨g, 1, none⟩ = some (.slice A n c) := ⟨h.1.cell 0, h.1.cell 1⟩
theorem DgAt.at_ (h : DgAt T w base g most A n c l) {k : Nat} (hk : k < n) : ∃ b o x, A = some ⟨b, o, none⟩ ∧ b < w.heap.size ∧ l[k]? = some x ∧ BrOk l k x ∧
    (w.cell? ⟨b, o + k * 4, none⟩ = some (.int .i64 x.a) ∧ w.cell? ⟨b, o + k * 4 + 1, none⟩ = some (.int .i64 x.x) ∧ w.cell? ⟨b, o + k * 4 + 2, none⟩ = some (.int .i64 x.y) ∧ w.cell? ⟨b, o + k * 4 + 3, none⟩ = some (.int .i64 x.z)) := by
  have hf := h.few
  obtain ⟨b, o, x, vs, e, _, hbl, hx, hl, hv, hp⟩ := (h.2.1.rw (R := fun _ => True) (by omega) (fun _ _ _ => trivial)).at_ hk
  unfold BrP at hp
  subst hp
  exact ⟨b, o, x, e, hbl, hx, h.dg.2 k x hx, hv 0 _ rfl, hv 1 _ rfl, hv 2 _ rfl, hv 3 _ rfl⟩
end

/-- What a call that makes a branch turns: the diagram's blocks, and what is new. -/
def Mkd (F F' : Nat → Prop) (w w' : World) : Prop := (w'.os = w.os ∧ w'.tape = w.tape ∧ w'.output = w.output) ∧ w.heap.size ≤ w'.heap.size ∧ (∀ k, k < w.heap.size → ¬ F k → w'.heap[k]? = w.heap[k]?) ∧ ∀ k, F' k → F k ∨ w.heap.size ≤ k
section
variable {F F' F'' : Nat → Prop} {w w' w'' : World}
theorem Mkd.of_below (h : Below w.heap.size w w') : Mkd F F w w' := ⟨⟨h.os, h.tape, h.output⟩, h.size, fun k hk _ => h.block k hk, fun k h => .inl h⟩
theorem Mkd.refl : Mkd F F w w := Mkd.of_below (Below.refl _ _)
theorem Mkd.trans (h : Mkd F F' w w') (k : Mkd F' F'' w' w'') : Mkd F F'' w w'' :=
  ⟨⟨k.1.1.trans h.1.1, k.1.2.1.trans h.1.2.1, k.1.2.2.trans h.1.2.2⟩, Nat.le_trans h.2.1 k.2.1, fun i hi hn => (k.2.2.1 i (Nat.lt_of_lt_of_le hi h.2.1) (fun e => (h.2.2.2 i e).elim hn (fun _ => by omega))).trans (h.2.2.1 i hi hn),
    fun i hi => (k.2.2.2 i hi).elim (h.2.2.2 i) (fun e => .inr (Nat.le_trans h.2.1 e))⟩
theorem Mkd.kept {R : Nat → Prop} (h : Mkd F F' w w') (hR : ∀ b, R b → b < w.heap.size → ¬ F b) : Kept R w w' := ⟨h.2.1, fun b hb hl => h.2.2.1 b hl (hR b hb hl)⟩
theorem Mkd.below {B : Nat} (h : Mkd F F' w w') (hB : B ≤ w.heap.size) (hF : ∀ b, F b → B ≤ b) : Below B w w' :=
  ⟨h.1.1, h.1.2.1, h.1.2.2, h.2.1, fun k hk => h.2.2.1 k (by omega) (fun e => by have := hF k e; omega)⟩
theorem Mkd.apart {G : Nat → Prop} (h : Mkd F F' w w') (hG : ∀ b, G b → b < w.heap.size) (hd : ∀ b, F b → ¬ G b) : ∀ b, F' b → ¬ G b := fun b hb hg =>
  (h.2.2.2 b hb).elim (fun e => hd b e hg) (fun e => by have := hG b hg; omega)
end
theorem brinfo : (Try.prog.info? 30).map (fun i => (i.zero, i.size, i.bytes)) = some (some (.agg #[.int .i64 0, .int .i64 0, .int .i64 0, .int .i64 0]), 4, 32) := by kernel_rfl
theorem ix_x (x y z : Int) (w : World) : (Instr.index 28 (.agg #[.int .i64 x, .int .i64 y, .int .i64 z]) (.int .i64 0)).run Try.prog w = .ok (.int .i64 x) w := by kernel_rfl
theorem ix_y (x y z : Int) (w : World) : (Instr.index 28 (.agg #[.int .i64 x, .int .i64 y, .int .i64 z]) (.int .i64 1)).run Try.prog w = .ok (.int .i64 y) w := by kernel_rfl
theorem ix_z (x y z : Int) (w : World) : (Instr.index 28 (.agg #[.int .i64 x, .int .i64 y, .int .i64 z]) (.int .i64 2)).run Try.prog w = .ok (.int .i64 z) w := by kernel_rfl
theorem br_ret2 {fn : Func} {p u : Tmp} {tmps : Array Value} {w : World} {g : Nat} {a x y z : Int} {v : Value} (h : fn.results = #[.cell p 30, .tmp u]) (hp : tmps.getD p undef = .pointer (some ⟨g, 0, none⟩)) (hu : tmps.getD u undef = v) (hg : Ob w g 30 #[.int .i64 a, .int .i64 x, .int .i64 y, .int .i64 z]) :
    (results fn tmps).run Try.prog w = .ok (.tuple #[.agg #[.int .i64 a, .int .i64 x, .int .i64 y, .int .i64 z], v]) w := by
  rw [results_cell_tmp h, hp, hu]
  have hl := run_loadVar_row (P := Try.prog) w g 30 _ _ (0, 0) _ hg Try.underlying30 rfl (by kernel_rfl)
  simp [asAddr, hl, Result.andThen]
theorem br_ret {fn : Func} {p : Tmp} {tmps : Array Value} {w : World} {g : Nat} {a x y z : Int} (h : fn.results = #[.cell p 30]) (hp : tmps.getD p undef = .pointer (some ⟨g, 0, none⟩)) (hg : Ob w g 30 #[.int .i64 a, .int .i64 x, .int .i64 y, .int .i64 z]) :
    (results fn tmps).run Try.prog w = .ok (.agg #[.int .i64 a, .int .i64 x, .int .i64 y, .int .i64 z]) w :=
  results_cell_row h tmps w g _ _ (0, 0) _ hp hg Try.underlying30 rfl (by kernel_rfl)
/-- One more branch. -/
theorem push_br {w : World} {base n c : Nat} {A : Option Addr} {l : List Br} (x : Br) (h : Ow 4 BrP w base 30 A n c l) (hn : n < 1000000) (hbase : base ≤ w.heap.size) :
    ∃ A' c' w', (Builtin.append_ #[39, 39] 39 #[.slice A n c, .slice (some ⟨w.heap.size, 0, none⟩) 1 1]).run Try.prog (w.alloc (.cells #[.int .i64 x.a, .int .i64 x.x, .int .i64 x.y, .int .i64 x.z] 30)) = .ok (.slice A' (n + 1) c') w' ∧
      Ow 4 BrP w' base 30 A' (n + 1) c' (l ++ [x]) ∧ Grew (.slice A n c) (.slice A' (n + 1) c') w w' := by
  obtain ⟨i, hi, hz, hs, hb⟩ := info_of brinfo
  have a1 : Below w.heap.size w (w.alloc (.cells x.cells.toArray 30)) := (Below.refl _ _).alloc (Nat.le_refl _) _
  have hlit : Rw 4 BrP (w.alloc (.cells x.cells.toArray 30)) (fun _ => True) (some ⟨w.heap.size, 0, none⟩) 1 1 [x] := by
    have := Rw.lit (k := 4) (P := BrP) (R := fun _ => True) w 30 Br.cells [x] (n := 1) rfl (by omega) trivial (fun x _ => (rfl : x.cells.length = 4)) (fun _ _ => rfl)
    simpa using this
  obtain ⟨A', c', w', hrun, hown, hbel, hg, hob⟩ := Ow.app (ty := 39) Try.underlying39 hi hz hs hb rfl (by omega) (by omega) (h.below a1) hlit BrP.one (by omega) (Nat.le_trans hbase a1.size)
  refine ⟨A', c', w', hrun, hown, (Grew.of_below a1 (.slice A n c)).trans ⟨hg, ?_⟩⟩
  rcases hob with e | e
  · exact .inl e
  · exact .inr ⟨_, e, Nat.le_refl _⟩
/-- The diagram behind an append and the store of the row. -/
theorem DgAt.pushed {T : TypeId} {w w1 : World} {base g : Nat} {most : Int} {A A' : Option Addr} {n c c' : Nat} {l : List Br} {x : Br} (h : DgAt T w base g most A n c l) (ho : Ow 4 BrP w1 base 30 A' (n + 1) c' (l ++ [x])) (hg : Grew (.slice A n c) (.slice A' (n + 1) c') w w1) (hm : (n : Int) < most) (hd : Dg (l ++ [x])) :
    DgAt T (w1.setCell ⟨g, 1, none⟩ (.slice A' (n + 1) c')) base g most A' (n + 1) c' (l ++ [x]) ∧ Mkd (Ft g (.slice A n c)) (Ft g (.slice A' (n + 1) c')) w (w1.setCell ⟨g, 1, none⟩ (.slice A' (n + 1) c')) := by
  obtain ⟨h1, h2, h3, h4, h5, h6⟩ := h
  have hne := hg.other h1.lt h4
  have o1 := hg.ob h1 h4
  have hs : (w1.setCell ⟨g, 1, none⟩ (.slice A' (n + 1) c')).heap.size = w1.heap.size := by simp [World.setCell]
  obtain ⟨raw, r1, r2⟩ := ho
  refine ⟨⟨?_, ⟨raw, own_keep r1 fun b hb => Below.heap_setCell w1 _ _ b (by show b ≠ g; rintro rfl; exact hne hb), r2⟩, ⟨h3.1, by rw [hs]; exact Nat.le_trans h3.2 hg.size⟩, hne, ⟨h5.1, h5.2.1, by omega⟩, hd⟩, ?_⟩
  · have := o1.put 1 (.slice A' (n + 1) c')
    simpa using this
  · refine ⟨⟨hg.1.os, hg.1.tape, hg.1.output⟩, by rw [hs]; exact hg.size, fun k hk hf => ?_, fun k hk => ?_⟩
    · rw [Below.heap_setCell w1 _ _ k (by show k ≠ g; rintro rfl; exact hf (.inl rfl))]
      exact hg.1.block k hk fun e => hf (.inr e)
    · rcases hk with rfl | hk
      · exact .inl (.inl rfl)
      · rcases hg.2 with e | ⟨b, e, hb⟩
        · exact .inl (.inr (by rw [← e]; exact hk))
        · rw [e] at hk; injection hk with hk; exact .inr (by omega)
end Go.Proofs.Ytipeefehhaffkaa
