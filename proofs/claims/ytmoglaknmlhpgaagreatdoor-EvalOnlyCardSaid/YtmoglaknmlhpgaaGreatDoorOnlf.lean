/- Several texts in one: EvalOnlyM, LaidV, ShowTab, VQuoteV, VDigitsM, VShowV, ShowAttr. -/
import Derived.Test.YtmoglaknmlhpgaaGreatDoorOnlG
import Derived.Test.YtmoglaknmlhpgaaGreatDoorOnlJ
import Derived.Test.YtmoglaknmlhpgaaGreatDoorOnle
import Derived.Test.YtmoglaknmlhpgaaGreatDoorOnlb
import Derived.Test.YtmoglaknmlhpgaaGreatDoorOnlA
import Derived.Test.YtmoglaknmlhpgaaGreatDoorShelf
import Derived.Lib.LaidTab
import Derived.Lib.AppendIntMem
import Derived.LaidMore
import Derived.Test.YtmoglaknmlhpgaaGreatDoorOnld
import Derived.Test.YtmoglaknmlhpgaaGreatDoorOnlW
import Derived.Test.YtmoglaknmlhpgaaGreatDoorOnlH
import Derived.Deep.RegionLaw
import Derived.Laws.OwnMore
import Derived.Lib.ItoaLen
import Derived.Test.YtmoglaknmlhpgaaGreatDoorOnlC
/- EvalOnly, plainly: what a right policy names stands in its text; one that isn't named changes nothing. -/
namespace Go.Proofs.YtmoglaknmlhpgaaGreatDoor
set_option linter.unusedVariables false

theorem zfirst_all {α : Type} {f : α → Int} : ∀ {l : List α}, firstE f l = 0 → ∀ x ∈ l, f x = 0
 | [], _, x, hx => by simp at hx
 | y :: l, h, x, hx => by
  simp only [firstE] at h
  split at h
  ·rename_i h0; exact absurd h h0
  ·rename_i h0
   have h0 : f y = 0 := by simpa using h0
   rcases List.mem_cons.1 hx with rfl | hx
   ·exact h0
   ·exact zfirst_all h x hx
theorem zjoin_tail {sep x : List UInt8} : ∀ {l : List (List UInt8)}, x ∈ l → x <:+: Lib.joinTail sep l
 | y :: l, h => by
  have e : Lib.joinTail sep (y :: l) = sep ++ y ++ Lib.joinTail sep l := by simp [Lib.joinTail]
  rw [e]
  rcases List.mem_cons.1 h with rfl | h
  ·exact ⟨sep, Lib.joinTail sep l, rfl⟩
  ·exact (zjoin_tail h).trans (List.suffix_append _ _).isInfix
theorem zjoin {sep x : List UInt8} : ∀ {l : List (List UInt8)}, x ∈ l → x <:+: Lib.join l sep
 | y :: l, h => by
  rw [Lib.join_cons]
  rcases List.mem_cons.1 h with rfl | h
  ·exact (List.prefix_append _ _).isInfix
  ·exact (zjoin_tail h).trans (List.suffix_append _ _).isInfix
theorem zcons {x l : List UInt8} {a : UInt8} (h : x <:+: l) : x <:+: a :: l := h.trans (List.suffix_cons a l).isInfix
theorem zapp {x l m : List UInt8} (h : x <:+: l) : x <:+: m ++ l := h.trans (List.suffix_append _ _).isInfix
theorem zapl {x l m : List UInt8} (h : x <:+: l) : x <:+: l ++ m := h.trans (List.prefix_append _ _).isInfix

theorem zattr {a : Atr} (h : attrB a = true) : bl a.name <:+: attrS a := by
 unfold attrS attrT
 rw [if_pos h]
 exact zapp (zcons (zapl List.infix_rfl))
theorem zmat {t : Tgt} (h : tgE t = 0) {o : List (List Mat)} (ho : o ∈ t) {a : List Mat} (ha : a ∈ o) {m : Mat} (hm : m ∈ a) : bl m.a.name <:+: tgT t := by
 have e1 : anyE o = 0 := by
  unfold tgE at h
  split at h
  ·cases h
  ·exact zfirst_all h o ho
 have e2 : allE a = 0 := by
  unfold anyE at e1
  split at e1
  ·rename_i c; exact absurd e1 c
  ·exact zfirst_all e1 a ha
 have e3 : matE m = 0 := by
  unfold allE at e2
  split at e2
  ·rename_i c; exact absurd e2 c
  ·exact zfirst_all e2 m hm
 have e4 : attrB m.a = true := by
  unfold matE at e3
  split at e3
  ·rename_i c; exact c.1
  ·cases e3
 have k1 : bl m.a.name <:+: matT m := zapl (zattr e4)
 have k2 : matT m <:+: allT a := zjoin (List.mem_map_of_mem hm)
 have k3 : allT a <:+: anyT o := zcons (zapl (zjoin (List.mem_map_of_mem ha)))
 have k4 : anyT o <:+: tgT t := zjoin (List.mem_map_of_mem ho)
 exact k1.trans (k2.trans (k3.trans k4))
theorem zstep {st : List (List UInt8)} {x : List UInt8} (n : Nod) (h : ∃ s ∈ st, x <:+: s) : ∃ s ∈ stepT st n, x <:+: s := by
 obtain ⟨s, hs, hx⟩ := h
 unfold stepT
 rw [← List.take_append_drop (st.length - takesT n.op) st, List.mem_append] at hs
 rcases hs with hs | hs
 ·exact ⟨s, List.mem_append.2 (.inl hs), hx⟩
 ·refine ⟨_, List.mem_append.2 (.inr (List.mem_singleton.2 rfl)), ?_⟩
  by_cases h12 : n.op = 1 ∨ n.op = 2
  ·exfalso
   have e : takesT n.op = 0 := by unfold takesT; rw [if_pos h12]
   rw [e, Nat.sub_zero, List.drop_length] at hs
   simp at hs
  ·unfold nodeT
   rw [if_neg (fun c => h12 (.inl c)), if_neg (fun c => h12 (.inr c))]
   exact hx.trans (zcons (zapp (zcons (zapl (zjoin hs)))))
theorem zsteps {x : List UInt8} : ∀ (l : List Nod) {st : List (List UInt8)}, (∃ s ∈ st, x <:+: s) → ∃ s ∈ l.foldl stepT st, x <:+: s
 | [], st, h => h
 | n :: l, st, h => zsteps l (zstep n h)
theorem zstack {n : Nod} (h2 : n.op = 2) : ∀ (l : List Nod) (st : List (List UInt8)), n ∈ l → ∃ s ∈ l.foldl stepT st, attrS n.a <:+: s
 | m :: l, st, h => by
  rcases List.mem_cons.1 h with rfl | h
  ·refine zsteps l ⟨nodeT n (st.drop (st.length - takesT n.op)), ?_, ?_⟩
   ·unfold stepT; simp
   ·unfold nodeT
    rw [if_neg (by omega), if_pos h2]
    exact List.infix_rfl
  ·exact zstack h2 l _ h
theorem zexpr {l : List Nod} (h : exprE l = 0) {n : Nod} (hn : n ∈ l) (h2 : n.op = 2) : bl n.a.name <:+: exprS l := by
 have hne : l ≠ [] := List.ne_nil_of_mem hn
 have ha : attrB n.a = true := by
  obtain ⟨k, hk, rfl⟩ := List.getElem_of_mem hn
  obtain ⟨st, _, e⟩ := run_some h k
  obtain ⟨st', e⟩ := e _ (List.getElem?_eq_getElem hk)
  unfold stepX at e
  split at e
  ·rename_i c; exact (holds_att c h2).1
  ·cases e
 obtain ⟨s, hs, hx⟩ := zstack h2 l [] hn
 have e : l.foldl stepT [] = [exprT l] := stack_end h hne
 rw [e, List.mem_singleton] at hs
 subst hs
 unfold exprS
 rw [if_pos ⟨hne, h⟩]
 exact (zattr ha).trans hx

theorem zmet {g : Giv} {t : Tgt} (h : ∀ o ∈ t, ∀ a ∈ o, ∀ m ∈ a, m.a.name ≠ g.name) (ask : List Giv) : metI (withA ask g) t = metI ask t :=
 least_same fun o ho => most_same fun a ha => least_same fun m hm => by
  have hne : ¬ (m.a.cat = g.cat ∧ m.a.name = g.name) := fun c => h o ho a ha m hm c.2
  unfold matchI
  rw [with_getE hne, with_getR hne]
theorem zval {g : Giv} {l : List Nod} (h : ∀ n ∈ l, n.op = 2 → n.a.name ≠ g.name) (ask : List Giv) : valP (withA ask g) l = valP ask l := val_same fun x hx h2 => by
 have hne : ¬ (x.a.cat = g.cat ∧ x.a.name = g.name) := fun c => h x hx h2 c.2
 exact ⟨with_getR hne, with_getE hne⟩
theorem zcond {ask ask' : List Giv} {l : List Nod} (h : valP ask l = valP ask' l) : condP ask l = condP ask' l := by
 unfold condP
 rw [h]
theorem ztg_words {z : List UInt8} {t : Tgt} (h : ∀ x ∈ tgW t, ¬ z <:+: x) (ht : t ≠ []) : ¬ z <:+: tgT t := by
 unfold tgW at h
 rw [if_neg ht] at h
 exact h _ (by simp)
theorem zrule {z : List UInt8} {g : Giv} (hz : bl g.name = z) (ask : List Giv) {r : Rul} {s s' : Seen} (h : ruleS r s = (0, s')) (hf : ¬ z <:+: rulT r) : ruleV (withA ask g) r = ruleV ask r := by
 obtain ⟨h1, h2, _⟩ := rule_parts h
 have hw : ∀ x ∈ rulW r, ¬ z <:+: x := fun x hx c => hf (c.trans (zapl (zjoin hx)))
 have e1 : metI (withA ask g) r.tg = metI ask r.tg := zmet (fun o ho a ha m hm c => by
  refine ztg_words (z := z) (t := r.tg) (fun x hx => hw x (by unfold rulW; simp [hx])) (List.ne_nil_of_mem ho) ?_
  rw [← hz, ← c]
  exact zmat h1 ho ha hm) ask
 have e2 : condP (withA ask g) r.cond = condP ask r.cond := zcond (zval (fun n hn h2' c => by
  refine hw (exprS r.cond) ?_ ?_
  ·unfold rulW condW
   rw [if_neg (List.ne_nil_of_mem hn)]
   simp
  ·rw [← hz, ← c]
   exact zexpr h2 hn h2') ask)
 unfold ruleV
 rw [e1, e2]
theorem only_deep {z : List UInt8} {g : Giv} (hz : bl g.name = z) (ask : List Giv) : ∀ (d : Nat) {p : Pol} {s s' : Seen}, polS d p s = (0, s') → (∀ x ∈ polW d p, ¬ z <:+: x) → evV (withA ask g) p = evV ask p
 | 0, p, s, s', h, _ => by simp [polS] at h
 | d + 1, p, s, s', h, hw => by
  obtain ⟨_, h1, h3, h4, h5, s1, s2, h6, h7⟩ := polE_parts h
  rw [polW] at hw
  have e1 : metI (withA ask g) p.tg = metI ask p.tg := zmet (fun o ho a ha m hm c => by
   refine ztg_words (z := z) (t := p.tg) (fun x hx => hw x (by simp [hx])) (List.ne_nil_of_mem ho) ?_
   rw [← hz, ← c]
   exact zmat h1 ho ha hm) ask
  have e2 : p.rules.map (ruleV (withA ask g)) = p.rules.map (ruleV ask) := List.map_congr_left fun r hr => by
   obtain ⟨a, b, e⟩ := firsts_all h6 r hr
   exact zrule hz ask e (hw _ (by
    have := List.mem_map_of_mem (f := rulT) hr
    simp only [List.mem_cons, List.mem_append]
    exact .inr (.inr (.inr (.inl (.inl (.inl (.inr this))))))))
  have e3 : p.kids.map (evV (withA ask g)) = p.kids.map (evV ask) := List.map_congr_left fun k hk => by
   obtain ⟨a, b, e⟩ := firsts_all h7 k hk
   refine only_deep hz ask d e fun x hx => hw x ?_
   have : x ∈ (p.kids.map (polW d)).flatten := List.mem_flatten.2 ⟨_, List.mem_map_of_mem hk, hx⟩
   simp only [List.mem_cons, List.mem_append]
   exact .inr (.inr (.inr (.inl (.inl (.inr this)))))
  rw [decV_eq, decV_eq]
  unfold partsV
  rw [e1, e2, e3]
theorem only_same {g : Giv} (ask : List Giv) {p : Pol} (h : rightE p = 0) (hf : ¬ bl g.name <:+: showP p) : evV (withA ask g) p = evV ask p := by
 have e0 : polS 4 p ⟨[], 0⟩ = (0, (polS 4 p ⟨[], 0⟩).2) := by unfold rightE at h; rw [← h]
 refine only_deep rfl ask 4 e0 fun x hx c => hf ?_
 unfold showP polT
 rw [if_pos h]
 exact c.trans (zjoin hx)
def NoTo (z l : List UInt8) (k : Nat) : Prop := ∀ i, i < k → (l.drop i).take z.length ≠ z
theorem NoTo.zero (z l : List UInt8) : NoTo z l 0 := fun _ h => absurd h (Nat.not_lt_zero _)
theorem NoTo.step {z l : List UInt8} {k : Nat} (h : NoTo z l k) (h2 : (l.drop k).take z.length ≠ z) : NoTo z l (k + 1) := fun i hi => by
 by_cases e : i = k
 ·subst e; exact h2
 ·exact h i (by omega)
theorem NoTo.all {z l : List UInt8} {k : Nat} (h : NoTo z l k) (hk : l.length < k + z.length) : ¬ z <:+: l := by
 rintro ⟨a, b, rfl⟩
 simp only [List.length_append] at hk
 refine h a.length (by omega) ?_
 rw [List.append_assoc, List.drop_left, List.take_left]
end Go.Proofs.YtmoglaknmlhpgaaGreatDoor
/- What the rows' condition gives the walks: the library's table of powers of ten; and strconv's two contracts under it. -/
namespace Go.Proofs.YtmoglaknmlhpgaaGreatDoor
open Go.RowKit

def Tab (w : World) : Prop := Lib.TabIs Tryz.prog w "internal/strconv.uint64pow10" .u64 Lib.pow10Tab
theorem Tab.then_ {w w' : World} (h : Tab w) (hb : Below w.heap.size w w') : Tab w' := Lib.tabBelow_of_tabIs h w' hb
theorem Tab.drewN {w : World} (h : Tab w) (k : Nat) : Tab (w.drewN k) := h

theorem below_grow (w : World) (k : Nat) (os : Array Obj) : Below w.heap.size w (Sort.grow (w.drewN k) os) := by
 refine ⟨rfl, rfl, rfl, ?_, fun i hi => ?_⟩
 ·simp [Sort.grow, World.drewN]
 ·simp only [Sort.grow, World.drewN]
  rw [Array.getElem?_append_left hi]

theorem itoa_any {w : World} (h : Tab w) (n : Int) (h0 : -9223372036854775808 ≤ n) (h1 : n ≤ 9223372036854775807) :
  Calls Tryz.prog 156 #[.int .i64 n] w fun e w' => e = .returned (.string ⟨(Lib.itoa n).toArray⟩) ∧ Below w.heap.size w w' :=
 (Tryz.strconv_Itoa n h0 h1 w h).mono fun _ _ hh => ⟨hh.1, by obtain ⟨k, os, rfl⟩ := hh.2; exact below_grow w k os⟩
end Go.Proofs.YtmoglaknmlhpgaaGreatDoor
/- What the rows' condition gives the walks: strconv's table, and the words that package show lays. -/
namespace Go.Proofs.YtmoglaknmlhpgaaGreatDoor
set_option linter.unusedVariables false
open Go.RowKit

def WordsIs (w : World) (name : String) (ls : List (List UInt8)) : Prop := w.var? Tryz.prog name = some (ls.map fun l => Value.string ⟨l.toArray⟩).toArray
theorem WordsIs.then_ {w w' : World} {name : String} {ls : List (List UInt8)} (h : WordsIs w name ls) (hb : Below w.heap.size w w') : WordsIs w' name ls := by
 unfold WordsIs World.var? at *
 cases hg : Tryz.prog.globalNamed name with
 | none => simp [hg] at h
 | some g =>
  simp only [hg, Option.bind_some] at h ⊢
  have hlt : g < w.heap.size := by
   rcases Nat.lt_or_ge g w.heap.size with h' | h'
   ·exact h'
   ·rw [Array.getElem?_eq_none h'] at h; simp at h
  rw [hb.block g hlt]
  exact h
theorem WordsIs.cell {w : World} {name : String} {ls : List (List UInt8)} {g : Nat} (h : WordsIs w name ls) (hg : Tryz.prog.globalNamed name = some g) (i : Nat) (hi : i < ls.length) : w.cell? ⟨g, i, none⟩ = some (.string ⟨(ls.getD i []).toArray⟩) := by
 have := World.var?_cell hg h i
 simpa [List.getD, hi] using this
def catL : List (List UInt8) := [[], [115, 117, 98, 106, 101, 99, 116], [97, 99, 116, 105, 111, 110], [99, 97, 115, 101], [101, 110, 118]]
def algL : List (List UInt8) := [[], [100, 101, 110, 121, 111, 118, 101, 114], [112, 101, 114, 109, 105, 116, 111, 118, 101, 114], [102, 105, 114, 115, 116], [111, 110, 108, 121], [100, 101, 110, 121, 117, 110, 108, 101, 115, 115], [112, 101, 114, 109, 105, 116, 117, 110, 108, 101, 115, 115]]
def fnL : List (List UInt8) := [[], [], [], [111, 110, 101], [115, 105, 122, 101], [104, 97, 115], [101, 113], [108, 101, 115, 115], [97, 100, 100], [115, 117, 98], [109, 117, 108], [110, 111, 116], [97, 110, 100], [111, 114]]
def doL : List (List UInt8) := [[], [108, 111, 103], [114, 101, 100, 97, 99, 116], [114, 101, 118, 105, 101, 119], [110, 111, 116, 105, 102, 121]]
def cmpL : List (List UInt8) := [[], [61], [60], [62]]
structure Tbl (w : World) : Prop where
 tab : Tab w
 algs : WordsIs w "bailiff/show.algorithms" algL
 cats : WordsIs w "bailiff/show.categories" catL
 fns : WordsIs w "bailiff/show.functions" fnL
 cmps : WordsIs w "bailiff/show.comparisons" cmpL
 does : WordsIs w "bailiff/show.doings" doL
theorem Tbl.then_ {w w' : World} (h : Tbl w) (hb : Below w.heap.size w w') : Tbl w' := ⟨h.tab.then_ hb, h.algs.then_ hb, h.cats.then_ hb, h.fns.then_ hb, h.cmps.then_ hb, h.does.then_ hb⟩
theorem pick_at {ls : List (List UInt8)} {W : Int → List UInt8} {lo : Nat} (h : ∀ i : Fin ls.length, lo ≤ i.val → ls.getD i.val [] = W (i.val : Int)) {n : Int} (h0 : (lo : Int) ≤ n) (h1 : n < (ls.length : Int)) : n.toNat < ls.length ∧ ls.getD n.toNat [] = W n := by
 have hl : n.toNat < ls.length := by omega
 refine ⟨hl, ?_⟩
 have := h ⟨n.toNat, hl⟩ (by show lo ≤ n.toNat; omega)
 rw [this]
 show W ((n.toNat : Nat) : Int) = W n
 rw [show ((n.toNat : Nat) : Int) = n by omega]
theorem Tbl.cat {w : World} (h : Tbl w) {n : Int} (h0 : 1 ≤ n) (h1 : n ≤ 4) : w.cell? ⟨5, n.toNat, none⟩ = some (.string ⟨(catW n).toArray⟩) := by
 obtain ⟨a, b⟩ := pick_at (ls := catL) (W := catW) (lo := 1) (by decide +kernel) (show ((1 : Nat) : Int) ≤ n by omega) (show n < ((5 : Nat) : Int) by omega)
 have := h.cats.cell (g := 5) (by kernel_rfl) n.toNat a
 rw [b] at this
 exact this
theorem Tbl.alg {w : World} (h : Tbl w) {n : Int} (h0 : 1 ≤ n) (h1 : n ≤ 6) : w.cell? ⟨0, n.toNat, none⟩ = some (.string ⟨(algW n).toArray⟩) := by
 obtain ⟨a, b⟩ := pick_at (ls := algL) (W := algW) (lo := 1) (by decide +kernel) (show ((1 : Nat) : Int) ≤ n by omega) (show n < ((7 : Nat) : Int) by omega)
 have := h.algs.cell (g := 0) (by kernel_rfl) n.toNat a
 rw [b] at this
 exact this
theorem Tbl.fn {w : World} (h : Tbl w) {n : Int} (h0 : 3 ≤ n) (h1 : n ≤ 13) : w.cell? ⟨3, n.toNat, none⟩ = some (.string ⟨(fnW n).toArray⟩) := by
 obtain ⟨a, b⟩ := pick_at (ls := fnL) (W := fnW) (lo := 3) (by decide +kernel) (show ((3 : Nat) : Int) ≤ n by omega) (show n < ((14 : Nat) : Int) by omega)
 have := h.fns.cell (g := 3) (by kernel_rfl) n.toNat a
 rw [b] at this
 exact this
theorem Tbl.do {w : World} (h : Tbl w) {n : Int} (h0 : 1 ≤ n) (h1 : n ≤ 4) : w.cell? ⟨1, n.toNat, none⟩ = some (.string ⟨(doW n).toArray⟩) := by
 obtain ⟨a, b⟩ := pick_at (ls := doL) (W := doW) (lo := 1) (by decide +kernel) (show ((1 : Nat) : Int) ≤ n by omega) (show n < ((5 : Nat) : Int) by omega)
 have := h.does.cell (g := 1) (by kernel_rfl) n.toNat a
 rw [b] at this
 exact this
theorem Tbl.cmp {w : World} (h : Tbl w) {n : Int} (h0 : 1 ≤ n) (h1 : n ≤ 3) : w.cell? ⟨4, n.toNat, none⟩ = some (.string ⟨(cmpW n).toArray⟩) := by
 obtain ⟨a, b⟩ := pick_at (ls := cmpL) (W := cmpW) (lo := 1) (by decide +kernel) (show ((1 : Nat) : Int) ≤ n by omega) (show n < ((4 : Nat) : Int) by omega)
 have := h.cmps.cell (g := 4) (by kernel_rfl) n.toNat a
 rw [b] at this
 exact this
end Go.Proofs.YtmoglaknmlhpgaaGreatDoor
/- Quoted texts: the project's and the reference's. -/
namespace Go.Proofs.YtmoglaknmlhpgaaGreatDoor
set_option linter.unusedVariables false
open Go.RowKit

theorem odd_of {c : UInt8} (h : c.toNat < 32 ∨ 126 < c.toNat ∨ c.toNat = 34 ∨ c.toNat = 92) : odd8 c = true := by simpa [odd8, or_assoc] using h
theorem odd_not {c : UInt8} (h : ¬ (c.toNat < 32 ∨ 126 < c.toNat ∨ c.toNat = 34 ∨ c.toNat = 92)) : odd8 c = false := by
 rw [← Bool.not_eq_true]
 intro h'
 exact h (by simpa [odd8, or_assoc] using h')
theorem byte_ways (c : UInt8) : ((c.toNat : Int) < 32) ∨ ((32 ≤ (c.toNat : Int) ∧ 126 < (c.toNat : Int))) ∨ ((c.toNat : Int) = 34) ∨ ((c.toNat : Int) = 92) ∨ ((32 ≤ (c.toNat : Int) ∧ (c.toNat : Int) ≤ 126) ∧ ((c.toNat : Int) == 34) = false ∧ ((c.toNat : Int) == 92) = false) := by
 simp only [beq_eq_false_iff_ne]; omega
set_option maxRecDepth 100000 in
theorem and15 : ∀ x : Nat, x < 256 → x &&& 15 = x % 16 := by decide +kernel
theorem u8_and15 {x : Int} (h1 : 0 ≤ x) (h2 : x < 256) : bits .and .u8 x 15 = x % 16 := by
 rw [u8_and x 15 h1 h2 (by omega) (by omega)]
 have e : (15 : Int).toNat = 15 := rfl
 rw [e, and15 _ (by omega)]; omega

def digs : ByteArray := ⟨#[48, 49, 50, 51, 52, 53, 54, 55, 56, 57, 97, 98, 99, 100, 101, 102]⟩
theorem digs_at : ∀ x : Fin 16, digs[x.val]? = some (hexd x.val) := by decide
theorem digs_get {i : Int} {x : Nat} (hi : i.toNat = x) (hx : x < 16) (h : i.toNat < digs.size) : digs[i.toNat]'h = hexd x := by
 subst hi
 have := digs_at ⟨i.toNat, hx⟩
 dsimp only at this
 rw [getElem?_pos digs i.toNat h] at this
 exact Option.some.inj this

def QRel (w : World) (l : List UInt8) (o i : Value) (wr : World) : Prop :=
 ∃ (k n c : Nat) (A : Option Addr), k ≤ l.length ∧ i = .int .i64 (k : Int) ∧ o = .slice A n c ∧ wr.ownsRow w.heap.size 5 1 (.slice A n c) n (bv ([34] ++ quoteL (l.take k))) ∧ Below w.heap.size w wr

theorem own_lit (w : World) (x : UInt8) : (w.alloc (.cells #[.int .u8 (x.toNat : Int)] 5)).ownsRow w.heap.size 5 1 (.slice (some ⟨w.heap.size, 0, none⟩) 1 1) 1 (bv [x]) :=
 ⟨rfl, .inr ⟨w.heap.size, 1, #[.int .u8 (x.toNat : Int)], rfl, Nat.le_refl _, heap_alloc_new w _, Nat.le_refl _, by simp [maxLen], rfl, rfl⟩⟩

theorem quoteL_step {l : List UInt8} {k : Nat} {b : UInt8} (h : l[k]? = some b) : quoteL (l.take (k + 1)) = quoteL (l.take k) ++ quoteC b := by
 obtain ⟨hk, e⟩ := List.getElem?_eq_some_iff.1 h
 rw [List.take_succ_eq_append_getElem hk, quoteL_app, e]
 simp [quoteL]

theorem append_bytes {w : World} {base n c m : Nat} {A : Option Addr} {l : List UInt8} (h : w.ownsRow base 5 1 (.slice A n c) n (bv l)) (cs : List UInt8) (hm : cs.length = m) (hn : n + m ≤ 140737488355328) (hb : base ≤ w.heap.size) :
  ∃ A' c' w', (Builtin.append_ #[95, 95] 95 #[.slice A n c, .slice (some ⟨w.heap.size, 0, none⟩) m m]).run Tryz.prog (w.alloc (.cells (bv cs).toArray 5)) = .ok (.slice A' (n + m) c') w' ∧
   w'.ownsRow base 5 1 (.slice A' (n + m) c') (n + m) (bv (l ++ cs)) ∧ Below base w w' := by
 obtain ⟨i, hi, hz0, hz1, hz2⟩ := info_parts u8info
 obtain ⟨A', c', w', h1, h2, h3⟩ := append_row (P := Tryz.prog) (ty := 95) Tryz.underlying95 hi hz0 hz1 hz2 (h.alloc _) (Sl.lit w 5 (bv cs) m (by rw [bv_len, hm]) (by unfold maxLen; omega)) one_bv hn (by rw [size_al]; omega)
 exact ⟨A', c', w', h1, by rw [bv_app]; exact h2, ((Below.refl base w).alloc hb _).trans h3⟩

set_option maxHeartbeats 1600000 in
set_option maxRecDepth 100000 in
theorem quoted_any (s : ByteArray) (hs : s.size ≤ 1000000) (w : World) :
    Calls Tryz.prog 155 #[.string s] w fun e w' => e = .returned (.string ⟨(quoteB s.data.toList).toArray⟩) ∧ Below w.heap.size w w' := by
  have hl := data_len s
  generalize hL : s.data.toList = l at *
  have HD : Hid (∀ k (h : k < s.size), l[k]? = some s[k]) := by
    show ∀ k (h : k < s.size), l[k]? = some s[k]
    subst hL; exact fun k h => data_at h
  have HL := Lib.hid hl
  have hstart : QRel w l (.slice (some ⟨w.heap.size, 0, none⟩) 1 1) (.int .i64 0) (w.alloc (.cells #[.int .u8 34] 5)) :=
    ⟨0, 1, 1, _, by omega, rfl, rfl, by simpa [quoteL] using own_lit w 34, (Below.refl _ _).alloc (Nat.le_refl _) _⟩
  have HS := Lib.hid hstart
  clear hl hL hstart
  go_enter Tryz.func155, Tryz.ntmps155
  go_wp2_with fail
  go_loopw [3, 9] (fun o i wr => QRel w l o i wr) (fun _ i _ => s.size - (intOf i).toNat)
  case atStart => exact HS.out
  case round =>
    obtain ⟨k, n, c, A, hk, rfl, rfl, hown, hbel⟩ := hrel
    have hn : n ≤ 3000001 := by
      have := hown.1
      have h2 := quoteL_len (l.take k)
      have h3 := HL.out
      simp [bv_len] at this h2
      omega
    have hkl : k ≤ s.size := by have := HL.out; omega
    have HB := Lib.hid hbel
    by_cases hlt : k < s.size
    · have hc := HD.out k hlt
      have hi2 : 0 ≤ (k : Int) ∧ (k : Int) < s.size := by omega
      generalize hcc : s[k] = b at *
      have HC := Lib.hid hc
      clear hc
      rcases byte_ways b with a | a | a | a | a
      case inr.inr.inr.inr =>
        obtain ⟨A2, c2, w2, hap, hown2, hbel2⟩ := append_bytes hown [b] (m := 1) rfl (by omega) hbel.size
        have HO2 := Lib.hid hown2
        have HB2 := Lib.hid (hbel.trans hbel2)
        have HODD : Hid (odd8 b = false) := odd_not (by obtain ⟨a1, a2, a3⟩ := a; simp only [beq_eq_false_iff_ne] at a2 a3; omega)
        have HAP := Lib.hid hap
        clear hown hbel hown2 hbel2 hk hap
        go_wp2_with (at_builtin; refine wpList_append_run rfl _ _ _ _ rfl rfl rfl HAP.out ?_)
        go_roundw
        case rel =>
          refine ⟨k + 1, n + 1, c2, A2, by have := HL.out; omega, by go_num, rfl, ?_, HB2.out⟩
          have e : quoteL (l.take (k + 1)) = quoteL (l.take k) ++ [b] := by rw [quoteL_step HC.out]; unfold quoteC; rw [HODD.out]; rfl
          rw [e, ← List.append_assoc]
          exact HO2.out
        case measure => simp [intOf]; omega
      case inr.inr.inl =>
        obtain rfl : b = 34 := UInt8.toNat_inj.1 (by have : (34 : UInt8).toNat = 34 := rfl; omega)
        have HODD : Hid (odd8 34 = true) := rfl
        have hb1 : bits .and .u8 34 15 = 2 := by decide
        have hd1 : ∀ h, (⟨#[48, 49, 50, 51, 52, 53, 54, 55, 56, 57, 97, 98, 99, 100, 101, 102]⟩ : ByteArray)[2]'h = 50 := fun h => rfl
        have hd2 : ∀ h, (⟨#[48, 49, 50, 51, 52, 53, 54, 55, 56, 57, 97, 98, 99, 100, 101, 102]⟩ : ByteArray)[2]'h = 50 := fun h => rfl
        clear a
        obtain ⟨A2, c2, w2, hap, hown2, hbel2⟩ := append_bytes (w := wr.drew) (base := w.heap.size) (A := A) (n := n) (c := c) (l := [34] ++ quoteL (l.take k)) hown [92, 50, 50] (m := 3) rfl (by omega) hbel.size
        have HO2 := Lib.hid hown2
        have HB2 := Lib.hid ((below_drewN hbel 1).trans hbel2)
        have hap' : (Builtin.append_ #[95, 95] 95 #[.slice A n c, .slice (some ⟨wr.heap.size, 0, none⟩) 3 3]).run Tryz.prog ((wr.alloc (.cells #[.int .u8 92, .int .u8 50, .int .u8 50] 5)).drew) = .ok (.slice A2 (n + 3) c2) w2 := hap
        have HAP := Lib.hid hap'
        clear hown hbel hown2 hbel2 hk hap hap'
        go_wp2_with fail
        go_region_law (refine step_append_run rfl (.tmp 29) (.tmp 36) _ _ rfl (by simp [Act.eval]) (by simp [Act.eval]) HAP.out ?_)
        all_goals
         go_wp2_with fail
         go_roundw
         case rel =>
          refine ⟨k + 1, n + 3, c2, A2, by have := HL.out; omega, by go_num, rfl, ?_, HB2.out⟩
          have e : quoteL (l.take (k + 1)) = quoteL (l.take k) ++ [92, 50, 50] := by rw [quoteL_step HC.out]; unfold quoteC; rw [HODD.out]; rfl
          rw [e, ← List.append_assoc]
          exact HO2.out
         case measure => simp [intOf]; omega
      case inr.inr.inr.inl =>
        obtain rfl : b = 92 := UInt8.toNat_inj.1 (by have : (92 : UInt8).toNat = 92 := rfl; omega)
        have HODD : Hid (odd8 92 = true) := rfl
        have hb1 : bits .and .u8 92 15 = 12 := by decide
        have hd1 : ∀ h, (⟨#[48, 49, 50, 51, 52, 53, 54, 55, 56, 57, 97, 98, 99, 100, 101, 102]⟩ : ByteArray)[5]'h = 53 := fun h => rfl
        have hd2 : ∀ h, (⟨#[48, 49, 50, 51, 52, 53, 54, 55, 56, 57, 97, 98, 99, 100, 101, 102]⟩ : ByteArray)[12]'h = 99 := fun h => rfl
        clear a
        obtain ⟨A2, c2, w2, hap, hown2, hbel2⟩ := append_bytes (w := wr.drew) (base := w.heap.size) (A := A) (n := n) (c := c) (l := [34] ++ quoteL (l.take k)) hown [92, 53, 99] (m := 3) rfl (by omega) hbel.size
        have HO2 := Lib.hid hown2
        have HB2 := Lib.hid ((below_drewN hbel 1).trans hbel2)
        have hap' : (Builtin.append_ #[95, 95] 95 #[.slice A n c, .slice (some ⟨wr.heap.size, 0, none⟩) 3 3]).run Tryz.prog ((wr.alloc (.cells #[.int .u8 92, .int .u8 53, .int .u8 99] 5)).drew) = .ok (.slice A2 (n + 3) c2) w2 := hap
        have HAP := Lib.hid hap'
        clear hown hbel hown2 hbel2 hk hap hap'
        go_wp2_with fail
        go_region_law (refine step_append_run rfl (.tmp 29) (.tmp 36) _ _ rfl (by simp [Act.eval]) (by simp [Act.eval]) HAP.out ?_)
        all_goals
         go_wp2_with fail
         go_roundw
         case rel =>
          refine ⟨k + 1, n + 3, c2, A2, by have := HL.out; omega, by go_num, rfl, ?_, HB2.out⟩
          have e : quoteL (l.take (k + 1)) = quoteL (l.take k) ++ [92, 53, 99] := by rw [quoteL_step HC.out]; unfold quoteC; rw [HODD.out]; rfl
          rw [e, ← List.append_assoc]
          exact HO2.out
         case measure => simp [intOf]; omega
      all_goals
        have HODD : Hid (odd8 b = true) := odd_of (by omega)
        have hb8 : b.toNat < 256 := b.toNat_lt
        have hx1 : 0 ≤ (b.toNat : Int) / 16 ∧ (b.toNat : Int) / 16 < 16 := by omega
        have hx2 : 0 ≤ (b.toNat : Int) % 16 ∧ (b.toNat : Int) % 16 < 16 := by omega
        have hb1 : bits .and .u8 (b.toNat : Int) 15 = (b.toNat : Int) % 16 := u8_and15 (by omega) (by omega)
        have hd1 : ∀ h, (⟨#[48, 49, 50, 51, 52, 53, 54, 55, 56, 57, 97, 98, 99, 100, 101, 102]⟩ : ByteArray)[((b.toNat : Int) / 16).toNat]'h = hexd (b.toNat / 16) := fun h => digs_get (by omega) (by omega) h
        have hd2 : ∀ h, (⟨#[48, 49, 50, 51, 52, 53, 54, 55, 56, 57, 97, 98, 99, 100, 101, 102]⟩ : ByteArray)[((b.toNat : Int) % 16).toNat]'h = hexd (b.toNat % 16) := fun h => digs_get (by omega) (by omega) h
        obtain ⟨A2, c2, w2, hap, hown2, hbel2⟩ := append_bytes (w := wr.drew) (base := w.heap.size) (A := A) (n := n) (c := c) (l := [34] ++ quoteL (l.take k)) hown [92, hexd (b.toNat / 16), hexd (b.toNat % 16)] (m := 3) rfl (by omega) hbel.size
        have HO2 := Lib.hid hown2
        have HB2 := Lib.hid ((below_drewN hbel 1).trans hbel2)
        have hap' : (Builtin.append_ #[95, 95] 95 #[.slice A n c, .slice (some ⟨wr.heap.size, 0, none⟩) 3 3]).run Tryz.prog ((wr.alloc (.cells #[.int .u8 92, .int .u8 ((hexd (b.toNat / 16)).toNat : Int), .int .u8 ((hexd (b.toNat % 16)).toNat : Int)] 5)).drew) = .ok (.slice A2 (n + 3) c2) w2 := hap
        have HAP := Lib.hid hap'
        clear hown hbel hown2 hbel2 hk hap hap'
        go_wp2_with fail
        go_region_law (refine step_append_run rfl (.tmp 29) (.tmp 36) _ _ rfl (by simp [Act.eval]) (by simp [Act.eval]) HAP.out ?_)
        all_goals
         go_wp2_with fail
         go_roundw
         case rel =>
          refine ⟨k + 1, n + 3, c2, A2, by have := HL.out; omega, by go_num, rfl, ?_, HB2.out⟩
          have e : quoteL (l.take (k + 1)) = quoteL (l.take k) ++ [92, hexd (b.toNat / 16), hexd (b.toNat % 16)] := by rw [quoteL_step HC.out]; unfold quoteC; rw [HODD.out]; rfl
          rw [e, ← List.append_assoc]
          exact HO2.out
         case measure => simp [intOf]; omega
    · obtain rfl : k = s.size := by omega
      obtain ⟨A2, c2, w2, hap, hown2, hbel2⟩ := append_bytes hown [34] (m := 1) rfl (by omega) hbel.size
      have e : [34] ++ quoteL (l.take s.size) ++ [34] = quoteB l := by rw [← HL.out, List.take_length]; rfl
      rw [e] at hown2
      have hcv := conv_text Tryz.underlying95 Tryz.underlying5 Tryz.underlying9 (Sl.of_own hown2)
      have HB2 := Lib.hid (hbel.trans hbel2)
      have HAP := Lib.hid hap
      clear hown hbel hown2 hbel2 hk hap e
      go_wp2_with (at_builtin; refine wpList_append_run rfl _ _ _ _ rfl rfl rfl HAP.out ?_)
      go_ret
      exact ⟨rfl, HB2.out⟩
end Go.Proofs.YtmoglaknmlhpgaaGreatDoor
/- Digits and texts, plainly. -/
namespace Go.Proofs.YtmoglaknmlhpgaaGreatDoor
set_option linter.unusedVariables false
open Go.RowKit

theorem str_add (a b : List UInt8) : (⟨a.toArray⟩ : ByteArray) ++ ⟨b.toArray⟩ = ⟨(a ++ b).toArray⟩ := by
 have e : ∀ a b : ByteArray, a.data = b.data → a = b := fun a b h => by cases a; cases b; simp_all
 apply e
 simp [ByteArray.data_append]

end Go.Proofs.YtmoglaknmlhpgaaGreatDoor
/- The texts of values: the project's and the reference's. -/
namespace Go.Proofs.YtmoglaknmlhpgaaGreatDoor
set_option linter.unusedVariables false
open Go.RowKit

theorem show_wrong {v : Vl} (h : ¬ v.right) : showB v = [] := by unfold showB; rw [if_neg h]
theorem show1 {n : Int} {s : ByteArray} (h : Vl.right ⟨1, n, s⟩) : showB ⟨1, n, s⟩ = Lib.formatBool (n == 1) := by
 unfold showB
 rw [if_pos h, if_pos rfl]
 by_cases hn : n = 1
 ·subst hn; rfl
 ·rw [if_neg hn, show (n == 1) = false from by rw [beq_eq_false_iff_ne]; exact hn]; rfl
theorem show2 {n : Int} {s : ByteArray} (h : Vl.right ⟨2, n, s⟩) : showB ⟨2, n, s⟩ = Lib.itoa n := by unfold showB; rw [if_pos h]; simp
theorem show3 {n : Int} {s : ByteArray} (h : Vl.right ⟨3, n, s⟩) : showB ⟨3, n, s⟩ = quoteB s.data.toList := by unfold showB; rw [if_pos h]; simp [Vl.l]
theorem show4 {n : Int} {s : ByteArray} (h : Vl.right ⟨4, n, s⟩) : showB ⟨4, n, s⟩ = 64 :: Lib.itoa n := by unfold showB; rw [if_pos h]; simp
theorem show5 {n : Int} {s : ByteArray} (h : Vl.right ⟨5, n, s⟩) : showB ⟨5, n, s⟩ = 35 :: s.data.toList := by unfold showB; rw [if_pos h]; simp [Vl.l]
theorem ret_str {x y : ByteArray} (h : x = y) : Ending.returned (.string x) = .returned (.string y) := by rw [h]
theorem mk_self (s : ByteArray) : (⟨s.data.toList.toArray⟩ : ByteArray) = s := by simp

theorem str_add_s (a : List UInt8) (s : ByteArray) : (⟨a.toArray⟩ : ByteArray) ++ s = ⟨(a ++ s.data.toList).toArray⟩ := by rw [← str_add, mk_self]

set_option maxHeartbeats 3200000 in
theorem vtext_any (k n : Int) (s : ByteArray) (hn : -9223372036854775808 ≤ n ∧ n ≤ 9223372036854775807) (hs : s.size ≤ 1000000) (w : World) (htab : Tab w) :
  Calls Tryz.prog 138 #[.agg #[.int .i64 k, .int .i64 n, .string s]] w fun e w' => e = .returned (.string ⟨(showB ⟨k, n, s⟩).toArray⟩) ∧ Below w.heap.size w w' := by
 have hr := right_any k n s (by unfold maxLen; omega)
 have ht : ∀ w', Below w.heap.size w w' → Tab w' := fun w' hb => htab.then_ hb
 have HT := Lib.hid ht
 have HN := Lib.hid hn
 have hq := quoted_any s hs
 have HQ := Lib.hid hq
 have HS := Lib.hid (data_len s)
 clear ht htab hn hq
 by_cases h1 : RightV k n s.data.toList
 ·rw [decide_eq_true h1] at hr
  have HR := Lib.hid hr
  have H1 : Hid (Vl.right ⟨k, n, s⟩) := h1
  have hkk : k = 1 ∨ k = 2 ∨ k = 3 ∨ k = 4 ∨ k = 5 := by
   rcases kind_cases k with h | h | h | h | h | h
   ·exact .inl h
   ·exact .inr (.inl h)
   ·exact .inr (.inr (.inl h))
   ·exact .inr (.inr (.inr (.inl h)))
   ·exact .inr (.inr (.inr (.inr h)))
   ·exact absurd h1 (rv_none h)
  clear hr h1
  rcases hkk with rfl | rfl | rfl | rfl | rfl
  all_goals
   go_enter Tryz.func138, Tryz.ntmps138
   go_wp2_with fail
   refine (HR.out _).mono ?_
   rintro e w1 ⟨rfl, hb1⟩
   have b1 := ((Bx.made w _ n s).then_ hb1).c3
   have D1 := Lib.hid (Below.lit hb1)
   clear hb1
  ·go_wp2_with fail
   refine (Tryz.strconv_FormatBool _ _).mono ?_
   rintro e w2 ⟨rfl, rfl⟩
   go_wp2_with fail
   go_ret
   exact ⟨ret_str (by rw [show1 H1.out]), D1.out⟩
  ·go_wp2_with fail
   refine (itoa_any (HT.out _ D1.out) n HN.out.1 HN.out.2).mono ?_
   rintro e w2 ⟨rfl, hb2⟩
   have D2 := Lib.hid (below_step D1.out hb2)
   clear hb2
   go_wp2_with fail
   go_ret
   exact ⟨ret_str (by rw [show2 H1.out]), D2.out⟩
  ·go_wp2_with fail
   refine (HQ.out _).mono ?_
   rintro e w2 ⟨rfl, hb2⟩
   have D2 := Lib.hid (below_step D1.out hb2)
   clear hb2
   go_wp2_with fail
   go_ret
   exact ⟨ret_str (by rw [show3 H1.out]), D2.out⟩
  ·go_wp2_with fail
   refine (itoa_any (HT.out _ D1.out) n HN.out.1 HN.out.2).mono ?_
   rintro e w2 ⟨rfl, hb2⟩
   have D2 := Lib.hid (below_step D1.out hb2)
   have hlen := Lib.itoa_length_le n HN.out.1 HN.out.2
   have HI := Lib.hid (show (⟨#[64]⟩ : ByteArray) ++ ⟨(Lib.itoa n).toArray⟩ = ⟨(showB ⟨4, n, s⟩).toArray⟩ by
    rw [show4 H1.out, show (⟨#[64]⟩ : ByteArray) = ⟨[64].toArray⟩ from rfl, str_add]; rfl)
   clear hb2
   generalize Lib.itoa n = li at *
   go_wp2_with fail
   go_ret
   exact ⟨ret_str HI.out, D2.out⟩
  ·have HI := Lib.hid (show (⟨#[35]⟩ : ByteArray) ++ s = ⟨(showB ⟨5, n, s⟩).toArray⟩ by
    rw [show5 H1.out, show (⟨#[35]⟩ : ByteArray) = ⟨[35].toArray⟩ from rfl, str_add_s]; rfl)
   have hle : ¬ 9223372036854775807 < 1 + s.size := by omega
   go_wp2_with fail
   go_ret
   exact ⟨ret_str HI.out, D1.out⟩
 ·rw [decide_eq_false h1] at hr
  have HR := Lib.hid hr
  have H1 : Hid (¬ Vl.right ⟨k, n, s⟩) := h1
  clear hr h1
  go_enter Tryz.func138, Tryz.ntmps138
  go_wp2_with fail
  refine (HR.out _).mono ?_
  rintro e w1 ⟨rfl, hb1⟩
  have D1 := Lib.hid (Below.lit hb1)
  clear hb1
  go_wp2_with fail
  go_ret
  exact ⟨ret_str (by rw [show_wrong H1.out]), D1.out⟩

end Go.Proofs.YtmoglaknmlhpgaaGreatDoor
/- An attribute's text; a match's; a duty's. -/
namespace Go.Proofs.YtmoglaknmlhpgaaGreatDoor
set_option linter.unusedVariables false
open Go.RowKit

theorem bl_app (a b : ByteArray) : bl (a ++ b) = bl a ++ bl b := by
 show (a ++ b).data.toList = _
 rw [ByteArray.data_append, Array.toList_append]
 rfl
theorem bl_mk (l : List UInt8) : bl (⟨l.toArray⟩ : ByteArray) = l := rfl
theorem bl_mka (l : Array UInt8) : bl (⟨l⟩ : ByteArray) = l.toList := rfl
theorem ret_text {x : ByteArray} {l : List UInt8} (h : bl x = l) : Ending.returned (.string x) = .returned (.string ⟨l.toArray⟩) := ret_str (text_eq h)
theorem word_size {l : List UInt8} {n : Nat} (h : l.length ≤ n) : (⟨l.toArray⟩ : ByteArray).size ≤ n := h

set_option maxHeartbeats 800000 in
theorem show_attr (a : Atr) (hok : a.ok) (w : World) (ht : Tbl w) :
  Calls Tryz.prog 139 #[.agg #[.int .i64 a.cat, .string a.name, .bool a.must]] w fun e w' => e = .returned (.string ⟨(attrS a).toArray⟩) ∧ Below w.heap.size w w' := by
 have hcon := fun W => attr_any a hok W
 have HT := Lib.hid ht
 obtain ⟨c, nm, mu⟩ := a
 by_cases h : attrB ⟨c, nm, mu⟩ = true
 ·have hall := h
  unfold attrB at hall
  simp only [Bool.and_eq_true, decide_eq_true_eq] at hall
  obtain ⟨⟨h1, h4⟩, hn⟩ := hall
  have hsz : nm.size ≤ 16 := hn.1.2
  have hi : 0 ≤ c ∧ c < 5 := by omega
  obtain ⟨x, hx⟩ : ∃ x : ByteArray, x = ⟨(catW c).toArray⟩ := ⟨_, rfl⟩
  have hxs : x.size ≤ 7 := by rw [hx]; exact word_size (catW_len c)
  have HE : Hid (attrS ⟨c, nm, mu⟩ = bl x ++ 46 :: (bl nm ++ if mu = true then [33] else [])) := by
   show attrS _ = _
   unfold attrS
   rw [if_pos h, hx]
   rfl
  have HG : Hid (∀ W, Below w.heap.size w W → W.cell? ⟨5, c.toNat, none⟩ = some (.string x)) := fun W hb => by
   rw [hx]; exact (HT.out.then_ hb).cat h1 h4
  rw [h] at hcon
  have HC := Lib.hid hcon
  clear hcon ht hok h hn hx h1 h4
  generalize attrS ⟨c, nm, mu⟩ = r at *
  cases mu
  all_goals
   go_enter Tryz.func139, Tryz.ntmps139
   go_wp2_with (go_at_call 28; refine (HC.out _).mono ?_; rintro e w1 ⟨rfl, hb1⟩; have B1 := Lib.hid (Below.lit hb1); have C1 := Lib.hid (Ob.below (Ob.made _ _ _) hb1 (by simp)); have c0 := C1.out.cell 0; have c1 := C1.out.cell 1; have c2 := C1.out.cell 2)
   have hg := HG.out _ B1.out
   clear hb1
   go_quiet (fail)
   go_wp2_with fail
   go_ret
   refine ⟨ret_text ?_, below_drewN B1.out _⟩
   rw [HE.out]
   simp [bl_app, bl_mka]
 ·rw [Bool.not_eq_true] at h
  have HE : Hid (attrS ⟨c, nm, mu⟩ = []) := by
   show attrS _ = _
   unfold attrS
   rw [if_neg (by rw [h]; simp)]
  rw [h] at hcon
  have HC := Lib.hid hcon
  clear hcon ht hok h
  generalize attrS ⟨c, nm, mu⟩ = r at *
  go_enter Tryz.func139, Tryz.ntmps139
  go_wp2_with (go_at_call 28; refine (HC.out _).mono ?_; rintro e w1 ⟨rfl, hb1⟩; have B1 := Lib.hid (Below.lit hb1))
  go_ret
  exact ⟨ret_text (by rw [HE.out]; rfl), B1.out⟩

theorem show_effect (b : Bool) (w : World) : Calls Tryz.prog 71 #[.bool b] w fun e w' => e = .returned (.string ⟨(effW b).toArray⟩) ∧ w' = w := by
 cases b
 all_goals
  go_enter Tryz.func71, Tryz.ntmps71
  go_wp2_with fail
  go_ret
  exact ⟨rfl, rfl⟩
theorem show_takes (op : Int) (w : World) : Calls Tryz.prog 108 #[.int .i64 op] w fun e w' => e = .returned (.int .i64 (takesT op)) ∧ w' = w := by
 have two : (op = 1 ∨ op = 2 ∨ op = 3 ∨ op = 4 ∨ op = 11) ∨ ((op == 1) = false ∧ (op == 2) = false ∧ (op == 3) = false ∧ (op == 4) = false ∧ (op == 11) = false) := by
  simp only [beq_eq_false_iff_ne]; omega
 rcases two with (rfl | rfl | rfl | rfl | rfl) | ⟨h1, h2, h3, h4, h11⟩
 case inr =>
  have HE := Lib.hid (show takesT op = 2 by simp only [beq_eq_false_iff_ne] at *; unfold takesT; simp [h1, h2, h3, h4, h11])
  go_enter Tryz.func108, Tryz.ntmps108
  go_wp2_with fail
  go_ret
  exact ⟨ret_int (by rw [HE.out]; rfl), rfl⟩
 all_goals
  go_enter Tryz.func108, Tryz.ntmps108
  go_wp2_with fail
  go_ret
  exact ⟨rfl, rfl⟩
end Go.Proofs.YtmoglaknmlhpgaaGreatDoor
