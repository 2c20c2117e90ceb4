/- Several texts in one: ShowLen, ConvText, Make, VQuoteV, VDigitsM, VShowV, ShowAttr, HTail, ShowLeaf, Cells, CellRows, PolSucc, PolRight, PolLit, PolApp, PolOw. -/
import Derived.Test.YtdbnaaddocahpaaDoorTenC
import Derived.Lib.ItoaLen
import Derived.Test.YtdbnaaddocahpaaDoorTenA
import Derived.Laws.BytesArg
import Derived.Test.YtdbnaaddocahpaaDoorTenB
import Derived.Deep.RegionLaw
import Derived.Laws.OwnMore
import Derived.StillTail
import Derived.OrdersHeld
import Derived.RegionTactic
import Derived.Laws.StructEq
import Derived.Laws.Tables
import Derived.Laws.Cover2
import Derived.Lib.QuietBelow
import Derived.Deep.CutRange
import Derived.Maps.AppendAt
/- Policies as text, plainly: how long such texts are. -/
namespace Go.Proofs.YtdbnaaddocahpaaDoor
set_option linter.unusedVariables false

theorem val_len {v : Vl} (h : v.right) (hn : InI v.n) : (showB v).length ≤ 400 := by
  have hr := h
  unfold Vl.right RightV at hr
  have hi := Lib.itoa_length_le v.n hn.1 hn.2
  have hq := quoteL_len v.l
  rcases show_cases h with ⟨_, _, ⟨_, hs⟩ | ⟨_, hs⟩⟩ | ⟨_, _, hs⟩ | ⟨hk, _, hs⟩ | ⟨_, _, hs⟩ | ⟨hk, _, hs⟩
  all_goals rw [hs]
  · simp
  · simp
  · omega
  · have : v.l.length ≤ 64 := by rcases hr with h | h | h | h | h <;> omega
    unfold quoteB
    simp
    omega
  · simp; omega
  · have : v.l.length ≤ 16 := by rcases hr with h | h | h | h | h <;> first | exact h.2.2.1.2 | omega
    simp; omega
theorem catW_len (n : Int) : (catW n).length ≤ 7 := by
  unfold catW; repeat' split
  all_goals decide
theorem algW_len (n : Int) : (algW n).length ≤ 12 := by
  unfold algW; repeat' split
  all_goals decide
theorem fnW_len (n : Int) : (fnW n).length ≤ 4 := by
  unfold fnW; repeat' split
  all_goals decide
theorem doW_len (n : Int) : (doW n).length ≤ 6 := by
  unfold doW; repeat' split
  all_goals decide
theorem cmpW_len (n : Int) : (cmpW n).length ≤ 1 := by
  unfold cmpW; repeat' split
  all_goals decide
theorem effW_len (b : Bool) : (effW b).length ≤ 6 := by cases b <;> decide
theorem headW_len (p : Pol) : (headW p).length ≤ 6 := by
  unfold headW
  split <;> decide
theorem attr_len {a : Atr} (h : attrB a = true) : (attrS a).length ≤ 25 := by
  have hn := (attrB_all h).2.1.2
  have hc := catW_len a.cat
  unfold attrS attrT
  rw [if_pos h]
  simp only [List.length_append, List.length_cons]
  split <;> simp <;> omega
theorem mat_len {m : Mat} (h : matE m = 0) (hok : m.ok) : (matT m).length ≤ 500 := by
  obtain ⟨ha, _, hv⟩ := matE_all h
  have := attr_len ha
  have := cmpW_len m.op
  have := val_len hv hok.2.2.2.1
  simp only [matT, List.length_append, List.length_cons]
  omega
/-- A row of texts, none longer than so much. -/
theorem tail_le {B : Nat} (sep : List UInt8) : ∀ xs : List (List UInt8), (∀ x ∈ xs, x.length ≤ B) → (Lib.joinTail sep xs).length ≤ xs.length * (B + sep.length)
  | [], _ => by simp [Lib.joinTail]
  | x :: xs, h => by
    have i := tail_le sep xs fun y hy => h y (by simp [hy])
    have j := h x (by simp)
    have e : Lib.joinTail sep (x :: xs) = sep ++ (x ++ Lib.joinTail sep xs) := by simp [Lib.joinTail]
    rw [e, List.length_append, List.length_append, List.length_cons, Nat.succ_mul]
    omega
theorem join_le {B : Nat} (sep : List UInt8) (xs : List (List UInt8)) (h : ∀ x ∈ xs, x.length ≤ B) : (Lib.join xs sep).length ≤ xs.length * (B + sep.length) := by
  cases xs with
  | nil => simp [Lib.join_nil]
  | cons x xs =>
    have i := tail_le sep xs fun y hy => h y (by simp [hy])
    have j := h x (by simp)
    rw [Lib.join_cons, List.length_append, List.length_cons, Nat.succ_mul]
    omega
theorem join_map {α : Type} {T : α → List UInt8} {B n : Nat} (sep : List UInt8) (l : List α) (h : ∀ x ∈ l, (T x).length ≤ B) (hn : l.length ≤ n) : (Lib.join (l.map T) sep).length ≤ n * (B + sep.length) := by
  have := join_le (B := B) sep (l.map T) (fun y hy => by obtain ⟨x, hx, rfl⟩ := List.mem_map.1 hy; exact h x hx)
  rw [List.length_map] at this
  exact Nat.le_trans this (Nat.mul_le_mul_right _ hn)
theorem all_len {l : List Mat} (h : allE l = 0) (hok : ∀ m ∈ l, m.ok) : (allT l).length ≤ 5000 := by
  have := join_map (T := matT) (B := 500) (n := 8) [44, 32] l (fun x hx => mat_len ((allE_all h).2 x hx) (hok x hx)) (allE_all h).1.2
  exact Nat.le_trans this (by decide)
theorem any_len {l : List (List Mat)} (h : anyE l = 0) (hok : ∀ a ∈ l, ∀ m ∈ a, m.ok) : (anyT l).length ≤ 41000 := by
  have := join_map (T := allT) (B := 5000) (n := 8) [32, 111, 114, 32] l (fun x hx => all_len ((anyE_all h).2 x hx) (hok x hx)) (anyE_all h).1.2
  simp only [anyT, List.length_cons, List.length_append, List.length_nil] at this ⊢
  omega
theorem tg_len {t : Tgt} (h : tgE t = 0) (hok : Tgt.oks t) : (tgT t).length ≤ 330000 := by
  have := join_map (T := anyT) (B := 41000) (n := 8) [32, 97, 110, 100, 32] t (fun x hx => any_len ((tgE_all h).2 x hx) (hok x hx)) (tgE_all h).1
  exact Nat.le_trans this (by decide)
theorem dut_len {o : Dut} (h : dutE o = 0) : (dutT o).length ≤ 100 := by
  have := (dutE_all h).2.2.1.2
  have := doW_len o.kind
  have := effW_len (decide (o.on = 2))
  simp only [dutT, List.length_append, List.length_cons, List.length_nil]
  omega
theorem tree_len : ∀ {t : Xt}, t.fits → (∀ n ∈ t.flat, n.ok) → t.txt.length ≤ 430 * t.flat.length
  | .leaf n, hf, hok => by
    obtain ⟨ho, hh⟩ := hf
    simp only [Xt.txt, nodeT, Xt.flat]
    rcases ho with ho | ho
    · rw [if_pos ho]
      have := val_len (holds_lit hh ho).1 (hok n (by simp [Xt.flat])).2.1.2.1
      simp; omega
    · rw [if_neg (by omega), if_pos ho]
      have := attr_len (holds_att hh ho).1
      simp; omega
  | .one n x, hf, hok => by
    obtain ⟨hh, ho, hx⟩ := hf
    have hn := one_op ho
    have i := tree_len hx (fun k hk => hok k (by simp [Xt.flat, hk]))
    have := fnW_len n.op
    simp only [Xt.txt, Xt.flat]
    rw [nodeT_fun hn.1 hn.2, Lib.join_one]
    simp only [List.length_append, List.length_cons, List.length_nil]
    omega
  | .two n x y, hf, hok => by
    obtain ⟨hh, ho, hy, fx, fy⟩ := hf
    have hn := two_op ho
    have i := tree_len fx (fun k hk => hok k (by simp [Xt.flat, hk]))
    have j := tree_len fy (fun k hk => hok k (by simp [Xt.flat, hk]))
    have := fnW_len n.op
    simp only [Xt.txt, Xt.flat]
    rw [nodeT_fun hn.1 hn.2, join_two]
    simp only [List.length_append, List.length_cons, List.length_nil]
    omega
theorem expr_len {l : List Nod} (h : exprE l = 0) (hok : ∀ n ∈ l, n.ok) : (exprS l).length ≤ 14000 := by
  unfold exprS
  split
  · rename_i hh
    obtain ⟨t, hf, hb, hl, ht, h32⟩ := expr_tree h hh.1
    have := tree_len hf (by rw [← hl]; exact hok)
    rw [ht]
    rw [← hl] at this
    omega
  · simp
theorem tgW_len {t : Tgt} (h : tgE t = 0) (hok : Tgt.oks t) : (tgW t).length ≤ 2 ∧ ∀ x ∈ tgW t, x.length ≤ 330000 := by
  have := tg_len h hok
  unfold tgW
  split
  · simp
  · refine ⟨by simp, fun x hx => ?_⟩
    simp at hx
    rcases hx with rfl | rfl
    · simp
    · exact this
theorem condW_len {l : List Nod} (h : exprE l = 0) (hok : ∀ n ∈ l, n.ok) : (condW l).length ≤ 2 ∧ ∀ x ∈ condW l, x.length ≤ 330000 := by
  have := expr_len h hok
  unfold condW
  split
  · simp
  · refine ⟨by simp, fun x hx => ?_⟩
    simp at hx
    rcases hx with rfl | rfl
    · simp
    · omega
theorem rulW_len {r : Rul} (h : r.fine) (hok : r.oks) : (rulW r).length ≤ 14 ∧ ∀ x ∈ rulW r, x.length ≤ 330000 := by
  obtain ⟨hn, ht, hc, ho⟩ := h
  obtain ⟨t1, t2⟩ := tgW_len ht hok.1
  obtain ⟨c1, c2⟩ := condW_len hc hok.2
  obtain ⟨o1, o2⟩ := obE_all ho
  refine ⟨by simp only [rulW, List.length_cons, List.length_append, List.length_map]; omega, fun x hx => ?_⟩
  have he := effW_len r.deny
  have hid := hn.1.2
  simp only [rulW, List.mem_cons, List.mem_append, List.mem_map] at hx
  rcases hx with rfl | rfl | (hx | hx) | ⟨o, ho', rfl⟩
  · omega
  · omega
  · exact t2 x hx
  · exact c2 x hx
  · have := dut_len (o2 o ho'); omega
theorem rul_len {r : Rul} (h : r.fine) (hok : r.oks) : (rulT r).length ≤ 5000000 := by
  obtain ⟨a, b⟩ := rulW_len h hok
  have := join_le (B := 330000) [32] (rulW r) b
  have : (Lib.join (rulW r) [32]).length ≤ 14 * 330001 := Nat.le_trans this (Nat.mul_le_mul_right _ a)
  simp only [rulT, List.length_append, List.length_cons, List.length_nil]
  omega
/-- How many words a policy may have. -/
def wordsN : Nat → Nat
  | 0 => 0
  | d + 1 => 40 + 16 * wordsN d
theorem rules_fine : ∀ {l : List Rul} {s s' : Seen}, firstS ruleS l s = (0, s') → ∀ r ∈ l, r.fine
  | [], _, _, _, r, hr => by cases hr
  | x :: l, s, s', h, r, hr => by
    obtain ⟨s1, h1, h2⟩ := first_cons h
    rcases List.mem_cons.1 hr with rfl | hr
    · exact (rule_fine h1).1
    · exact rules_fine h2 r hr
theorem kids_fine {d : Nat} : ∀ {l : List Pol} {s s' : Seen}, firstS (polS d) l s = (0, s') → ∀ k ∈ l, ∃ s1 s2, polS d k s1 = (0, s2)
  | [], _, _, _, r, hr => by cases hr
  | x :: l, s, s', h, r, hr => by
    obtain ⟨s1, h1, h2⟩ := first_cons h
    rcases List.mem_cons.1 hr with rfl | hr
    · exact ⟨_, _, h1⟩
    · exact kids_fine h2 r hr
theorem flatten_le {B : Nat} : ∀ l : List (List (List UInt8)), (∀ x ∈ l, x.length ≤ B) → l.flatten.length ≤ l.length * B
  | [], _ => by simp
  | x :: l, h => by
    have := flatten_le l fun y hy => h y (by simp [hy])
    have := h x (by simp)
    rw [List.flatten_cons, List.length_append, List.length_cons, Nat.succ_mul]
    omega
theorem polW_len : ∀ (d : Nat) {p : Pol} {s s' : Seen}, polS d p s = (0, s') → polOks d p → (polW d p).length ≤ wordsN d ∧ ∀ x ∈ polW d p, x.length ≤ 5000000
  | 0, p, s, s', h, _ => by simp [polS] at h
  | d + 1, p, s, s', h, hok => by
    obtain ⟨hid, hfit, ht, ho, ⟨h16, k16⟩, s1, s2, hs1, hr, hk⟩ := pol_parts h
    obtain ⟨hok1, hok2, hok3⟩ := hok
    obtain ⟨t1, t2⟩ := tgW_len ht hok1
    obtain ⟨o1, o2⟩ := obE_all ho
    have hrf := rules_fine hr
    have kf : ∀ k ∈ p.kids, (polW d k).length ≤ wordsN d ∧ ∀ x ∈ polW d k, x.length ≤ 5000000 := fun k hkk => by
      obtain ⟨a, b, e⟩ := kids_fine hk k hkk
      exact polW_len d e (hok3 k hkk)
    have kl := flatten_le (B := wordsN d) (p.kids.map (polW d)) (fun x hx => by obtain ⟨k, hkk, rfl⟩ := List.mem_map.1 hx; exact (kf k hkk).1)
    rw [List.length_map] at kl
    have kl2 : p.kids.length * wordsN d ≤ 16 * wordsN d := Nat.mul_le_mul_right _ k16
    refine ⟨?_, fun x hx => ?_⟩
    · simp only [polW, wordsN, List.length_cons, List.length_append, List.length_map, List.length_nil]
      omega
    · have hh := headW_len p
      have ha := algW_len p.alg
      have hi := hid.1.2
      simp only [polW, List.mem_cons, List.mem_append, List.mem_map, List.mem_flatten, List.not_mem_nil, or_false] at hx
      rcases hx with rfl | rfl | rfl | ((((hx | rfl) | ⟨r, hr', rfl⟩) | ⟨ws, ⟨k, hk', rfl⟩, hx⟩) | rfl) | ⟨o, ho', rfl⟩
      · omega
      · omega
      · omega
      · have := t2 x hx; omega
      · simp
      · exact rul_len (hrf r hr') (hok2 r hr')
      · exact (kf k hk').2 x hx
      · simp
      · have := dut_len (o2 o ho'); omega
theorem wordsN_4 : wordsN 4 = 174760 := rfl
theorem wordsN_le : ∀ {d : Nat}, d ≤ 4 → wordsN d ≤ 174760 := by
  intro d h
  have : d = 0 ∨ d = 1 ∨ d = 2 ∨ d = 3 ∨ d = 4 := by omega
  rcases this with rfl | rfl | rfl | rfl | rfl <;> decide
theorem polT_len {p : Pol} (h : rightE p = 0) (hok : polOks 4 p) : (polT p).length ≤ 1000000000000 := by
  have e0 : polS 4 p ⟨[], 0⟩ = (0, (polS 4 p ⟨[], 0⟩).2) := by unfold rightE at h; rw [← h]
  obtain ⟨a, b⟩ := polW_len 4 e0 hok
  have := join_le (B := 5000000) [32] (polW 4 p) b
  rw [wordsN_4] at a
  have h2 : (polW 4 p).length * (5000000 + ([32] : List UInt8).length) ≤ 174760 * 5000001 := Nat.mul_le_mul_right _ a
  unfold polT
  omega
end Go.Proofs.YtdbnaaddocahpaaDoor
/- A slice of bytes as a text: string(b). -/
namespace Go.Proofs.YtdbnaaddocahpaaDoor
set_option linter.unusedVariables false
open Go.RowKit

theorem conv_text {P : Program} {w : World} {src dst e : TypeId} {B n c : Nat} {A : Option Addr} {l : List UInt8} (hs : P.underlying src = some (.slice e)) (he : P.underlying e = some (.int .u8)) (hd : P.underlying dst = some .string)
    (h : Sl w B A n c (bv l)) : (convert src dst (.slice A n c)).run P w = .ok (.string ⟨l.toArray⟩) w := by
  have hlen := h.len
  rw [bv_len] at hlen
  have fin : ∀ ad : Addr, A = some ad → (∀ j u, (bv l)[j]? = some u → w.cell? (ad.add j) = some u) → (convert src dst (.slice A n c)).run P w = .ok (.string ⟨l.toArray⟩) w := by
    rintro ad rfl hc
    have hb : bv l = (l.map fun x : UInt8 => (x.toNat : Int)).map (Value.int .u8) := by simp [bv]
    have hl : (loadCells ad n).run P w = .ok ((l.map fun x : UInt8 => (x.toNat : Int)).map (Value.int .u8)).toArray w := by
      have := run_loadCells_list (P := P) w ad (bv l) hc
      rw [bv_len, hlen, hb] at this
      exact this
    rw [run_convert_bytes_string w src dst e ad n c hs he hd, run_bytesToString w ad n c _ hl, foldl_push_bytes]
    simp [ByteArray.empty, ByteArray.emptyWithCapacity, Function.comp_def]
    rfl
  rcases h.2.2.2 with h0 | ⟨b, o, e, hb, hc⟩
  · subst h0
    obtain rfl : l = [] := List.eq_nil_of_length_eq_zero hlen
    rcases A with _ | ad
    · exact run_convert_bytes_nil w src e hs he 0 c dst hd
    · exact fin ad rfl (fun j u hu => by simp [bv] at hu)
  · refine fin _ e fun j u hu => ?_
    have := hc j u hu
    by_cases hj : j = 0
    · subst hj; simpa [Addr.add] using this
    · simpa [Addr.add, hj] using this

end Go.Proofs.YtdbnaaddocahpaaDoor
/- Rows of bytes in new memory: what a byte's type is, and make. -/
namespace Go.Proofs.YtdbnaaddocahpaaDoor
open Go.RowKit

theorem u8info : (Tryd.prog.info? 5).map (fun i => (i.zero, i.size, i.bytes)) = some (some (.int .u8 0), 1, 1) := by kernel_rfl

theorem madeBytes (n : Nat) : madeCells (Value.int .u8 0).cells (n * 1) = (List.replicate n (Value.int .u8 0)).toArray := by
  apply Array.ext
  · simp [madeCells]
  · intro i h1 h2; simp [madeCells, Value.cells, Nat.mod_one]

theorem make_bytes (n c : Nat) (hnc : n ≤ c) (h : c ≤ 140737488355328) (W : World) :
    (Instr.makeSlice 69 (.int .i64 (n : Int)) (.int .i64 (c : Int))).run Tryd.prog W = .ok (.slice (some ⟨W.heap.size, 0, none⟩) n c) (W.alloc (.cells (List.replicate c (Value.int .u8 0)).toArray 5)) := by
  obtain ⟨i, hi, hz0, hz1, hz2⟩ := info_parts u8info
  have hr := run_make (P := Tryd.prog) W 69 5 i _ Tryd.underlying69 hi hz0 .i64 .i64 n c (by omega) (by omega) (by rw [hz2]; omega) (by omega)
  rw [hz1] at hr
  simp only [Int.toNat_natCast, madeBytes] at hr
  exact hr

end Go.Proofs.YtdbnaaddocahpaaDoor
/- Quoted texts: the project's and the reference's. -/
namespace Go.Proofs.YtdbnaaddocahpaaDoor
set_option linter.unusedVariables false
open Go.RowKit

theorem odd_of {c : UInt8} (h : c.toNat < 32 ∨ 126 < c.toNat ∨ c.toNat = 34 ∨ c.toNat = 92) : odd8 c = true := by simpa [odd8, or_assoc] using h
theorem odd_not {c : UInt8} (h : ¬ (c.toNat < 32 ∨ 126 < c.toNat ∨ c.toNat = 34 ∨ c.toNat = 92)) : odd8 c = false := by
  rw [← Bool.not_eq_true]
  intro h'
  exact h (by simpa [odd8, or_assoc] using h')
theorem byte_ways (c : UInt8) : ((c.toNat : Int) < 32) ∨ ((32 ≤ (c.toNat : Int) ∧ 126 < (c.toNat : Int))) ∨ ((c.toNat : Int) = 34) ∨ ((c.toNat : Int) = 92) ∨ ((32 ≤ (c.toNat : Int) ∧ (c.toNat : Int) ≤ 126) ∧ ((c.toNat : Int) == 34) = false ∧ ((c.toNat : Int) == 92) = false) := by
  simp only [beq_eq_false_iff_ne]; omega
theorem byte_odd {c : UInt8} (h : ((c.toNat : Int) < 32) ∨ ((32 ≤ (c.toNat : Int) ∧ 126 < (c.toNat : Int))) ∨ ((c.toNat : Int) = 34) ∨ ((c.toNat : Int) = 92)) : odd8 c = true := odd_of (by omega)

set_option maxRecDepth 100000 in
theorem and15 : ∀ x : Nat, x < 256 → x &&& 15 = x % 16 := by decide +kernel
theorem u8_and15 {x : Int} (h1 : 0 ≤ x) (h2 : x < 256) : bits .and .u8 x 15 = x % 16 := by
  rw [u8_and x 15 h1 h2 (by omega) (by omega)]
  have e : (15 : Int).toNat = 15 := rfl
  rw [e, and15 _ (by omega)]; omega

/-- The digits to the base 16. -/
def digs : ByteArray := ⟨#[48, 49, 50, 51, 52, 53, 54, 55, 56, 57, 97, 98, 99, 100, 101, 102]⟩
theorem digs_at : ∀ x : Fin 16, digs[x.val]? = some (hexd x.val) := by decide
theorem digs_get {i : Int} {x : Nat} (hi : i.toNat = x) (hx : x < 16) (h : i.toNat < digs.size) : digs[i.toNat]'h = hexd x := by
  subst hi
  have := digs_at ⟨i.toNat, hx⟩
  dsimp only at this
  rw [getElem?_pos digs i.toNat h] at this
  exact Option.some.inj this

def QRel (w : World) (l : List UInt8) (o i : Value) (wr : World) : Prop :=
  ∃ (k n c : Nat) (A : Option Addr), k ≤ l.length ∧ i = .int .i64 (k : Int) ∧ o = .slice A n c ∧ wr.ownsRow w.heap.size 5 1 (.slice A n c) n (bv ([34] ++ quoteL (l.take k))) ∧ Below w.heap.size w wr

theorem own_lit (w : World) (x : UInt8) : (w.alloc (.cells #[.int .u8 (x.toNat : Int)] 5)).ownsRow w.heap.size 5 1 (.slice (some ⟨w.heap.size, 0, none⟩) 1 1) 1 (bv [x]) :=
  ⟨rfl, .inr ⟨w.heap.size, 1, #[.int .u8 (x.toNat : Int)], rfl, Nat.le_refl _, heap_alloc_new w _, Nat.le_refl _, by simp [maxLen], rfl, rfl⟩⟩

theorem quoteL_step {l : List UInt8} {k : Nat} {b : UInt8} (h : l[k]? = some b) : quoteL (l.take (k + 1)) = quoteL (l.take k) ++ quoteC b := by
  obtain ⟨hk, e⟩ := List.getElem?_eq_some_iff.1 h
  rw [List.take_succ_eq_append_getElem hk, quoteL_app, e]
  simp [quoteL]

/-- A literal's bytes, appended. -/
theorem append_bytes {w : World} {base n c m : Nat} {A : Option Addr} {l : List UInt8} (h : w.ownsRow base 5 1 (.slice A n c) n (bv l)) (cs : List UInt8) (hm : cs.length = m) (hn : n + m ≤ 140737488355328) (hb : base ≤ w.heap.size) :
    ∃ A' c' w', (Builtin.append_ #[69, 69] 69 #[.slice A n c, .slice (some ⟨w.heap.size, 0, none⟩) m m]).run Tryd.prog (w.alloc (.cells (bv cs).toArray 5)) = .ok (.slice A' (n + m) c') w' ∧
      w'.ownsRow base 5 1 (.slice A' (n + m) c') (n + m) (bv (l ++ cs)) ∧ Below base w w' := by
  obtain ⟨i, hi, hz0, hz1, hz2⟩ := info_parts u8info
  obtain ⟨A', c', w', h1, h2, h3⟩ := append_row (P := Tryd.prog) (ty := 69) Tryd.underlying69 hi hz0 hz1 hz2 (h.alloc _) (Sl.lit w 5 (bv cs) m (by rw [bv_len, hm]) (by unfold maxLen; omega)) one_bv hn (by rw [size_al]; omega)
  exact ⟨A', c', w', h1, by rw [bv_app]; exact h2, ((Below.refl base w).alloc hb _).trans h3⟩

set_option maxHeartbeats 1600000 in
set_option maxRecDepth 100000 in
theorem quoted_any (s : ByteArray) (hs : s.size ≤ 1000000) (w : World) :
    Calls Tryd.prog 73 #[.string s] w fun e w' => e = .returned (.string ⟨(quoteB s.data.toList).toArray⟩) ∧ Below w.heap.size w w' := by
  have hl := data_len s
  generalize hL : s.data.toList = l at *
  have HD : Hid (∀ k (h : k < s.size), l[k]? = some s[k]) := by
    show ∀ k (h : k < s.size), l[k]? = some s[k]
    subst hL; exact fun k h => data_at h
  have HL := Lib.hid hl
  have hstart : QRel w l (.slice (some ⟨w.heap.size, 0, none⟩) 1 1) (.int .i64 0) (w.alloc (.cells #[.int .u8 34] 5)) :=
    ⟨0, 1, 1, _, by omega, rfl, rfl, by simpa [quoteL] using own_lit w 34, (Below.refl _ _).alloc (Nat.le_refl _) _⟩
  have HS := Lib.hid hstart
  clear hl hL hstart
  go_enter Tryd.func73, Tryd.ntmps73
  go_wp2_with fail
  go_loopw [3, 9] (fun o i wr => QRel w l o i wr) (fun _ i _ => s.size - (intOf i).toNat)
  case atStart => exact HS.out
  case round =>
    obtain ⟨k, n, c, A, hk, rfl, rfl, hown, hbel⟩ := hrel
    have hn : n ≤ 3000001 := by
      have := hown.1
      have h2 := quoteL_len (l.take k)
      have h3 := HL.out
      simp [bv_len] at this h2
      omega
    have hkl : k ≤ s.size := by have := HL.out; omega
    have HB := Lib.hid hbel
    by_cases hlt : k < s.size
    · have hc := HD.out k hlt
      have hi2 : 0 ≤ (k : Int) ∧ (k : Int) < s.size := by omega
      generalize hcc : s[k] = b at *
      have HC := Lib.hid hc
      clear hc
      rcases byte_ways b with a | a | a | a | a
      case inr.inr.inr.inr =>
        obtain ⟨A2, c2, w2, hap, hown2, hbel2⟩ := append_bytes hown [b] (m := 1) rfl (by omega) hbel.size
        have HO2 := Lib.hid hown2
        have HB2 := Lib.hid (hbel.trans hbel2)
        have HODD : Hid (odd8 b = false) := odd_not (by obtain ⟨a1, a2, a3⟩ := a; simp only [beq_eq_false_iff_ne] at a2 a3; omega)
        have HAP := Lib.hid hap
        clear hown hbel hown2 hbel2 hk hap
        go_wp2_with (at_builtin; refine wpList_append_run rfl _ _ _ _ rfl rfl rfl HAP.out ?_)
        go_roundw
        case rel =>
          refine ⟨k + 1, n + 1, c2, A2, by have := HL.out; omega, by go_num, rfl, ?_, HB2.out⟩
          have e : quoteL (l.take (k + 1)) = quoteL (l.take k) ++ [b] := by rw [quoteL_step HC.out]; unfold quoteC; rw [HODD.out]; rfl
          rw [e, ← List.append_assoc]
          exact HO2.out
        case measure => simp [intOf]; omega
      case inr.inr.inl =>
        obtain rfl : b = 34 := UInt8.toNat_inj.1 (by have : (34 : UInt8).toNat = 34 := rfl; omega)
        have HODD : Hid (odd8 34 = true) := rfl
        have hb1 : bits .and .u8 34 15 = 2 := by decide
        have hd1 : ∀ h, (⟨#[48, 49, 50, 51, 52, 53, 54, 55, 56, 57, 97, 98, 99, 100, 101, 102]⟩ : ByteArray)[2]'h = 50 := fun h => rfl
        have hd2 : ∀ h, (⟨#[48, 49, 50, 51, 52, 53, 54, 55, 56, 57, 97, 98, 99, 100, 101, 102]⟩ : ByteArray)[2]'h = 50 := fun h => rfl
        clear a
        obtain ⟨A2, c2, w2, hap, hown2, hbel2⟩ := append_bytes (w := wr.drew) (base := w.heap.size) (A := A) (n := n) (c := c) (l := [34] ++ quoteL (l.take k)) hown [92, 50, 50] (m := 3) rfl (by omega) hbel.size
        have HO2 := Lib.hid hown2
        have HB2 := Lib.hid ((below_drewN hbel 1).trans hbel2)
        have hap' : (Builtin.append_ #[69, 69] 69 #[.slice A n c, .slice (some ⟨wr.heap.size, 0, none⟩) 3 3]).run Tryd.prog ((wr.alloc (.cells #[.int .u8 92, .int .u8 50, .int .u8 50] 5)).drew) = .ok (.slice A2 (n + 3) c2) w2 := hap
        have HAP := Lib.hid hap'
        clear hown hbel hown2 hbel2 hk hap hap'
        go_wp2_with fail
        go_region_law (refine step_append_run rfl (.tmp 29) (.tmp 36) _ _ rfl (by simp [Act.eval]) (by simp [Act.eval]) HAP.out ?_)
        all_goals
         go_wp2_with fail
         go_roundw
         case rel =>
          refine ⟨k + 1, n + 3, c2, A2, by have := HL.out; omega, by go_num, rfl, ?_, HB2.out⟩
          have e : quoteL (l.take (k + 1)) = quoteL (l.take k) ++ [92, 50, 50] := by rw [quoteL_step HC.out]; unfold quoteC; rw [HODD.out]; rfl
          rw [e, ← List.append_assoc]
          exact HO2.out
         case measure => simp [intOf]; omega
      case inr.inr.inr.inl =>
        obtain rfl : b = 92 := UInt8.toNat_inj.1 (by have : (92 : UInt8).toNat = 92 := rfl; omega)
        have HODD : Hid (odd8 92 = true) := rfl
        have hb1 : bits .and .u8 92 15 = 12 := by decide
        have hd1 : ∀ h, (⟨#[48, 49, 50, 51, 52, 53, 54, 55, 56, 57, 97, 98, 99, 100, 101, 102]⟩ : ByteArray)[5]'h = 53 := fun h => rfl
        have hd2 : ∀ h, (⟨#[48, 49, 50, 51, 52, 53, 54, 55, 56, 57, 97, 98, 99, 100, 101, 102]⟩ : ByteArray)[12]'h = 99 := fun h => rfl
        clear a
        obtain ⟨A2, c2, w2, hap, hown2, hbel2⟩ := append_bytes (w := wr.drew) (base := w.heap.size) (A := A) (n := n) (c := c) (l := [34] ++ quoteL (l.take k)) hown [92, 53, 99] (m := 3) rfl (by omega) hbel.size
        have HO2 := Lib.hid hown2
        have HB2 := Lib.hid ((below_drewN hbel 1).trans hbel2)
        have hap' : (Builtin.append_ #[69, 69] 69 #[.slice A n c, .slice (some ⟨wr.heap.size, 0, none⟩) 3 3]).run Tryd.prog ((wr.alloc (.cells #[.int .u8 92, .int .u8 53, .int .u8 99] 5)).drew) = .ok (.slice A2 (n + 3) c2) w2 := hap
        have HAP := Lib.hid hap'
        clear hown hbel hown2 hbel2 hk hap hap'
        go_wp2_with fail
        go_region_law (refine step_append_run rfl (.tmp 29) (.tmp 36) _ _ rfl (by simp [Act.eval]) (by simp [Act.eval]) HAP.out ?_)
        all_goals
         go_wp2_with fail
         go_roundw
         case rel =>
          refine ⟨k + 1, n + 3, c2, A2, by have := HL.out; omega, by go_num, rfl, ?_, HB2.out⟩
          have e : quoteL (l.take (k + 1)) = quoteL (l.take k) ++ [92, 53, 99] := by rw [quoteL_step HC.out]; unfold quoteC; rw [HODD.out]; rfl
          rw [e, ← List.append_assoc]
          exact HO2.out
         case measure => simp [intOf]; omega
      all_goals
        have HODD : Hid (odd8 b = true) := odd_of (by omega)
        have hb8 : b.toNat < 256 := b.toNat_lt
        have hx1 : 0 ≤ (b.toNat : Int) / 16 ∧ (b.toNat : Int) / 16 < 16 := by omega
        have hx2 : 0 ≤ (b.toNat : Int) % 16 ∧ (b.toNat : Int) % 16 < 16 := by omega
        have hb1 : bits .and .u8 (b.toNat : Int) 15 = (b.toNat : Int) % 16 := u8_and15 (by omega) (by omega)
        have hd1 : ∀ h, (⟨#[48, 49, 50, 51, 52, 53, 54, 55, 56, 57, 97, 98, 99, 100, 101, 102]⟩ : ByteArray)[((b.toNat : Int) / 16).toNat]'h = hexd (b.toNat / 16) := fun h => digs_get (by omega) (by omega) h
        have hd2 : ∀ h, (⟨#[48, 49, 50, 51, 52, 53, 54, 55, 56, 57, 97, 98, 99, 100, 101, 102]⟩ : ByteArray)[((b.toNat : Int) % 16).toNat]'h = hexd (b.toNat % 16) := fun h => digs_get (by omega) (by omega) h
        obtain ⟨A2, c2, w2, hap, hown2, hbel2⟩ := append_bytes (w := wr.drew) (base := w.heap.size) (A := A) (n := n) (c := c) (l := [34] ++ quoteL (l.take k)) hown [92, hexd (b.toNat / 16), hexd (b.toNat % 16)] (m := 3) rfl (by omega) hbel.size
        have HO2 := Lib.hid hown2
        have HB2 := Lib.hid ((below_drewN hbel 1).trans hbel2)
        have hap' : (Builtin.append_ #[69, 69] 69 #[.slice A n c, .slice (some ⟨wr.heap.size, 0, none⟩) 3 3]).run Tryd.prog ((wr.alloc (.cells #[.int .u8 92, .int .u8 ((hexd (b.toNat / 16)).toNat : Int), .int .u8 ((hexd (b.toNat % 16)).toNat : Int)] 5)).drew) = .ok (.slice A2 (n + 3) c2) w2 := hap
        have HAP := Lib.hid hap'
        clear hown hbel hown2 hbel2 hk hap hap'
        go_wp2_with fail
        go_region_law (refine step_append_run rfl (.tmp 29) (.tmp 36) _ _ rfl (by simp [Act.eval]) (by simp [Act.eval]) HAP.out ?_)
        all_goals
         go_wp2_with fail
         go_roundw
         case rel =>
          refine ⟨k + 1, n + 3, c2, A2, by have := HL.out; omega, by go_num, rfl, ?_, HB2.out⟩
          have e : quoteL (l.take (k + 1)) = quoteL (l.take k) ++ [92, hexd (b.toNat / 16), hexd (b.toNat % 16)] := by rw [quoteL_step HC.out]; unfold quoteC; rw [HODD.out]; rfl
          rw [e, ← List.append_assoc]
          exact HO2.out
         case measure => simp [intOf]; omega
    · obtain rfl : k = s.size := by omega
      obtain ⟨A2, c2, w2, hap, hown2, hbel2⟩ := append_bytes hown [34] (m := 1) rfl (by omega) hbel.size
      have e : [34] ++ quoteL (l.take s.size) ++ [34] = quoteB l := by rw [← HL.out, List.take_length]; rfl
      rw [e] at hown2
      have hcv := conv_text Tryd.underlying69 Tryd.underlying5 Tryd.underlying9 (Sl.of_own hown2)
      have HB2 := Lib.hid (hbel.trans hbel2)
      have HAP := Lib.hid hap
      clear hown hbel hown2 hbel2 hk hap e
      go_wp2_with (at_builtin; refine wpList_append_run rfl _ _ _ _ rfl rfl rfl HAP.out ?_)
      go_ret
      exact ⟨rfl, HB2.out⟩
end Go.Proofs.YtdbnaaddocahpaaDoor
/- Digits and texts, plainly. -/
namespace Go.Proofs.YtdbnaaddocahpaaDoor
set_option linter.unusedVariables false
open Go.RowKit

theorem dec_big {m : Nat} (h : ¬ m < 10) : Lib.decDigits m = Lib.decDigits (m / 10) ++ [UInt8.ofNat (48 + m % 10)] := by rw [Lib.decDigits, dif_neg h]
theorem dec_small {m : Nat} (h : m < 10) : Lib.decDigits m = [UInt8.ofNat (48 + m % 10)] := by rw [Lib.decDigits, dif_pos h, Nat.mod_eq_of_lt h]
theorem dec_len {m : Nat} (h : m < 18446744073709551616) : (Lib.decDigits m).length ≤ 20 := by
  rw [Lib.decDigits_length]
  exact Lib.nDigits_le20 m h
theorem str_add (a b : List UInt8) : (⟨a.toArray⟩ : ByteArray) ++ ⟨b.toArray⟩ = ⟨(a ++ b).toArray⟩ := by
  have e : ∀ a b : ByteArray, a.data = b.data → a = b := fun a b h => by cases a; cases b; simp_all
  apply e
  simp [ByteArray.data_append]

end Go.Proofs.YtdbnaaddocahpaaDoor
/- The texts of values: the project's and the reference's. -/
namespace Go.Proofs.YtdbnaaddocahpaaDoor
set_option linter.unusedVariables false
open Go.RowKit

theorem show_wrong {v : Vl} (h : ¬ v.right) : showB v = [] := by unfold showB; rw [if_neg h]
theorem show1 {n : Int} {s : ByteArray} (h : Vl.right ⟨1, n, s⟩) : showB ⟨1, n, s⟩ = Lib.formatBool (n == 1) := by
  unfold showB
  rw [if_pos h, if_pos rfl]
  by_cases hn : n = 1
  · subst hn; rfl
  · rw [if_neg hn, show (n == 1) = false from by rw [beq_eq_false_iff_ne]; exact hn]; rfl
theorem show2 {n : Int} {s : ByteArray} (h : Vl.right ⟨2, n, s⟩) : showB ⟨2, n, s⟩ = Lib.itoa n := by unfold showB; rw [if_pos h]; simp
theorem show3 {n : Int} {s : ByteArray} (h : Vl.right ⟨3, n, s⟩) : showB ⟨3, n, s⟩ = quoteB s.data.toList := by unfold showB; rw [if_pos h]; simp [Vl.l]
theorem show4 {n : Int} {s : ByteArray} (h : Vl.right ⟨4, n, s⟩) : showB ⟨4, n, s⟩ = 64 :: Lib.itoa n := by unfold showB; rw [if_pos h]; simp
theorem show5 {n : Int} {s : ByteArray} (h : Vl.right ⟨5, n, s⟩) : showB ⟨5, n, s⟩ = 35 :: s.data.toList := by unfold showB; rw [if_pos h]; simp [Vl.l]
theorem ret_str {x y : ByteArray} (h : x = y) : Ending.returned (.string x) = .returned (.string y) := by rw [h]
theorem mk_self (s : ByteArray) : (⟨s.data.toList.toArray⟩ : ByteArray) = s := by simp

theorem str_add_s (a : List UInt8) (s : ByteArray) : (⟨a.toArray⟩ : ByteArray) ++ s = ⟨(a ++ s.data.toList).toArray⟩ := by rw [← str_add, mk_self]

set_option maxHeartbeats 3200000 in
theorem vtext_any (k n : Int) (s : ByteArray) (hn : -9223372036854775808 ≤ n ∧ n ≤ 9223372036854775807) (hs : s.size ≤ 1000000) (w : World) (htab : Tab w) :
    Calls Tryd.prog 64 #[.agg #[.int .i64 k, .int .i64 n, .string s]] w fun e w' => e = .returned (.string ⟨(showB ⟨k, n, s⟩).toArray⟩) ∧ Below w.heap.size w w' := by
  have hr := right_any k n s (by unfold maxLen; omega)
  have ht : ∀ w', Below w.heap.size w w' → Tab w' := fun w' hb => htab.then_ hb
  have HT := Lib.hid ht
  have HN := Lib.hid hn
  have hq := quoted_any s hs
  have HQ := Lib.hid hq
  have HS := Lib.hid (data_len s)
  clear ht htab hn hq
  by_cases h1 : RightV k n s.data.toList
  · rw [decide_eq_true h1] at hr
    have HR := Lib.hid hr
    have H1 : Hid (Vl.right ⟨k, n, s⟩) := h1
    have hkk : k = 1 ∨ k = 2 ∨ k = 3 ∨ k = 4 ∨ k = 5 := by
      rcases kind_cases k with h | h | h | h | h | h
      · exact .inl h
      · exact .inr (.inl h)
      · exact .inr (.inr (.inl h))
      · exact .inr (.inr (.inr (.inl h)))
      · exact .inr (.inr (.inr (.inr h)))
      · exact absurd h1 (rv_none h)
    clear hr h1
    rcases hkk with rfl | rfl | rfl | rfl | rfl
    all_goals
      go_enter Tryd.func64, Tryd.ntmps64
      go_wp2_with fail
      refine (HR.out _).mono ?_
      rintro e w1 ⟨rfl, hb1⟩
      have b1 := ((Bx.made w _ n s).then_ hb1).c3
      have D1 := Lib.hid (Below.lit hb1)
      clear hb1
    · go_wp2_with fail
      refine (Tryd.strconv_FormatBool _ _).mono ?_
      rintro e w2 ⟨rfl, rfl⟩
      go_wp2_with fail
      go_ret
      exact ⟨ret_str (by rw [show1 H1.out]), D1.out⟩
    · go_wp2_with fail
      refine (itoa_any (HT.out _ D1.out) n HN.out.1 HN.out.2).mono ?_
      rintro e w2 ⟨rfl, hb2⟩
      have D2 := Lib.hid (below_step D1.out hb2)
      clear hb2
      go_wp2_with fail
      go_ret
      exact ⟨ret_str (by rw [show2 H1.out]), D2.out⟩
    · go_wp2_with fail
      refine (HQ.out _).mono ?_
      rintro e w2 ⟨rfl, hb2⟩
      have D2 := Lib.hid (below_step D1.out hb2)
      clear hb2
      go_wp2_with fail
      go_ret
      exact ⟨ret_str (by rw [show3 H1.out]), D2.out⟩
    · go_wp2_with fail
      refine (itoa_any (HT.out _ D1.out) n HN.out.1 HN.out.2).mono ?_
      rintro e w2 ⟨rfl, hb2⟩
      have D2 := Lib.hid (below_step D1.out hb2)
      have hlen := Lib.itoa_length_le n HN.out.1 HN.out.2
      have HI := Lib.hid (show (⟨#[64]⟩ : ByteArray) ++ ⟨(Lib.itoa n).toArray⟩ = ⟨(showB ⟨4, n, s⟩).toArray⟩ by
        rw [show4 H1.out, show (⟨#[64]⟩ : ByteArray) = ⟨[64].toArray⟩ from rfl, str_add]; rfl)
      clear hb2
      generalize Lib.itoa n = li at *
      go_wp2_with fail
      go_ret
      exact ⟨ret_str HI.out, D2.out⟩
    · have HI := Lib.hid (show (⟨#[35]⟩ : ByteArray) ++ s = ⟨(showB ⟨5, n, s⟩).toArray⟩ by
        rw [show5 H1.out, show (⟨#[35]⟩ : ByteArray) = ⟨[35].toArray⟩ from rfl, str_add_s]; rfl)
      have hle : ¬ 9223372036854775807 < 1 + s.size := by omega
      go_wp2_with fail
      go_ret
      exact ⟨ret_str HI.out, D1.out⟩
  · rw [decide_eq_false h1] at hr
    have HR := Lib.hid hr
    have H1 : Hid (¬ Vl.right ⟨k, n, s⟩) := h1
    clear hr h1
    go_enter Tryd.func64, Tryd.ntmps64
    go_wp2_with fail
    refine (HR.out _).mono ?_
    rintro e w1 ⟨rfl, hb1⟩
    have D1 := Lib.hid (Below.lit hb1)
    clear hb1
    go_wp2_with fail
    go_ret
    exact ⟨ret_str (by rw [show_wrong H1.out]), D1.out⟩

end Go.Proofs.YtdbnaaddocahpaaDoor
/- An attribute's text; a match's; a duty's. -/
namespace Go.Proofs.YtdbnaaddocahpaaDoor
set_option linter.unusedVariables false
open Go.RowKit

theorem bl_app (a b : ByteArray) : bl (a ++ b) = bl a ++ bl b := by
  show (a ++ b).data.toList = _
  rw [ByteArray.data_append, Array.toList_append]
  rfl
theorem bl_mk (l : List UInt8) : bl (⟨l.toArray⟩ : ByteArray) = l := rfl
theorem bl_mka (l : Array UInt8) : bl (⟨l⟩ : ByteArray) = l.toList := rfl
theorem ret_text {x : ByteArray} {l : List UInt8} (h : bl x = l) : Ending.returned (.string x) = .returned (.string ⟨l.toArray⟩) := ret_str (text_eq h)
theorem word_size {l : List UInt8} {n : Nat} (h : l.length ≤ n) : (⟨l.toArray⟩ : ByteArray).size ≤ n := h

set_option maxHeartbeats 800000 in
theorem show_attr (a : Atr) (hok : a.ok) (w : World) (ht : Tbl w) :
    Calls Tryd.prog 65 #[.agg #[.int .i64 a.cat, .string a.name, .bool a.must]] w fun e w' => e = .returned (.string ⟨(attrS a).toArray⟩) ∧ Below w.heap.size w w' := by
  have hcon := fun W => attr_any a hok W
  have HT := Lib.hid ht
  obtain ⟨c, nm, mu⟩ := a
  by_cases h : attrB ⟨c, nm, mu⟩ = true
  · have hall := h
    unfold attrB at hall
    simp only [Bool.and_eq_true, decide_eq_true_eq] at hall
    obtain ⟨⟨h1, h4⟩, hn⟩ := hall
    have hsz : nm.size ≤ 16 := hn.1.2
    have hi : 0 ≤ c ∧ c < 5 := by omega
    obtain ⟨x, hx⟩ : ∃ x : ByteArray, x = ⟨(catW c).toArray⟩ := ⟨_, rfl⟩
    have hxs : x.size ≤ 7 := by rw [hx]; exact word_size (catW_len c)
    have HE : Hid (attrS ⟨c, nm, mu⟩ = bl x ++ 46 :: (bl nm ++ if mu = true then [33] else [])) := by
      show attrS _ = _
      unfold attrS
      rw [if_pos h, hx]
      rfl
    have HG : Hid (∀ W, Below w.heap.size w W → W.cell? ⟨5, c.toNat, none⟩ = some (.string x)) := fun W hb => by
      rw [hx]; exact (HT.out.then_ hb).cat h1 h4
    rw [h] at hcon
    have HC := Lib.hid hcon
    clear hcon ht hok h hn hx h1 h4
    generalize attrS ⟨c, nm, mu⟩ = r at *
    cases mu
    all_goals
      go_enter Tryd.func65, Tryd.ntmps65
      go_wp2_with (go_at_call 71; refine (HC.out _).mono ?_; rintro e w1 ⟨rfl, hb1⟩; have B1 := Lib.hid (Below.lit hb1); have C1 := Lib.hid (Ob.below (Ob.made _ _ _) hb1 (by simp)); have c0 := C1.out.cell 0; have c1 := C1.out.cell 1; have c2 := C1.out.cell 2)
      have hg := HG.out _ B1.out
      clear hb1
      go_quiet (fail)
      go_wp2_with fail
      go_ret
      refine ⟨ret_text ?_, below_drewN B1.out _⟩
      rw [HE.out]
      simp [bl_app, bl_mka]
  · rw [Bool.not_eq_true] at h
    have HE : Hid (attrS ⟨c, nm, mu⟩ = []) := by
      show attrS _ = _
      unfold attrS
      rw [if_neg (by rw [h]; simp)]
    rw [h] at hcon
    have HC := Lib.hid hcon
    clear hcon ht hok h
    generalize attrS ⟨c, nm, mu⟩ = r at *
    go_enter Tryd.func65, Tryd.ntmps65
    go_wp2_with (go_at_call 71; refine (HC.out _).mono ?_; rintro e w1 ⟨rfl, hb1⟩; have B1 := Lib.hid (Below.lit hb1))
    go_ret
    exact ⟨ret_text (by rw [HE.out]; rfl), B1.out⟩

theorem show_effect (b : Bool) (w : World) : Calls Tryd.prog 36 #[.bool b] w fun e w' => e = .returned (.string ⟨(effW b).toArray⟩) ∧ w' = w := by
  cases b
  all_goals
    go_enter Tryd.func36, Tryd.ntmps36
    go_wp2_with fail
    go_ret
    exact ⟨rfl, rfl⟩
theorem show_takes (op : Int) (w : World) : Calls Tryd.prog 52 #[.int .i64 op] w fun e w' => e = .returned (.int .i64 (takesN op)) ∧ w' = w := by
  have two : (op = 1 ∨ op = 2 ∨ op = 3 ∨ op = 4 ∨ op = 11) ∨ ((op == 1) = false ∧ (op == 2) = false ∧ (op == 3) = false ∧ (op == 4) = false ∧ (op == 11) = false) := by
    simp only [beq_eq_false_iff_ne]; omega
  rcases two with (rfl | rfl | rfl | rfl | rfl) | ⟨h1, h2, h3, h4, h11⟩
  case inr =>
    have HE := Lib.hid (show takesN op = 2 by simp only [beq_eq_false_iff_ne] at *; unfold takesN; simp [h1, h2, h3, h4, h11])
    go_enter Tryd.func52, Tryd.ntmps52
    go_wp2_with fail
    go_ret
    exact ⟨ret_int (by rw [HE.out]; rfl), rfl⟩
  all_goals
    go_enter Tryd.func52, Tryd.ntmps52
    go_wp2_with fail
    go_ret
    exact ⟨rfl, rfl⟩
end Go.Proofs.YtdbnaaddocahpaaDoor
/- A region that draws its order: its head, in whatever order, under a condition on the world (loads that it tells are taken first); and a forced tail, that may break the condition. -/
namespace Go.Proofs.YtdbnaaddocahpaaDoor
open Go Go.RowKit

section
variable {P : Program} {ops : Array Oper} {md : Region.Mode} {Q : Exit → Act → World → Prop} {S : World → Prop} {L : Array Bool → Act → World → Prop} {n : Nat}

/-- Whatever order is picked among the first n, till L; S holds behind each. -/
def HeadS (P : Program) (md : Region.Mode) (ops : Array Oper) (Q : Exit → Act → World → Prop) (S : World → Prop) (n : Nat) (L : Array Bool → Act → World → Prop) : Nat → Array Bool → Act → World → Prop
  | 0, listed, a, w => L listed a w
  | f + 1, listed, a, w => Region.ready md ops listed ≠ [] ∧ ∀ i ∈ Region.ready md ops listed, i < n ∧ wpOp P ops Q i (fun a' w' => S w' ∧ HeadS P md ops Q S n L f (listed.setIfInBounds i true) a' w') a w

theorem HeadS.any {g : Nat} (hL : ∀ listed a w, L listed a w → wpAny P md ops Q g listed a w) :
    ∀ (f : Nat) (listed : Array Bool) (a : Act) (w : World), HeadS P md ops Q S n L f listed a w → wpAny P md ops Q (f + g) listed a w
  | 0, _, _, _, h => by rw [Nat.zero_add]; exact hL _ _ _ h
  | f + 1, _, _, _, h => by
    rw [show f + 1 + g = (f + g) + 1 by omega]
    exact ⟨fun h0 => absurd h0 h.1, fun i hi => wpOp_mono (fun a' w' h' => HeadS.any hL f _ a' w' h'.2) (h.2 i hi).2⟩

theorem HeadS.first {i : Nat} {oi : Oper} {v : Value} (hi : ops[i]? = some oi) (hsel : ∀ (j : Nat) (o : Oper) cs b, ops[j]? = some o → o.op ≠ .select cs b)
    (hQ : ∀ c a w, Q (.panic c) (a.put oi.dst v) w → Q (.panic c) a w)
    (hs : Region.sinkB md ops n = true) (hc : Region.chainB md ops n = true) (hn : n < ops.size) (hin : i < n) (hdone : ∀ listed a w, L listed a w → ∀ j ∈ Region.ready md ops listed, n ≤ j) :
    ∀ (f : Nat) (listed : Array Bool) (a : Act) (w : World), HeadInv md ops n listed →
      (∀ j oj, ops[j]? = some oj → j ≠ i → listed.getD j true = false → (∀ e ∈ oj.after, Region.binds md e = true → e.on ≠ i) → oi.apart ops oj = true) →
      i ∈ Region.ready md ops listed → YieldsIf P ops S oi v a → S w → HeadS P md ops Q S n L f (listed.setIfInBounds i true) (a.put oi.dst v) w → HeadS P md ops Q S n L (f + 1) listed a w := by
  intro f
  induction f with
  | zero =>
    intro listed a w inv _ hr hy hS H
    refine ⟨fun h => (by rw [h] at hr; cases hr), fun j hj => ?_⟩
    have hjn : j < n := Nat.lt_of_not_le fun h => tail_waits hs hc hn inv _ i rfl hin (mem_ready.1 hr).1 j h hj
    refine ⟨hjn, ?_⟩
    by_cases hji : j = i
    · subst hji; exact hy.wpOp hi hS ⟨hS, H⟩
    · have := hdone _ _ _ H j (ready_mono hj hji)
      omega
  | succ f ih =>
    intro listed a w inv hfree hr hy hS H
    have hun := (mem_ready.1 hr).1
    refine ⟨fun h => (by rw [h] at hr; cases hr), fun j hj => ?_⟩
    have hjn : j < n := Nat.lt_of_not_le fun h => tail_waits hs hc hn inv _ i rfl hin hun j h hj
    refine ⟨hjn, ?_⟩
    by_cases hji : j = i
    · subst hji; exact hy.wpOp hi hS ⟨hS, H⟩
    · have h1 := (H.2 j (ready_mono hj hji)).2
      obtain ⟨hjun, oj, hoj, hall⟩ := mem_ready.1 hj
      have hnot : ∀ e ∈ oj.after, Region.binds md e = true → e.on ≠ i := fun e he hb heq => by
        have h1 := hall e he hb
        rw [heq, getD_both hun] at h1
        cases h1
      have h2 := wpOp_putIf hoj (hfree j oj hoj hji hjun hnot) (fun cs b => hsel i oi cs b hi) (fun cs b => hsel j oj cs b hoj) hQ hy h1
      have hfree' : ∀ k ok, ops[k]? = some ok → k ≠ i → (listed.setIfInBounds j true).getD k true = false →
          (∀ e ∈ ok.after, Region.binds md e = true → e.on ≠ i) → oi.apart ops ok = true := fun k ok hk hki hun' hno => by
        refine hfree k ok hk hki ?_ hno
        by_cases hjk : j = k
        · subst hjk; exact hjun
        · rw [getD_set_ne true hjk] at hun'; exact hun'
      refine wpOp_mono (fun a' w' h3 => ⟨h3.2.1, ih (listed.setIfInBounds j true) a' w' (inv.set hj hjn) hfree' (ready_mono hr (Ne.symm hji)) h3.1 h3.2.1 ?_⟩) h2
      rw [Array.setIfInBounds_comm _ _ hji]
      exact h3.2.2

/-- In a state that can be. -/
def HeadW (P : Program) (md : Region.Mode) (ops : Array Oper) (Q : Exit → Act → World → Prop) (S : World → Prop) (n : Nat) (L : Array Bool → Act → World → Prop) (f : Nat) (listed : Array Bool) (a : Act) (w : World) : Prop :=
  HeadInv md ops n listed → HeadS P md ops Q S n L f listed a w
/-- What is known of the region. -/
def HeadG (md : Region.Mode) (ops : Array Oper) (n : Nat) (L : Array Bool → Act → World → Prop) : Prop :=
  Region.noSelect ops = true ∧ Region.sinkB md ops n = true ∧ Region.chainB md ops n = true ∧ n < ops.size ∧ ∀ listed a w, L listed a w → ∀ j ∈ Region.ready md ops listed, n ≤ j

theorem HeadW_take {i : Nat} {oi : Oper} {v : Value} {f : Nat} {listed : Array Bool} {a : Act} {w : World} (G : HeadG md ops n L) (hi : ops[i]? = some oi)
    (hin : Nat.blt i n = true) (hf : Region.free md ops listed i = true) (hr : (Region.ready md ops listed).contains i = true)
    (hQ : ∀ c a w, Q (.panic c) (a.put oi.dst v) w → Q (.panic c) a w) (hy : YieldsIf P ops S oi v a) (hS : S w)
    (h : HeadW P md ops Q S n L f (listed.setIfInBounds i true) (a.put oi.dst v) w) : HeadW P md ops Q S n L (f + 1) listed a w := fun inv => by
  have hin' : i < n := by simpa using hin
  have hr' : i ∈ Region.ready md ops listed := by simpa using hr
  exact HeadS.first hi (Region.noSelect_spec G.1) hQ G.2.1 G.2.2.1 G.2.2.2.1 hin' G.2.2.2.2 f listed a w inv (Region.free_spec hi hf) hr' hy hS (h (inv.set hr' hin'))

/-- Each of these comes up next. -/
def AllW (P : Program) (md : Region.Mode) (ops : Array Oper) (Q : Exit → Act → World → Prop) (S : World → Prop) (n : Nat) (L : Array Bool → Act → World → Prop) (f : Nat) (listed : Array Bool) (a : Act) (w : World) (rs : List Nat) : Prop :=
  ∀ i ∈ rs, wpOp P ops Q i (fun a' w' => S w' ∧ HeadW P md ops Q S n L f (listed.setIfInBounds i true) a' w') a w
theorem AllW.nil {f : Nat} {listed : Array Bool} {a : Act} {w : World} : AllW P md ops Q S n L f listed a w [] := fun _ h => by cases h
theorem AllW.cons {f : Nat} {listed : Array Bool} {a : Act} {w : World} {i : Nat} {o : Oper} {rs : List Nat} (ho : ops[i]? = some o)
    (h : ∀ K' : Act → World → Prop, (∀ a w, S w → HeadW P md ops Q S n L f (listed.setIfInBounds i true) a w → K' a w) → if Region.wanted o (yielded ops a.tmps) = true then Oper.wp P o a w K' Q else K' (a.put o.dst undef) w)
    (hs : AllW P md ops Q S n L f listed a w rs) : AllW P md ops Q S n L f listed a w (i :: rs) := fun j hj => by
  rcases List.mem_cons.1 hj with rfl | hj
  · exact wpOp_step ho fun K' hK => h K' fun a w h1 h2 => hK a w ⟨h1, h2⟩
  · exact hs j hj
theorem HeadW_ready {rs : List Nat} {f : Nat} {listed : Array Bool} {a : Act} {w : World} (hr : Region.ready md ops listed = rs) (hne : rs.isEmpty = false) (hin : rs.all (fun i => Nat.blt i n) = true)
    (h : AllW P md ops Q S n L f listed a w rs) : HeadW P md ops Q S n L (f + 1) listed a w := fun inv => by
  subst hr
  refine ⟨fun h0 => (by rw [h0] at hne; cases hne), fun i hi => ?_⟩
  have hin' : i < n := by simpa using List.all_eq_true.1 hin i hi
  exact ⟨hin', wpOp_mono (fun a' w' h' => ⟨h'.1, h'.2 (inv.set hi hin')⟩) (h i hi)⟩

/-- What is left: the tail, one behind the other. -/
def TailL (P : Program) (ops : Array Oper) (Q : Exit → Act → World → Prop) (n g : Nat) (r : List Oper) (listed : Array Bool) (a : Act) (w : World) : Prop := Region.seqB .any ops g n listed = true ∧ wpList P ops Q r a w

theorem wp_region_held_tail {id : Nat} {a : Act} {w : World} {l : List Oper} (S : World → Prop) (n : Nat) (hm : P.follows .mixedOrders = true)
    (hB : (Region.noSelect l.toArray && Nat.blt n l.length && Region.sinkB .any l.toArray n && Region.chainB .any l.toArray n) = true)
    (h : HeadG .any l.toArray n (TailL P l.toArray Q n (l.length - n) (l.drop n)) → HeadW P .any l.toArray Q S n (TailL P l.toArray Q n (l.length - n) (l.drop n)) n (Array.replicate l.toArray.size false) a { w with drawn := w.drawn + 1 }) :
    (Code.region id l.toArray true).wp P Q a w := by
  simp only [Bool.and_eq_true] at hB
  obtain ⟨⟨⟨hsel, hn⟩, hs⟩, hc⟩ := hB
  have hn' : n < l.length := by simpa using hn
  have hdl : (l.drop n).length = l.toArray.size - n := by simp
  have inv0 : HeadInv .any l.toArray n (Array.replicate l.toArray.size false) :=
    ⟨by simp, fun j oj _ hl => (by rw [getD_replicate_false] at hl; cases hl), fun t _ ht => getD_in (by simpa using ht) (getD_replicate_false _ _)⟩
  have H := h ⟨hsel, hs, hc, by simpa using hn', fun listed a w hL => seqB_ready hL.1⟩ inv0
  refine wp_region_any hm ?_
  have := HeadS.any (g := l.toArray.size - n) (fun listed a' w' hL => by
    have := wpAny_of_seq (md := .any) (Q' := Q) (l.drop n) n listed a' w' (fun j => by simp [List.getElem?_drop]) (by rw [hdl]; simpa using hL.1) hL.2
    rwa [hdl] at this) _ _ _ _ H
  rw [show n + (l.toArray.size - n) = l.toArray.size by simp; omega] at this
  exact this
end
end Go.Proofs.YtdbnaaddocahpaaDoor
/- A match's text; a duty's. -/
namespace Go.Proofs.YtdbnaaddocahpaaDoor
set_option linter.unusedVariables false
open Go.RowKit Go.Sort

theorem right_small {v : Vl} (h : v.right) : v.s.size ≤ 1000000 := by
  have hr := h
  unfold Vl.right RightV at hr
  have e : v.s.size = v.l.length := rfl
  rw [e]
  rcases hr with ⟨_, h, _⟩ | ⟨_, h⟩ | ⟨_, _, h⟩ | ⟨_, h, _⟩ | ⟨_, _, h, _⟩
  · rw [h]; simp
  · rw [h]; simp
  · omega
  · rw [h]; simp
  · omega
theorem al9' (w : World) (o : Obj) : Below w.heap.size w (w.alloc o) := (Below.refl _ _).alloc (Nat.le_refl _) _

set_option maxHeartbeats 800000 in
theorem show_match (m : Mat) (hok : m.ok) (hm : matE m = 0) (w : World) (ht : Tbl w) :
    Calls Tryd.prog 60 #[.agg #[.int .i64 m.a.cat, .string m.a.name, .bool m.a.must, .int .i64 m.op, .int .i64 m.v.k, .int .i64 m.v.n, .string m.v.s]] w fun e w' => e = .returned (.string ⟨(matT m).toArray⟩) ∧ Below w.heap.size w w' := by
  obtain ⟨ha, ho, hv⟩ := matE_all hm
  have hal := attr_len ha
  have hvl := val_len hv hok.2.2.2.1
  have hsz := hok.2.2.2.2
  obtain ⟨x, hx⟩ : ∃ x : ByteArray, x = ⟨(attrS m.a).toArray⟩ := ⟨_, rfl⟩
  obtain ⟨y, hy⟩ : ∃ x : ByteArray, x = ⟨(cmpW m.op).toArray⟩ := ⟨_, rfl⟩
  obtain ⟨z, hz⟩ : ∃ x : ByteArray, x = ⟨(showB m.v).toArray⟩ := ⟨_, rfl⟩
  have hxs : x.size ≤ 25 := by rw [hx]; exact word_size hal
  have hys : y.size ≤ 1 := by rw [hy]; exact word_size (cmpW_len _)
  have hzs : z.size ≤ 400 := by rw [hz]; exact word_size hvl
  have hs64 : m.v.s.size ≤ 1000000 := by
    have h := right_small hv
    exact h
  have HT : Hid (∀ W, Below w.heap.size w W → Tbl W) := fun W hb => ht.then_ hb
  have QA : ∀ W, Below w.heap.size w W → ∀ d os, Calls Tryd.prog 65 #[.agg #[.int .i64 m.a.cat, .string m.a.name, .bool m.a.must]] (grow (redrawn W d) os) fun e w'' => e = .returned (.string x) ∧ ∃ p : Regrown, w'' = grow (redrawn W p.d) p.os := fun W hb d os => by
    rw [hx]; exact Calls.regrown_of (show_attr m.a hok.1 _ (HT.out _ (hb.trans ((below_regrown W d os).mono hb.size))))
  have QV : ∀ W, Below w.heap.size w W → ∀ d os, Calls Tryd.prog 64 #[.agg #[.int .i64 m.v.k, .int .i64 m.v.n, .string m.v.s]] (grow (redrawn W d) os) fun e w'' => e = .returned (.string z) ∧ ∃ p : Regrown, w'' = grow (redrawn W p.d) p.os := fun W hb d os => by
    rw [hz]; exact Calls.regrown_of (vtext_any m.v.k m.v.n m.v.s hok.2.2.2.1 hs64 _ (HT.out _ (hb.trans ((below_regrown W d os).mono hb.size))).tab)
  have hG : ∀ W, Below w.heap.size w W → ∀ d os, (grow (redrawn W d) os).cell? ⟨4, m.op.toNat, none⟩ = some (.string y) := fun W hb d os => by
    rw [hy]; exact (HT.out _ (hb.trans ((below_regrown W d os).mono hb.size))).cmp (by omega) (by omega)
  have HQA := Lib.hid QA
  have HQV := Lib.hid QV
  have HG := Lib.hid hG
  have HE : Hid (bl x ++ 32 :: (bl y ++ 32 :: bl z) = matT m) := by rw [hx, hy, hz]; rfl
  generalize matT m = r at *
  obtain ⟨⟨ac, an, am⟩, op, ⟨vk, vn, vs⟩⟩ := m
  simp only at ho HQA HQV HG ⊢
  have hi : 0 ≤ op ∧ op < 4 := by omega
  clear QA QV hG hx hy hz ht hok hm ha hv hal hvl ho hsz hs64
  go_enter Tryd.func60, Tryd.ntmps60
  go_wp2_with fail
  have C1 := Lib.hid (Ob.made w 27 #[.int .i64 ac, .string an, .bool am, .int .i64 op, .int .i64 vk, .int .i64 vn, .string vs])
  have B0 := Lib.hid (al9' w (.cells #[.int .i64 ac, .string an, .bool am, .int .i64 op, .int .i64 vk, .int .i64 vn, .string vs] 27))
  have Q1 := Lib.hid (HQA.out _ B0.out)
  have Q2 := Lib.hid (HQV.out _ B0.out)
  have g1 := HG.out _ B0.out
  have x0 := fun d os => cell_regrown (C1.out.cell 0) d os
  have x1 := fun d os => cell_regrown (C1.out.cell 1) d os
  have x2 := fun d os => cell_regrown (C1.out.cell 2) d os
  have x3 := fun d os => cell_regrown (C1.out.cell 3) d os
  have x4 := fun d os => cell_regrown (C1.out.cell 4) d os
  have x5 := fun d os => cell_regrown (C1.out.cell 5) d os
  have x6 := fun d os => cell_regrown (C1.out.cell 6) d os
  refine wp_region_quiet_below (by kernel_rfl) (by kernel_rfl) ?_
  repeat (go_big_quiet_step (first
    | (go_at_call 65; exact Q1.out _ _)
    | (go_at_call 64; exact Q2.out _ _)))
  refine wpQuiet_nil ?_
  intro _ hw'
  obtain ⟨⟨dq, osq⟩, hw''⟩ := hw'
  subst hw''
  have BQ := Lib.hid (below_regrown (w.alloc (.cells #[.int .i64 ac, .string an, .bool am, .int .i64 op, .int .i64 vk, .int .i64 vn, .string vs] 27)) dq osq)
  generalize grow (redrawn _ dq) osq = w2 at *
  go_wp2_with fail
  go_ret
  refine ⟨ret_text ?_, B0.out.trans (BQ.out.mono B0.out.size)⟩
  rw [← HE.out]
  simp [bl_app, bl_mka]

set_option maxHeartbeats 800000 in
theorem show_duty (m : Dut) (hok : m.ok) (hm : dutE m = 0) (w : World) (ht : Tbl w) :
    Calls Tryd.prog 25 #[.agg #[.int .i64 m.on, .int .i64 m.kind, .string m.arg]] w fun e w' => e = .returned (.string ⟨(dutT m).toArray⟩) ∧ Below w.heap.size w w' := by
  obtain ⟨ho, hk, hn⟩ := dutE_all hm
  have hzs : m.arg.size ≤ 16 := hn.1.2
  obtain ⟨b, hb⟩ : ∃ b : Bool, b = decide (m.on = 2) := ⟨_, rfl⟩
  obtain ⟨x, hx⟩ : ∃ x : ByteArray, x = ⟨(effW b).toArray⟩ := ⟨_, rfl⟩
  obtain ⟨y, hy⟩ : ∃ x : ByteArray, x = ⟨(doW m.kind).toArray⟩ := ⟨_, rfl⟩
  have hxs : x.size ≤ 6 := by rw [hx]; exact word_size (effW_len b)
  have hys : y.size ≤ 6 := by rw [hy]; exact word_size (doW_len _)
  have h2 : (m.on == 2) = b := by rw [hb]; rfl
  have HT : Hid (∀ W, Below w.heap.size w W → Tbl W) := fun W hb => ht.then_ hb
  have QA : ∀ W, Below w.heap.size w W → ∀ d os, Calls Tryd.prog 36 #[.bool b] (grow (redrawn W d) os) fun e w'' => e = .returned (.string x) ∧ ∃ p : Regrown, w'' = grow (redrawn W p.d) p.os := fun W hb d os => by
    rw [hx]; exact Calls.regrown_of ((show_effect b _).mono fun e w' h => ⟨h.1, by rw [h.2]; exact Below.refl _ _⟩)
  have hG : ∀ W, Below w.heap.size w W → ∀ d os, (grow (redrawn W d) os).cell? ⟨1, m.kind.toNat, none⟩ = some (.string y) := fun W hb d os => by
    rw [hy]; exact (HT.out _ (hb.trans ((below_regrown W d os).mono hb.size))).do (by omega) (by omega)
  have HQA := Lib.hid QA
  have HG := Lib.hid hG
  have HE : Hid ([111, 110, 32] ++ (bl x ++ 32 :: (bl y ++ 32 :: bl m.arg)) = dutT m) := by rw [hx, hy, hb]; rfl
  generalize dutT m = r at *
  obtain ⟨on, kd, nm⟩ := m
  simp only at ho hk hzs h2 HQA HG ⊢
  have hi : 0 ≤ kd ∧ kd < 5 := by omega
  clear QA hG hx hy hb ht hok hm hn ho hk
  go_enter Tryd.func25, Tryd.ntmps25
  go_wp2_with fail
  have C1 := Lib.hid (Ob.made w 40 #[.int .i64 on, .int .i64 kd, .string nm])
  have B0 := Lib.hid (al9' w (.cells #[.int .i64 on, .int .i64 kd, .string nm] 40))
  have Q1 := Lib.hid (HQA.out _ B0.out)
  have g1 := HG.out _ B0.out
  have x0 := fun d os => cell_regrown (C1.out.cell 0) d os
  have x1 := fun d os => cell_regrown (C1.out.cell 1) d os
  have x2 := fun d os => cell_regrown (C1.out.cell 2) d os
  refine wp_region_quiet_below (by kernel_rfl) (by kernel_rfl) ?_
  repeat (go_big_quiet_step ((go_at_call 36; exact Q1.out _ _)))
  refine wpQuiet_nil ?_
  intro _ hw'
  obtain ⟨⟨dq, osq⟩, hw''⟩ := hw'
  subst hw''
  have BQ := Lib.hid (below_regrown (w.alloc (.cells #[.int .i64 on, .int .i64 kd, .string nm] 40)) dq osq)
  generalize grow (redrawn _ dq) osq = w2 at *
  go_wp2_with fail
  go_ret
  refine ⟨ret_text ?_, B0.out.trans (BQ.out.mono B0.out.size)⟩
  rw [← HE.out]
  simp [bl_app, bl_mka]
end Go.Proofs.YtdbnaaddocahpaaDoor
/- append of one cell to a row of the call's own. -/
namespace Go.Proofs.YtdbnaaddocahpaaDoor
set_option linter.unusedVariables false
open Go.RowKit

theorem append_cell {P : Program} {T E : TypeId} {i : TypeInfo} {z x : Value} {by_ : Nat} (ht : P.underlying T = some (.slice E)) (hi : P.info? E = some i) (hz : i.zero = some z) (hz1 : z.oneCell' = true) (hs : i.size = 1) (hb : i.bytes = by_) (hby : by_ ≤ 1000) (h1 : x.oneCell' = true)
    {w : World} {base n c ty : Nat} {A : Option Addr} {xs : List Value} (h : w.ownsRow base E 1 (.slice A n c) n xs) (hn : n ≤ 1000000) (hbase : base ≤ w.heap.size) :
    ∃ A' c' w', (Builtin.append_ #[T, T] ty #[.slice A n c, .slice (some ⟨w.heap.size, 0, none⟩) 1 1]).run P (w.alloc (.cells #[x] E)) = .ok (.slice A' (n + 1) c') w' ∧
      w'.ownsRow base E 1 (.slice A' (n + 1) c') (n + 1) (xs ++ [x]) ∧ Below base w w' := by
  obtain ⟨v', w', hrun, h2, h3, h4⟩ := run_append_own (P := P) (w.alloc (.cells #[x] E)) base T ty E i z 1 by_ ht hi hz hs hb (by cases z <;> first | rfl | cases hz1) (by omega) (.slice A n c) n xs (h.alloc _)
    ⟨w.heap.size, 0, none⟩ 1 1 [x] rfl (by
      intro j u hu
      match j, hu with
      | 0, hu => simp at hu; subst hu; simp [Addr.add, World.cell?_alloc_at]
      | j + 1, hu => simp at hu) (by simpa using h1) (by unfold maxLen; omega) (by
        have : (n + 1) * by_ ≤ 1000001 * 1000 := Nat.mul_le_mul (by omega) hby
        omega) (by simp; omega)
  have hform : ∃ A' c', v' = .slice A' (n + 1) c' := by
    rcases h2.2 with ⟨_, hz⟩ | ⟨g, cap, cur, hv, _⟩
    · omega
    · exact ⟨_, _, hv⟩
  obtain ⟨A', c', rfl⟩ := hform
  refine ⟨A', c', w', hrun, h2, ?_⟩
  refine ((Below.refl base w).alloc hbase _).grown h3 (by simp; omega) (fun k hk => ?_)
  exact (h.lt k hk).1
end Go.Proofs.YtdbnaaddocahpaaDoor
/- append of many cells, one each, to a row of the call's own; what it leaves alone. -/
namespace Go.Proofs.YtdbnaaddocahpaaDoor
set_option linter.unusedVariables false
open Go.RowKit

theorem append_cells {P : Program} {T E : TypeId} {i : TypeInfo} {z : Value} {by_ : Nat} (ht : P.underlying T = some (.slice E)) (hi : P.info? E = some i) (hz : i.zero = some z) (hz1 : z.oneCell' = true) (hs : i.size = 1) (hb : i.bytes = by_) (hby : by_ ≤ 1000)
    {w : World} {base B n c m c2 ty : Nat} {A A2 : Option Addr} {xs ys : List Value} (h : w.ownsRow base E 1 (.slice A n c) n xs) (hy : Sl w B A2 m c2 ys) (h1 : ∀ v ∈ ys, v.oneCell' = true)
    (hn : n + m ≤ 1000000) (hbase : base ≤ w.heap.size) :
    ∃ A' c' w', (Builtin.append_ #[T, T] ty #[.slice A n c, .slice A2 m c2]).run P w = .ok (.slice A' (n + m) c') w' ∧
      w'.ownsRow base E 1 (.slice A' (n + m) c') (n + m) (xs ++ ys) ∧ Below base w w' ∧ w.grownBy w' (Value.slice A n c).ownBlock ∧
      ((Value.slice A' (n + m) c').ownBlock = (Value.slice A n c).ownBlock ∨ (Value.slice A' (n + m) c').ownBlock = some w.heap.size) := by
  have hlen := hy.len
  have fin : ∀ (ad : Addr), A2 = some ad → (∀ j u, ys[j]? = some u → w.cell? (ad.add j) = some u) → ∃ A' c' w', (Builtin.append_ #[T, T] ty #[.slice A n c, .slice A2 m c2]).run P w = .ok (.slice A' (n + m) c') w' ∧
      w'.ownsRow base E 1 (.slice A' (n + m) c') (n + m) (xs ++ ys) ∧ Below base w w' ∧ w.grownBy w' (Value.slice A n c).ownBlock ∧
      ((Value.slice A' (n + m) c').ownBlock = (Value.slice A n c).ownBlock ∨ (Value.slice A' (n + m) c').ownBlock = some w.heap.size) := by
    rintro ad rfl hc
    have hb2 : (n + m) * by_ ≤ 1000000 * 1000 := Nat.mul_le_mul hn hby
    obtain ⟨v', w', hrun, h2, h3, h4, h5⟩ := run_append_own_at (P := P) w base T ty E i z 1 by_ ht hi hz hs hb (by cases z <;> first | rfl | cases hz1) (by omega) (.slice A n c) n xs h
      ad m c2 ys (by omega) hc h1 (by unfold maxLen; omega) (by omega) hbase
    have hform : ∃ A' c', v' = .slice A' (n + m) c' := by
      rcases h2.2 with ⟨hv, hz⟩ | ⟨g, cap, cur, hv, _⟩
      · exact ⟨_, _, by rw [hv, hz]⟩
      · exact ⟨_, _, hv⟩
    obtain ⟨A', c', rfl⟩ := hform
    exact ⟨A', c', w', hrun, h2, (Below.refl base w).grown h3 hbase (fun k hk => (h.lt k hk).1), h3, h5⟩
  rcases hy.2.2.2 with h0 | ⟨b, o, e, hb', hc⟩
  · subst h0
    obtain rfl : ys = [] := List.eq_nil_of_length_eq_zero hlen
    rcases A2 with _ | ad
    · exact ⟨A, c, w, append_nil_src ht hi h, by simpa using h, Below.refl _ _, ⟨rfl, rfl, rfl, Nat.le_refl _, fun _ _ _ => rfl⟩, .inl rfl⟩
    · exact fin ad rfl (fun j u hu => by simp at hu)
  · refine fin _ e fun j u hu => ?_
    have := hc j u hu
    by_cases hj : j = 0
    · subst hj; simpa [Addr.add] using this
    · simpa [Addr.add, hj] using this

/-- A slice that lies in one block is kept by whatever keeps that block. -/
theorem Sl.keep1 {w w' : World} {B n c : Nat} {A : Option Addr} {xs : List Value} (h : Sl w B A n c xs) (hk : ∀ ad, A = some ad → w'.heap[ad.block]? = w.heap[ad.block]?) : Sl w' B A n c xs := by
  obtain ⟨h1, h2, h3, h4⟩ := h
  refine ⟨h1, h2, h3, ?_⟩
  rcases h4 with h4 | ⟨b, o, e, hb, hc⟩
  · exact .inl h4
  · have hk' : w'.heap[b]? = w.heap[b]? := hk _ e
    exact .inr ⟨b, o, e, hb, fun j u hu => (World.cell?_of_block (a := ⟨b, o + j, none⟩) hk').trans (hc j u hu)⟩
/-- .. by an append to a row that lies elsewhere. -/
theorem Sl.grown {w w' : World} {n c : Nat} {A : Option Addr} {xs : List Value} {v : Value} (h : Sl w w.heap.size A n c xs) (g : w.grownBy w' v.ownBlock) (hne : ∀ ad, A = some ad → v.ownBlock ≠ some ad.block) : Sl w' w'.heap.size A n c xs := by
  rcases Nat.eq_zero_or_pos n with h0 | h0
  · subst h0
    exact ⟨h.1, h.2.1, h.2.2.1, .inl rfl⟩
  · refine (h.keep1 fun ad e => g.block ad.block ?_ ?_).more g.size
    · obtain ⟨b, o, u, e', hb, _⟩ := h.at_ h0
      rw [e] at e'
      injection e' with e'
      subst e'
      exact hb
    · exact fun hh => hne ad e hh.symm
end Go.Proofs.YtdbnaaddocahpaaDoor
/- A policy, one depth more (the project's walk.policy); Right, Rules. -/
namespace Go.Proofs.YtdbnaaddocahpaaDoor
set_option linter.unusedVariables false
open Go.RowKit Go.Sort

theorem each_len {a b d n2 n3 l : Nat} (h : a + (16 + 16 * d) < 800000) (h1 : b ≤ a + l * 1) (hl : l = n2) (h2 : n2 ≤ 16) (h3 : n3 ≤ 16) : b + n3 * d < 800000 := by
  have : n3 * d ≤ 16 * d := Nat.mul_le_mul_right _ h3
  omega
set_option maxRecDepth 100000 in
set_option maxHeartbeats 3200000 in
theorem pol_succ {d : Nat} (ih : PolOk d) (hd : d ≤ 3) : PolOk (d + 1) := by
  intro w g B s R m p A1 A2 A3 A4 n1 k1 n2 k2 n3 k3 n4 k4 hk hlen hR hid h1 h2 h3 h4
  have e5 : (5 : Int) - ((d + 1 : Nat) : Int) = 4 - (d : Int) := by omega
  rw [e5]
  have hdd : 1 ≤ (4 - (d : Int)) ∧ (4 - (d : Int)) ≤ 4 := by omega
  have HW := Lib.hid hk
  have H1 := Lib.hid h1
  have H2 := Lib.hid h2
  have H3 := Lib.hid h3
  have H4 := Lib.hid h4
  have HRR := Lib.hid hR
  have HLEN := Lib.hid hlen
  have HN : Hid (p.rules.length = n2 ∧ p.kids.length = n3) := ⟨Rw.len h2, Rw.len h3⟩
  have HC23 : Hid ((n2 ≤ k2 ∧ k2 ≤ maxLen) ∧ n3 ≤ k3 ∧ k3 ≤ maxLen) := ⟨⟨Rw.le h2, Rw.cap h2⟩, Rw.le h3, Rw.cap h3⟩
  obtain ⟨q, hq⟩ : ∃ q, q = 4 - (d : Int) := ⟨_, rfl⟩
  rw [← hq] at hdd ⊢
  have HQ := Lib.hid hq
  clear hq e5
  have hkeep0 := ((hk.alloc (.cells #[.pointer (some ⟨g, 0, none⟩)] 95)).alloc (.cells #[.string p.id, .bool p.set, .int .i64 p.alg, .slice A1 n1 k1, .slice A2 n2 k2, .slice A3 n3 k3, .slice A4 n4 k4] 43)).alloc (.cells #[.int .i64 q] 3)
  have hl : s.ids.length < 1000000 := by omega
  have HF := Lib.hid (fresh_any p.id hid hkeep0.ob hkeep0.map hkeep0.ne hl)
  have hgl : g < w.heap.size := hk.ob.lt
  have hBl : B < w.heap.size := hk.map.lt
  have hne := hk.ne
  have HFT := Lib.hid (fun W => fits_any p.id p.set p.alg A1 A2 A3 A4 n1 n2 n3 n4 k1 k2 k3 k4 W)
  have HFE : Hid (fitsB p = fitsN p.set p.alg n2 n3) := by
    show fitsB p = fitsN p.set p.alg n2 n3
    rw [fits_eq, HN.out.1, HN.out.2]
  have PA : Hid (Ob (((w.alloc (.cells #[.pointer (some ⟨g, 0, none⟩)] 95)).alloc (.cells #[.string p.id, .bool p.set, .int .i64 p.alg, .slice A1 n1 k1, .slice A2 n2 k2, .slice A3 n3 k3, .slice A4 n4 k4] 43)).alloc (.cells #[.int .i64 q] 3)) w.heap.size 95 #[.pointer (some ⟨g, 0, none⟩)]) :=
    ((Ob.made w _ _).keep (Below.heap_alloc _ _ _ (by simp))).keep (Below.heap_alloc _ _ _ (by simp; omega))
  have XA : Hid (Ob (((w.alloc (.cells #[.pointer (some ⟨g, 0, none⟩)] 95)).alloc (.cells #[.string p.id, .bool p.set, .int .i64 p.alg, .slice A1 n1 k1, .slice A2 n2 k2, .slice A3 n3 k3, .slice A4 n4 k4] 43)).alloc (.cells #[.int .i64 q] 3)) (w.heap.size + 1) 43 #[.string p.id, .bool p.set, .int .i64 p.alg, .slice A1 n1 k1, .slice A2 n2 k2, .slice A3 n3 k3, .slice A4 n4 k4]) := by
    have := Ob.made (w.alloc (.cells #[.pointer (some ⟨g, 0, none⟩)] 95)) 43 #[.string p.id, .bool p.set, .int .i64 p.alg, .slice A1 n1 k1, .slice A2 n2 k2, .slice A3 n3 k3, .slice A4 n4 k4]
    rw [size_al] at this
    exact this.keep (Below.heap_alloc _ _ _ (by simp))
  have IA : Hid (Ob (((w.alloc (.cells #[.pointer (some ⟨g, 0, none⟩)] 95)).alloc (.cells #[.string p.id, .bool p.set, .int .i64 p.alg, .slice A1 n1 k1, .slice A2 n2 k2, .slice A3 n3 k3, .slice A4 n4 k4] 43)).alloc (.cells #[.int .i64 q] 3)) (w.heap.size + 1 + 1) 3 #[.int .i64 q]) := by
    have := Ob.made ((w.alloc (.cells #[.pointer (some ⟨g, 0, none⟩)] 95)).alloc (.cells #[.string p.id, .bool p.set, .int .i64 p.alg, .slice A1 n1 k1, .slice A2 n2 k2, .slice A3 n3 k3, .slice A4 n4 k4] 43)) 3 #[.int .i64 q]
    rw [size_al, size_al] at this
    exact this
  have GA : Hid (Only2 g B w (((w.alloc (.cells #[.pointer (some ⟨g, 0, none⟩)] 95)).alloc (.cells #[.string p.id, .bool p.set, .int .i64 p.alg, .slice A1 n1 k1, .slice A2 n2 k2, .slice A3 n3 k3, .slice A4 n4 k4] 43)).alloc (.cells #[.int .i64 q] 3))) := ((Only2.alloc _).trans (Only2.alloc _)).trans (Only2.alloc _)
  clear hk hkeep0 h1 h2 h3 h4 hR hlen hl hid
  by_cases hfr : (decide (Named (bl p.id)) && !metB p.id s.ids) = true
  · rw [hfr] at HF
    have HE : Hid (polS (d + 1) p s = (if fitsB p = false then (1, ⟨s.ids ++ [p.id], s.n⟩)
        else if orE (tgE p.tg) (obE p.ob) ≠ 0 then (orE (tgE p.tg) (obE p.ob), ⟨s.ids ++ [p.id], s.n⟩)
        else if 16 < n2 ∨ 16 < n3 then (6, ⟨s.ids ++ [p.id], s.n⟩)
        else if (firstS ruleS p.rules ⟨s.ids ++ [p.id], s.n⟩).1 ≠ 0 then firstS ruleS p.rules ⟨s.ids ++ [p.id], s.n⟩
        else firstS (polS d) p.kids (firstS ruleS p.rules ⟨s.ids ++ [p.id], s.n⟩).2)) := by
      show polS (d + 1) p s = _
      simp only [polS, idS_some hfr, HN.out.1, HN.out.2]
    have HS1 : Hid ((⟨s.ids ++ [p.id], s.n⟩ : Seen).ids.length = s.ids.length + 1) := by simp [Hid]
    clear hfr
    generalize polS (d + 1) p s = z at *
    by_cases hfit : fitsN p.set p.alg n2 n3 = false
    · rw [hfit] at HFE HFT
      rw [HFE.out, if_pos rfl] at HE
      clear hfit
      go_enter Tryd.func30, Tryd.ntmps30
      go_wp2_with (first
        | (go_at_call 38; refine HF.out.mono ?_; rintro e w1 ⟨rfl, hb1, hm1⟩; have X1 := Lib.hid (XA.out.keep (hb1.heap XA.out.lt (by omega))); have x0 := X1.out.cell 0; have x1 := X1.out.cell 1; have x2 := X1.out.cell 2; have x3 := X1.out.cell 3; have x4 := X1.out.cell 4; have x5 := X1.out.cell 5; have x6 := X1.out.cell 6)
        | (go_at_call 39; refine (HFT.out _).mono ?_; rintro e w2 ⟨rfl, hb2⟩))
      go_ret
      rw [HE.out]
      refine ⟨rfl, (GA.out.trans (Only2.of_B hb1)).trans (Only2.of_below hb2), ⟨s.ids ++ [p.id], s.n⟩, ?_, fun h => by cases h⟩
      have o0 : Ob w1 g 61 #[.map (some B), .int .i64 s.n] := (((HW.out.alloc _).alloc _).alloc _).ob.keep (hb1.heap (((HW.out.alloc _).alloc _).alloc _).ob.lt hne)
      exact ⟨o0.below hb2 o0.lt, hm1.below hb2, hne, by have := HW.out.few; show s.n ≤ (s.ids ++ [p.id]).length; simp; omega⟩
    · rw [Bool.not_eq_false] at hfit
      rw [hfit] at HFE HFT
      rw [HFE.out, if_neg (by simp)] at HE
      clear hfit
      go_enter Tryd.func30, Tryd.ntmps30
      go_wp2_with (first
        | (go_at_call 38; refine HF.out.mono ?_; rintro e w1 ⟨rfl, hb1, hm1⟩; have X1 := Lib.hid (XA.out.keep (hb1.heap XA.out.lt (by omega))); have x0 := X1.out.cell 0; have x1 := X1.out.cell 1; have x2 := X1.out.cell 2; have x3 := X1.out.cell 3; have x4 := X1.out.cell 4; have x5 := X1.out.cell 5; have x6 := X1.out.cell 6)
        | (go_at_call 39; refine (HFT.out _).mono ?_; rintro e w2 ⟨rfl, hb2⟩))
      have hB2 := (below_step hb2 (Below.refl _ _))
      have W2 : Hid (Wk w2 g B ⟨s.ids ++ [p.id], s.n⟩) := by
        have o0 : Ob w1 g 61 #[.map (some B), .int .i64 s.n] := (((HW.out.alloc _).alloc _).alloc _).ob.keep (hb1.heap (((HW.out.alloc _).alloc _).alloc _).ob.lt hne)
        exact ⟨o0.below hb2 o0.lt, hm1.below hb2, hne, by have := HW.out.few; show s.n ≤ (s.ids ++ [p.id]).length; simp; omega⟩
      have X2 := Lib.hid (X1.out.below hb2 X1.out.lt)
      have P2 : Hid (Ob w2 w.heap.size 95 #[.pointer (some ⟨g, 0, none⟩)]) := by
        have o0 := PA.out.keep (hb1.heap PA.out.lt (by omega))
        exact o0.below hb2 o0.lt
      have I2 : Hid (Ob w2 (w.heap.size + 1 + 1) 3 #[.int .i64 q]) := by
        have o0 := IA.out.keep (hb1.heap IA.out.lt (by omega))
        exact o0.below hb2 o0.lt
      have G2 : Hid (Only2 g B w w2) := (GA.out.trans (Only2.of_B hb1)).trans (Only2.of_below hb2)
      clear x0 x1 x2 x3 x4 x5 x6 hb1 hm1 hb2 hB2 X1 HF HFT PA XA IA GA
      have T1 := Lib.hid (H1.out.keep (G2.out.kept HRR.out) (fun _ h _ => h))
      have T4 := Lib.hid (H4.out.keep (G2.out.kept HRR.out) (fun _ h _ => h))
      have KK := Lib.hid (below_regrown w2)
      have Q1 : Hid (∀ d os, Calls Tryd.prog 41 #[.slice A1 n1 k1] (grow (redrawn w2 d) os) fun e w'' => e = .returned (.int .i64 (tgE p.tg)) ∧ ∃ p : Regrown, w'' = grow (redrawn w2 p.d) p.os) := fun d os => Calls.regrown_of (target_any _ (T1.out.keep (Kept.all (KK.out d os) R) (fun _ h _ => h)))
      have Q4 : Hid (∀ d os, Calls Tryd.prog 42 #[.slice A4 n4 k4] (grow (redrawn w2 d) os) fun e w'' => e = .returned (.int .i64 (obE p.ob)) ∧ ∃ p : Regrown, w'' = grow (redrawn w2 p.d) p.os) := fun d os => Calls.regrown_of (obls_any _ (T4.out.keep (Kept.all (KK.out d os) R) (fun _ h _ => h)))
      have y3 := fun d os => cell_regrown (X2.out.cell 3) d os
      have y6 := fun d os => cell_regrown (X2.out.cell 6) d os
      have HOR := Lib.hid (or2 (tgE p.tg) (obE p.ob))
      generalize tgE p.tg = a1 at *
      generalize obE p.ob = a3 at *
      refine wp_region_below_tail 6 (by kernel_rfl) (by kernel_rfl) ?_
      simp only [List.take_succ_cons, List.take_zero, List.drop_succ_cons, List.drop_zero]
      repeat (go_big_quiet_step ((first
        | (go_at_call 41; exact Q1.out _ _)
        | (go_at_call 42; exact Q4.out _ _))))
      refine wpQuiet_nil ?_
      intro _ hw'
      obtain ⟨⟨dq, osq⟩, hw''⟩ := hw'
      subst hw''
      have hbel := below_regrown w2 dq osq
      have W4 := Lib.hid (W2.out.below hbel)
      have X4 := Lib.hid (X2.out.below hbel X2.out.lt)
      have P4 := Lib.hid (P2.out.below hbel P2.out.lt)
      have I4 := Lib.hid (I2.out.below hbel I2.out.lt)
      have G4 := Lib.hid (G2.out.trans (Only2.of_below hbel))
      clear y3 y6 hbel Q1 Q4 KK W2 X2 P2 I2 G2 T1 T4
      dsimp only at W4 X4 P4 I4 G4 ⊢
      generalize grow (redrawn w2 dq) osq = w4 at *
      have HSL := Lib.hid (Sl.lit w4 47 (ev [a1, a3]) 2 rfl (by simp [maxLen]))
      have HOA := Lib.hid (or_any (l := [a1, a3]) HSL.out (by omega) (by simp))
      rw [HOR.out] at HOA
      obtain ⟨r, hr⟩ : ∃ r, r = orE a1 a3 := ⟨_, rfl⟩
      rw [← hr] at HOA HE
      have L4 : Hid (Below w4.heap.size w4 (w4.alloc (.cells (ev [a1, a3]).toArray 47))) := (Below.refl _ _).alloc (Nat.le_refl _) _
      have W5 := Lib.hid (W4.out.below L4.out)
      have X5 := Lib.hid (X4.out.below L4.out X4.out.lt)
      have P5 := Lib.hid (P4.out.below L4.out P4.out.lt)
      have I5 := Lib.hid (I4.out.below L4.out I4.out.lt)
      have G5 := Lib.hid (G4.out.trans (Only2.of_below L4.out))
      clear hr HOR W4 X4 P4 I4 G4 HSL
      by_cases hor : r = 0
      · subst hor
        rw [if_neg (by simp)] at HE
        by_cases hn : 16 < n2 ∨ 16 < n3
        · rw [if_pos hn] at HE
          by_cases hn2 : 16 < n2
          · have hz2 : (16 : Int) < (n2 : Int) := by omega
            clear hn
            go_wp2_with (first
              | (go_at_call 40; refine HOA.out.mono ?_; rintro e w5 ⟨rfl, hw5⟩; rw [← hw5] at W5 X5 P5 I5 G5; clear hw5; have x4 := X5.out.cell 4; have x5 := X5.out.cell 5))
            go_ret
            rw [HE.out]
            exact ⟨rfl, G5.out, _, W5.out, fun h => by cases h⟩
          · have hz2 : ¬ (16 : Int) < (n2 : Int) := by omega
            have hz3 : (16 : Int) < (n3 : Int) := by omega
            clear hn
            go_wp2_with (first
              | (go_at_call 40; refine HOA.out.mono ?_; rintro e w5 ⟨rfl, hw5⟩; rw [← hw5] at W5 X5 P5 I5 G5; clear hw5; have x4 := X5.out.cell 4; have x5 := X5.out.cell 5))
            go_ret
            rw [HE.out]
            exact ⟨rfl, G5.out, _, W5.out, fun h => by cases h⟩
        · rw [if_neg hn] at HE
          have hz2 : ¬ (16 : Int) < (n2 : Int) := by omega
          have hz3 : ¬ (16 : Int) < (n3 : Int) := by omega
          have HN16 : Hid (n2 ≤ 16 ∧ n3 ≤ 16) := ⟨by omega, by omega⟩
          clear hn
          have hl1 : (⟨s.ids ++ [p.id], s.n⟩ : Seen).ids.length + (16 + 16 * idsB d) < 800000 := by
            have e1 := HLEN.out
            have e3 : idsB (d + 1) = 17 + 16 * idsB d := rfl
            show (s.ids ++ [p.id]).length + (16 + 16 * idsB d) < 800000
            rw [List.length_append, List.length_singleton]
            omega
          have HL1 := Lib.hid hl1
          have R5 := Lib.hid (H2.out.keep (G5.out.kept HRR.out) (fun _ h _ => h))
          have HER := Lib.hid (each_rule W5.out (by have := HL1.out; omega) (by have := HN16.out; omega) HRR.out R5.out)
          have HRI := Lib.hid (firstS_ids (c := 1) ruleS_ids p.rules ⟨s.ids ++ [p.id], s.n⟩)
          have HGL : Hid ((w.heap.size < (w4.alloc (.cells (ev [a1, a3]).toArray 47)).heap.size) ∧ w.heap.size + 1 + 1 < (w4.alloc (.cells (ev [a1, a3]).toArray 47)).heap.size) := ⟨P5.out.lt, I5.out.lt⟩
          clear hl1
          generalize (⟨s.ids ++ [p.id], s.n⟩ : Seen) = s1 at *
          obtain ⟨r1, hr1⟩ : ∃ r1, r1 = firstS ruleS p.rules s1 := ⟨_, rfl⟩
          rw [← hr1] at HER HE HRI
          clear hr1
          by_cases hrz : r1.1 = 0
          · have HRZ := Lib.hid hrz
            rw [hrz] at HER HE
            rw [if_neg (by simp)] at HE
            clear hrz
            have HHH : Hid ((w.heap.size ≠ g ∧ w.heap.size ≠ B) ∧ w.heap.size + 1 + 1 ≠ g ∧ w.heap.size + 1 + 1 ≠ B) := ⟨⟨by omega, by omega⟩, by omega, by omega⟩
            have HD4 : Hid (d ≤ 4) := Nat.le_succ_of_le hd
            have HEL := Lib.hid (each_len HL1.out HRI.out HN.out.1 HN16.out.1 HN16.out.2)
            have I5' := I5.out
            rw [HQ.out] at I5'
            have J5 := Lib.hid I5'
            clear I5'
            go_wp2_with (first
              | (go_at_call 40; refine HOA.out.mono ?_; rintro e w5 ⟨rfl, hw5⟩; rw [← hw5] at W5 X5 P5 I5 G5 HER HGL J5; clear hw5; have x4 := X5.out.cell 4; have x5 := X5.out.cell 5; have p5 := P5.out.cell 0)
              | (go_at_call 43; refine HER.out.mono ?_; rintro e w6 ⟨rfl, hb6, hw6⟩; have B6 := Lib.hid hb6; have W6 := Lib.hid (hw6.ok HRZ.out); have X6 := Lib.hid (X5.out.keep (hb6.heap X5.out.lt (by omega) (by omega))); have P6 := Lib.hid (P5.out.keep (hb6.heap P5.out.lt (by omega) (by omega))); have I6 := Lib.hid (J5.out.keep (hb6.heap J5.out.lt (by omega) (by omega))); have y5 := X6.out.cell 5; have K6 := Lib.hid (H3.out.keep ((G5.out.trans hb6).kept HRR.out) (fun _ h _ => h)); clear hb6 hw6 x4 x5 p5)
              | (go_at_call 45; refine (each_pol ih HD4.out W6.out HEL.out HRR.out P6.out I6.out HHH.out K6.out).mono ?_; rintro e w7 ⟨rfl, hb7, hw7⟩))
            go_ret
            rw [HE.out]
            exact ⟨rfl, (G5.out.trans B6.out).trans hb7, hw7⟩
          · have hne1 : (r1.1 != 0) = true := by simpa using hrz
            rw [if_pos hrz] at HE
            have HRZ := Lib.hid hrz
            clear hrz
            go_wp2_with (first
              | (go_at_call 40; refine HOA.out.mono ?_; rintro e w5 ⟨rfl, hw5⟩; rw [← hw5] at W5 X5 P5 I5 G5 HER HGL; clear hw5; have x4 := X5.out.cell 4; have x5 := X5.out.cell 5; have p5 := P5.out.cell 0)
              | (go_at_call 43; refine HER.out.mono ?_; rintro e w6 ⟨rfl, hb6, hw6⟩; have B6 := Lib.hid hb6; have W6 := Lib.hid hw6; clear hw6))
            go_ret
            rw [HE.out]
            exact ⟨rfl, G5.out.trans B6.out, W6.out⟩
      · have hne0 : (r != 0) = true := by simpa using hor
        rw [if_pos hor] at HE
        have HOZ := Lib.hid hor
        clear hor
        go_wp2_with (first
          | (go_at_call 40; refine HOA.out.mono ?_; rintro e w5 ⟨rfl, rfl⟩))
        go_ret
        rw [HE.out]
        exact ⟨rfl, G5.out, _, W5.out, fun h => absurd h HOZ.out⟩
  · rw [Bool.not_eq_true] at hfr
    rw [hfr] at HF
    have HE : Hid (polS (d + 1) p s = (1, s)) := by
      show polS (d + 1) p s = _
      simp only [polS, idS_none hfr]
    clear hfr
    generalize polS (d + 1) p s = z at *
    go_enter Tryd.func30, Tryd.ntmps30
    go_wp2_with (first
      | (go_at_call 38; refine HF.out.mono ?_; rintro e w1 ⟨rfl, hb1, hm1⟩))
    go_ret
    rw [HE.out]
    have o0 : Ob w1 g 61 #[.map (some B), .int .i64 s.n] := (((HW.out.alloc _).alloc _).alloc _).ob.keep (hb1.heap (((HW.out.alloc _).alloc _).alloc _).ob.lt hne)
    exact ⟨rfl, (((Only2.alloc _).trans (Only2.alloc _)).trans (Only2.alloc _)).trans (Only2.of_B hb1), ⟨s.ids ++ [p.id], s.n⟩, ⟨o0, hm1, hne, by have := HW.out.few; show s.n ≤ (s.ids ++ [p.id]).length; simp; omega⟩, fun h => by cases h⟩
end Go.Proofs.YtdbnaaddocahpaaDoor
/- Right, Rules (the project's), over any policy. -/
namespace Go.Proofs.YtdbnaaddocahpaaDoor
set_option linter.unusedVariables false
open Go.RowKit Go.Sort

theorem pol_four : PolOk 4 := pol_succ (pol_succ (pol_succ (pol_succ pol_zero (by omega)) (by omega)) (by omega)) (by omega)

theorem walk_ret2 {fn : Func} {p u : Tmp} {tmps : Array Value} {w : World} {g : Nat} {a b v : Value} (h : fn.results = #[.cell p 61, .tmp u]) (hp : tmps.getD p undef = .pointer (some ⟨g, 0, none⟩)) (hu : tmps.getD u undef = v) (hg : Ob w g 61 #[a, b]) :
    (results fn tmps).run Tryd.prog w = .ok (.tuple #[.agg #[a, b], v]) w := by
  rw [results_cell_tmp h, hp, hu]
  have hl := run_loadVar_row (P := Tryd.prog) w g 61 _ _ (0, 0) _ hg Tryd.underlying61 rfl (by kernel_rfl)
  simp [asAddr, hl, Result.andThen]

/-- A policy's cells, all there. -/
def PolIn (w : World) (R : Nat → Prop) (p : Pol) (A1 : Option Addr) (n1 k1 : Nat) (A2 : Option Addr) (n2 k2 : Nat) (A3 : Option Addr) (n3 k3 : Nat) (A4 : Option Addr) (n4 k4 : Nat) : Prop :=
  (p.id.size ≤ maxLen ∧ InI p.alg) ∧ Tg w R A1 n1 k1 p.tg ∧ Rus w R A2 n2 k2 p.rules ∧ (∃ m, Pls w R m A3 n3 k3 p.kids) ∧ Dus w R A4 n4 k4 p.ob
section
variable {w w' : World} {R R' : Nat → Prop} {p : Pol} {A1 A2 A3 A4 : Option Addr} {n1 k1 n2 k2 n3 k3 n4 k4 : Nat}
theorem PolIn.keep (h : PolIn w R p A1 n1 k1 A2 n2 k2 A3 n3 k3 A4 n4 k4) (hk : Kept R w w') (hR : ∀ b, R b → b < w.heap.size → R' b) : PolIn w' R' p A1 n1 k1 A2 n2 k2 A3 n3 k3 A4 n4 k4 := by
  obtain ⟨h0, h1, h2, ⟨m, h3⟩, h4⟩ := h
  exact ⟨h0, h1.keep hk hR, h2.keep hk hR, ⟨m, h3.keep hk hR⟩, h4.keep hk hR⟩
theorem PolIn.low (h : PolIn w R p A1 n1 k1 A2 n2 k2 A3 n3 k3 A4 n4 k4) : PolIn w (fun b => b < w.heap.size) p A1 n1 k1 A2 n2 k2 A3 n3 k3 A4 n4 k4 := h.keep (Kept.refl _ _) fun _ _ h => h
theorem PolIn.then_ (h : PolIn w R p A1 n1 k1 A2 n2 k2 A3 n3 k3 A4 n4 k4) (hb : Below w.heap.size w w') : PolIn w' R p A1 n1 k1 A2 n2 k2 A3 n3 k3 A4 n4 k4 := h.keep (Kept.all hb R) fun _ h _ => h

set_option maxRecDepth 100000 in
set_option maxHeartbeats 1600000 in
theorem through_any (h : PolIn w R p A1 n1 k1 A2 n2 k2 A3 n3 k3 A4 n4 k4) :
    Calls Tryd.prog 14 #[.agg #[.string p.id, .bool p.set, .int .i64 p.alg, .slice A1 n1 k1, .slice A2 n2 k2, .slice A3 n3 k3, .slice A4 n4 k4]] w
      fun e w' => ∃ (B n : Nat), e = .returned (.tuple #[.agg #[.map (some B), .int .i64 n], .int .i64 (rightE p)]) ∧ (rightE p = 0 → n = rulesN p) ∧ Below w.heap.size w w' := by
  have hmm := @run_makeMap Tryd.prog
  have h' := h.low
  have HP := Lib.hid h'
  obtain ⟨⟨hid, halg⟩, _⟩ := h
  have HID := Lib.hid hid
  clear h' hid halg
  have W0 : Hid (Wk ((((w.alloc (.cells #[.string p.id, .bool p.set, .int .i64 p.alg, .slice A1 n1 k1, .slice A2 n2 k2, .slice A3 n3 k3, .slice A4 n4 k4] 43)).alloc (.cells #[.map none, .int .i64 0] 61)).alloc (.map #[] 0)).alloc (.cells #[.map (some (w.heap.size + 1 + 1)), .int .i64 0] 61)) (w.heap.size + 1 + 1 + 1) (w.heap.size + 1 + 1) ⟨[], 0⟩) := by
    refine ⟨?_, ?_, by omega, Nat.le_refl _⟩
    · have := Ob.made (((w.alloc (.cells #[.string p.id, .bool p.set, .int .i64 p.alg, .slice A1 n1 k1, .slice A2 n2 k2, .slice A3 n3 k3, .slice A4 n4 k4] 43)).alloc (.cells #[.map none, .int .i64 0] 61)).alloc (.map #[] 0)) 61 #[.map (some (w.heap.size + 1 + 1)), .int .i64 0]
      rwa [size_al, size_al, size_al] at this
    · have := (MapIs.made ((w.alloc (.cells #[.string p.id, .bool p.set, .int .i64 p.alg, .slice A1 n1 k1, .slice A2 n2 k2, .slice A3 n3 k3, .slice A4 n4 k4] 43)).alloc (.cells #[.map none, .int .i64 0] 61))).below ((Below.refl _ (((w.alloc (.cells #[.string p.id, .bool p.set, .int .i64 p.alg, .slice A1 n1 k1, .slice A2 n2 k2, .slice A3 n3 k3, .slice A4 n4 k4] 43)).alloc (.cells #[.map none, .int .i64 0] 61)).alloc (.map #[] 0))).alloc (Nat.le_refl _) (.cells #[.map (some (w.heap.size + 1 + 1)), .int .i64 0] 61))
      rwa [size_al, size_al] at this
  have R0 : Hid (Ob ((((w.alloc (.cells #[.string p.id, .bool p.set, .int .i64 p.alg, .slice A1 n1 k1, .slice A2 n2 k2, .slice A3 n3 k3, .slice A4 n4 k4] 43)).alloc (.cells #[.map none, .int .i64 0] 61)).alloc (.map #[] 0)).alloc (.cells #[.map (some (w.heap.size + 1 + 1)), .int .i64 0] 61)) (w.heap.size + 1) 61 #[.map none, .int .i64 0]) := by
    have h0 := Ob.made (w.alloc (.cells #[.string p.id, .bool p.set, .int .i64 p.alg, .slice A1 n1 k1, .slice A2 n2 k2, .slice A3 n3 k3, .slice A4 n4 k4] 43)) 61 #[.map none, .int .i64 0]
    rw [size_al] at h0
    have h1 := h0.keep (Below.heap_alloc ((w.alloc (.cells #[.string p.id, .bool p.set, .int .i64 p.alg, .slice A1 n1 k1, .slice A2 n2 k2, .slice A3 n3 k3, .slice A4 n4 k4] 43)).alloc (.cells #[.map none, .int .i64 0] 61)) (.map #[] 0) _ (by simp))
    exact h1.keep (Below.heap_alloc _ _ _ (by first | (simp; done) | (simp; omega)))
  have D0 : Hid (Below w.heap.size w ((((w.alloc (.cells #[.string p.id, .bool p.set, .int .i64 p.alg, .slice A1 n1 k1, .slice A2 n2 k2, .slice A3 n3 k3, .slice A4 n4 k4] 43)).alloc (.cells #[.map none, .int .i64 0] 61)).alloc (.map #[] 0)).alloc (.cells #[.map (some (w.heap.size + 1 + 1)), .int .i64 0] 61))) := ((((Below.refl _ w).alloc (Nat.le_refl _) _).alloc (by simp) _).alloc (by first | (simp; done) | (simp; omega)) _).alloc (by first | (simp; done) | (simp; omega)) _
  have HIN := Lib.hid (HP.out.keep (Kept.below D0.out (R := fun b => b < w.heap.size) (fun _ h _ => h)) (fun _ h _ => h))
  have HC : Hid (Calls Tryd.prog 30 #[.pointer (some ⟨w.heap.size + 1 + 1 + 1, 0, none⟩), .agg #[.string p.id, .bool p.set, .int .i64 p.alg, .slice A1 n1 k1, .slice A2 n2 k2, .slice A3 n3 k3, .slice A4 n4 k4], .int .i64 1] ((((w.alloc (.cells #[.string p.id, .bool p.set, .int .i64 p.alg, .slice A1 n1 k1, .slice A2 n2 k2, .slice A3 n3 k3, .slice A4 n4 k4] 43)).alloc (.cells #[.map none, .int .i64 0] 61)).alloc (.map #[] 0)).alloc (.cells #[.map (some (w.heap.size + 1 + 1)), .int .i64 0] 61))
      fun e w' => e = .returned (.int .i64 (polS 4 p ⟨[], 0⟩).1) ∧ Only2 (w.heap.size + 1 + 1 + 1) (w.heap.size + 1 + 1) ((((w.alloc (.cells #[.string p.id, .bool p.set, .int .i64 p.alg, .slice A1 n1 k1, .slice A2 n2 k2, .slice A3 n3 k3, .slice A4 n4 k4] 43)).alloc (.cells #[.map none, .int .i64 0] 61)).alloc (.map #[] 0)).alloc (.cells #[.map (some (w.heap.size + 1 + 1)), .int .i64 0] 61)) w' ∧ WkE w' (w.heap.size + 1 + 1 + 1) (w.heap.size + 1 + 1) (polS 4 p ⟨[], 0⟩)) := by
    obtain ⟨h0, h1, h2, ⟨m, h3⟩, h4⟩ := HIN.out
    exact pol_four W0.out (by simp [idsB]) (fun b hb => ⟨by omega, by omega⟩) h0.1 h1 h2 h3 h4
  have HE : Hid (rightE p = (polS 4 p ⟨[], 0⟩).1 ∧ rulesN p = (polS 4 p ⟨[], 0⟩).2.n) := ⟨rfl, rfl⟩
  generalize polS 4 p ⟨[], 0⟩ = z at *
  go_enter Tryd.func14, Tryd.ntmps14
  go_wp2_with (first
    | (go_at_call 30; refine HC.out.mono ?_; rintro e w1 ⟨rfl, hb1, s', hs', hz'⟩; have S1 := Lib.hid hs'; have O1 := hs'.ob; have Z1 := Lib.hid hz'; have D1 := Lib.hid (D0.out.trans (hb1.below D0.out.size (by omega) (by omega))); have c0 := O1.cell 0; have c1 := O1.cell 1; have R1 := Lib.hid (R0.out.keep (hb1.heap R0.out.lt (by omega) (by omega))); have d0 := R1.out.cell 0; have d1 := R1.out.cell 1; have f0 := R1.out.frozen 0; have f1 := R1.out.frozen 1; clear hb1 hs' hz' O1))
  try simp only [Exit.inBlock, Exit.then]
  refine bodyPost_ret (walk_ret2 (a := .map (some (w.heap.size + 1 + 1))) (b := .int .i64 (s'.n : Int)) rfl rfl rfl (by simpa using (R1.out.put 0 (.map (some (w.heap.size + 1 + 1)))).put 1 (.int .i64 (s'.n : Int)))) rfl ?_
  refine ⟨w.heap.size + 1 + 1, s'.n, by rw [HE.out.1]; rfl, fun h => ?_, (D1.out.setCell (p := ⟨w.heap.size + 1, 0, none⟩) (by simp) _).setCell (p := ⟨w.heap.size + 1, 1, none⟩) (by simp) _⟩
  rw [Z1.out (by rw [← HE.out.1]; exact h), HE.out.2]

theorem right_pol (h : PolIn w R p A1 n1 k1 A2 n2 k2 A3 n3 k3 A4 n4 k4) :
    Calls Tryd.prog 7 #[.agg #[.string p.id, .bool p.set, .int .i64 p.alg, .slice A1 n1 k1, .slice A2 n2 k2, .slice A3 n3 k3, .slice A4 n4 k4]] w
      fun e w' => e = .returned (.int .i64 (rightE p)) ∧ Below w.heap.size w w' := by
  have HC := Lib.hid (through_any (h.then_ ((Below.refl _ w).alloc (Nat.le_refl _) (.cells #[.string p.id, .bool p.set, .int .i64 p.alg, .slice A1 n1 k1, .slice A2 n2 k2, .slice A3 n3 k3, .slice A4 n4 k4] 43))))
  clear h
  generalize rightE p = r at *
  go_enter Tryd.func7, Tryd.ntmps7
  go_wp2_with (first
    | (go_at_call 14; refine HC.out.mono ?_; rintro e w1 ⟨B, n, rfl, hn, hb1⟩; have D1 := Lib.hid (Below.lit hb1); clear hb1 hn))
  go_ret
  exact ⟨rfl, D1.out.alloc D1.out.size _⟩
end
end Go.Proofs.YtdbnaaddocahpaaDoor
/- Rows that are laid as literals. -/
namespace Go.Proofs.YtdbnaaddocahpaaDoor
set_option linter.unusedVariables false
open Go.RowKit

theorem flat_at {α : Type} {f : α → List Value} {k : Nat} : ∀ {l : List α} {j : Nat} {x : α} {i : Nat} {v : Value}, (∀ y ∈ l, (f y).length = k) → l[j]? = some x → (f x)[i]? = some v → (l.flatMap f)[j * k + i]? = some v
  | [], _, _, _, _, _, hx, _ => by simp at hx
  | y :: l, 0, x, i, v, hk, hx, hv => by
    simp at hx
    subst hx
    rw [List.flatMap_cons, Nat.zero_mul, Nat.zero_add, List.getElem?_append_left (by rw [List.getElem?_eq_some_iff] at hv; exact hv.1)]
    exact hv
  | y :: l, j + 1, x, i, v, hk, hx, hv => by
    have hy := hk y (by simp)
    rw [List.flatMap_cons, List.getElem?_append_right (by rw [hy, Nat.add_mul]; omega), hy, show (j + 1) * k + i - k = j * k + i by rw [Nat.add_mul]; omega]
    exact flat_at (fun y h => hk y (by simp [h])) (by simpa using hx) hv
theorem Rw.lit {α : Type} {k : Nat} {P : List Value → α → Prop} {R : Nat → Prop} (w : World) (t : TypeId) (f : α → List Value) (l : List α) {n : Nat} (hn : l.length = n) (hc : n ≤ 1000000) (hR : R w.heap.size) (hk : ∀ x ∈ l, (f x).length = k) (hP : ∀ x ∈ l, P (f x) x) :
    Rw k P (w.alloc (.cells (l.flatMap f).toArray t)) R (some ⟨w.heap.size, 0, none⟩) n n l := by
  refine ⟨hn, Nat.le_refl _, ⟨by simp [maxLen]; omega, by omega⟩, .inr ⟨w.heap.size, 0, rfl, hR, by simp, fun j x hx => ⟨f x, hk x (List.mem_of_getElem? hx), fun i v hv => ?_, hP x (List.mem_of_getElem? hx)⟩⟩⟩
  have := (Ob.made w t (l.flatMap f).toArray).cell (j * k + i)
  rw [Nat.zero_add, this, List.getElem?_toArray]
  exact flat_at hk hx hv
theorem Nds.lit (w : World) {R : Nat → Prop} (l : List Nod) {n : Nat} (hn : l.length = n) (hc : n ≤ 1000000) (hR : R w.heap.size) (hok : ∀ x ∈ l, x.ok) : Nds (w.alloc (.cells (l.flatMap Nod.cells).toArray 33)) R (some ⟨w.heap.size, 0, none⟩) n n l :=
  Rw.lit w _ Nod.cells l hn hc hR (fun _ _ => rfl) fun x hx => ⟨rfl, hok x hx⟩
theorem Dus.lit (w : World) {R : Nat → Prop} (l : List Dut) {n : Nat} (hn : l.length = n) (hc : n ≤ 1000000) (hR : R w.heap.size) (hok : ∀ x ∈ l, x.ok) : Dus (w.alloc (.cells (l.flatMap Dut.cells).toArray 40)) R (some ⟨w.heap.size, 0, none⟩) n n l :=
  Rw.lit w _ Dut.cells l hn hc hR (fun _ _ => rfl) fun x hx => ⟨rfl, hok x hx⟩
end Go.Proofs.YtdbnaaddocahpaaDoor
/- Rows of structs of the call's own: append. -/
namespace Go.Proofs.YtdbnaaddocahpaaDoor
set_option linter.unusedVariables false
open Go.RowKit

/-- The slice 'A n c' reads as these cells, one behind the other. -/
def Fl (w : World) (k : Nat) (A : Option Addr) (n : Nat) (ys : List Value) : Prop :=
  ys.length = n * k ∧ (∀ v ∈ ys, v.oneCell' = true) ∧ (n = 0 ∨ ∃ b o, A = some ⟨b, o, none⟩ ∧ ∀ j u, ys[j]? = some u → w.cell? ⟨b, o + j, none⟩ = some u)

/-- append of many structs to a row of the call's own. -/
theorem append_rows {P : Program} {T E : TypeId} {i : TypeInfo} {z : Value} {k by_ : Nat} (ht : P.underlying T = some (.slice E)) (hi : P.info? E = some i) (hz : i.zero = some z) (hs : i.size = k) (hb : i.bytes = by_) (hzs : z.cells.size = k) (hk : 0 < k) (hby : by_ ≤ 1000)
    {w : World} {base n c m c2 ty : Nat} {A A2 : Option Addr} {xs ys : List Value} (h : w.ownsRow base E k (.slice A n c) n xs) (hy : Fl w k A2 m ys) (hn : n + m ≤ 1000000) (hbase : base ≤ w.heap.size) :
    ∃ A' c' w', (Builtin.append_ #[T, T] ty #[.slice A n c, .slice A2 m c2]).run P w = .ok (.slice A' (n + m) c') w' ∧
      w'.ownsRow base E k (.slice A' (n + m) c') (n + m) (xs ++ ys) ∧ Below base w w' ∧ w.grownBy w' (Value.slice A n c).ownBlock ∧
      ((Value.slice A' (n + m) c').ownBlock = (Value.slice A n c).ownBlock ∨ (Value.slice A' (n + m) c').ownBlock = some w.heap.size) := by
  obtain ⟨hlen, h1, hy⟩ := hy
  have fin : ∀ (ad : Addr), A2 = some ad → (∀ j u, ys[j]? = some u → w.cell? (ad.add j) = some u) → ∃ A' c' w', (Builtin.append_ #[T, T] ty #[.slice A n c, .slice A2 m c2]).run P w = .ok (.slice A' (n + m) c') w' ∧
      w'.ownsRow base E k (.slice A' (n + m) c') (n + m) (xs ++ ys) ∧ Below base w w' ∧ w.grownBy w' (Value.slice A n c).ownBlock ∧
      ((Value.slice A' (n + m) c').ownBlock = (Value.slice A n c).ownBlock ∨ (Value.slice A' (n + m) c').ownBlock = some w.heap.size) := by
    rintro ad rfl hc
    have hb2 : (n + m) * by_ ≤ 1000000 * 1000 := Nat.mul_le_mul hn hby
    obtain ⟨v', w', hrun, h2, h3, h4, h5⟩ := run_append_own_at (P := P) w base T ty E i z k by_ ht hi hz hs hb hzs hk (.slice A n c) n xs h
      ad m c2 ys hlen hc h1 (by unfold maxLen; omega) (by omega) hbase
    have hform : ∃ A' c', v' = .slice A' (n + m) c' := by
      rcases h2.2 with ⟨hv, hz⟩ | ⟨g, cap, cur, hv, _⟩
      · exact ⟨_, _, by rw [hv, hz]⟩
      · exact ⟨_, _, hv⟩
    obtain ⟨A', c', rfl⟩ := hform
    exact ⟨A', c', w', hrun, h2, (Below.refl base w).grown h3 hbase (fun k hk => (h.lt k hk).1), h3, h5⟩
  rcases hy with h0 | ⟨b, o, e, hc⟩
  · subst h0
    obtain rfl : ys = [] := List.eq_nil_of_length_eq_zero (by omega)
    rcases A2 with _ | ad
    · exact ⟨A, c, w, append_nil_src ht hi h, by simpa using h, Below.refl _ _, ⟨rfl, rfl, rfl, Nat.le_refl _, fun _ _ _ => rfl⟩, .inl rfl⟩
    · exact fin ad rfl (fun j u hu => by simp at hu)
  · refine fin _ e fun j u hu => ?_
    have := hc j u hu
    by_cases hj : j = 0
    · subst hj; simpa [Addr.add] using this
    · simpa [Addr.add, hj] using this

theorem flatten_at {k : Nat} : ∀ {l : List (List Value)} {j : Nat} {x : List Value} {i : Nat} {v : Value}, (∀ y ∈ l, y.length = k) → l[j]? = some x → x[i]? = some v → l.flatten[j * k + i]? = some v
  | [], _, _, _, _, _, hx, _ => by simp at hx
  | y :: l, 0, x, i, v, hk, hx, hv => by
    simp at hx
    subst hx
    rw [List.flatten_cons, Nat.zero_mul, Nat.zero_add, List.getElem?_append_left (by rw [List.getElem?_eq_some_iff] at hv; exact hv.1)]
    exact hv
  | y :: l, j + 1, x, i, v, hk, hx, hv => by
    have hy := hk y (by simp)
    rw [List.flatten_cons, List.getElem?_append_right (by rw [hy, Nat.add_mul]; omega), hy, show (j + 1) * k + i - k = j * k + i by rw [Nat.add_mul]; omega]
    exact flatten_at (fun y h => hk y (by simp [h])) (by simpa using hx) hv
theorem flatten_len {k : Nat} : ∀ {l : List (List Value)}, (∀ y ∈ l, y.length = k) → l.flatten.length = l.length * k
  | [], _ => by simp
  | y :: l, h => by
    rw [List.flatten_cons, List.length_append, h y (by simp), flatten_len fun y hy => h y (by simp [hy]), List.length_cons, Nat.add_mul]
    omega
theorem flatten_of {k : Nat} (hk : 0 < k) {l : List (List Value)} {j : Nat} {u : Value} (hl : ∀ y ∈ l, y.length = k) (h : l.flatten[j]? = some u) : ∃ x, l[j / k]? = some x ∧ x[j % k]? = some u := by
  have hj : j < l.length * k := by rw [← flatten_len hl]; exact (List.getElem?_eq_some_iff.1 h).1
  have hd : j / k < l.length := Nat.div_lt_of_lt_mul (by rw [Nat.mul_comm]; exact hj)
  have hx : l[j / k]? = some l[j / k] := List.getElem?_eq_getElem hd
  refine ⟨l[j / k], hx, ?_⟩
  have hm : j % k < (l[j / k]).length := by rw [hl _ (List.getElem_mem hd)]; exact Nat.mod_lt _ hk
  have hv : (l[j / k])[j % k]? = some (l[j / k])[j % k] := List.getElem?_eq_getElem hm
  have := flatten_at hl hx hv
  rw [show j / k * k + j % k = j from by rw [Nat.mul_comm]; exact Nat.div_add_mod j k] at this
  rw [hv, ← this, h]

/-- What the cells of a row of structs are. -/
theorem Rw.raw {α : Type} {k : Nat} {P : List Value → α → Prop} {w : World} {R : Nat → Prop} {A : Option Addr} {n c : Nat} {l : List α} (h : Rw k P w R A n c l) :
    n = 0 ∨ ∃ raw : List (List Value), raw.length = n ∧ (∀ y ∈ raw, y.length = k) ∧ (∀ (j : Nat) (vs : List Value) (x : α), raw[j]? = some vs → l[j]? = some x → P vs x) ∧ ∃ b o, A = some ⟨b, o, none⟩ ∧ ∀ (j : Nat) (vs : List Value), raw[j]? = some vs → ∀ (i : Nat) v, vs[i]? = some v → w.cell? ⟨b, o + j * k + i, none⟩ = some v := by
  obtain ⟨h1, h2, h3, h4⟩ := h
  rcases h4 with h4 | ⟨b, o, e, hb, hlt, hc⟩
  · exact .inl h4
  right
  have hall : ∀ j, j < n → ∃ vs : List Value, vs.length = k ∧ (∀ (i : Nat) v, vs[i]? = some v → w.cell? ⟨b, o + j * k + i, none⟩ = some v) ∧ ∀ x, l[j]? = some x → P vs x := fun j hj => by
    have hl : j < l.length := by omega
    obtain ⟨vs, a1, a2, a3⟩ := hc j l[j] (List.getElem?_eq_getElem hl)
    refine ⟨vs, a1, a2, fun x hx => ?_⟩
    rw [List.getElem?_eq_getElem hl] at hx
    exact Option.some.inj hx ▸ a3
  obtain ⟨V, hV⟩ : ∃ V : Nat → List Value, ∀ j, j < n → (V j).length = k ∧ (∀ (i : Nat) v, (V j)[i]? = some v → w.cell? ⟨b, o + j * k + i, none⟩ = some v) ∧ ∀ x, l[j]? = some x → P (V j) x :=
    ⟨fun j => if hj : j < n then Classical.choose (hall j hj) else [], fun j hj => by simp only [hj, dif_pos]; exact Classical.choose_spec (hall j hj)⟩
  have hget : ∀ (j : Nat) (vs : List Value), ((List.range n).map V)[j]? = some vs → j < n ∧ vs = V j := fun j vs hj => by
    rw [List.getElem?_map, Option.map_eq_some_iff] at hj
    obtain ⟨i, hi, rfl⟩ := hj
    have hjn : j < n := by have := (List.getElem?_eq_some_iff.1 hi).1; simpa using this
    rw [List.getElem?_range hjn] at hi
    exact ⟨hjn, by rw [Option.some.inj hi]⟩
  refine ⟨(List.range n).map V, by simp, fun y hy => ?_, fun j vs x hj hx => ?_, b, o, e, fun j vs hj i v hv => ?_⟩
  · obtain ⟨i, hi, rfl⟩ := List.mem_map.1 hy
    exact (hV i (by simpa using hi)).1
  · obtain ⟨hjn, rfl⟩ := hget j vs hj
    exact (hV j hjn).2.2 x hx
  · obtain ⟨hjn, rfl⟩ := hget j vs hj
    exact (hV j hjn).2.1 i v hv

/-- A row of the call's own reads as what its cells say. -/
theorem Rw.of_own {α : Type} {k : Nat} {P : List Value → α → Prop} {w : World} {base n c : Nat} {E : TypeId} {A : Option Addr} {l : List α} {raw : List (List Value)} {R : Nat → Prop} (h : w.ownsRow base E k (.slice A n c) n raw.flatten)
    (hbig : n ≤ 140737488351232) (hl : raw.length = n) (hln : l.length = n) (hk : ∀ y ∈ raw, y.length = k) (hP : ∀ (j : Nat) (vs : List Value) (x : α), raw[j]? = some vs → l[j]? = some x → P vs x) (hR : ∀ ad, A = some ad → base ≤ ad.block → R ad.block) : Rw k P w R A n c l := by
  rcases h.2 with ⟨hv, hn⟩ | ⟨g, cap, cur, hv, hb, hg, hnc, hcm, hcs, ht⟩
  · injection hv with h1 h2 h3
    subst h1 h2 h3
    exact ⟨hln, Nat.le_refl _, ⟨by simp [maxLen], by omega⟩, .inl rfl⟩
  · injection hv with h1 h2 h3
    subst h1 h3
    refine ⟨hln, hnc, ⟨hcm, hbig⟩, .inr ⟨g, 0, rfl, hR _ rfl hb, ?_, fun j x hx => ?_⟩⟩
    · rcases Nat.lt_or_ge g w.heap.size with hlt | hge
      · exact hlt
      · rw [Array.getElem?_eq_none hge] at hg; cases hg
    · have hjr : j < raw.length := by have := (List.getElem?_eq_some_iff.1 hx).1; omega
      refine ⟨raw[j], hk _ (List.getElem_mem hjr), fun i v hv => ?_, hP j _ x (List.getElem?_eq_getElem hjr) hx⟩
      have := h.cells (g := g) rfl (j * k + i) v (flatten_at hk (List.getElem?_eq_getElem hjr) hv)
      have add : (⟨g, 0, none⟩ : Addr).add (j * k + i) = ⟨g, 0 + j * k + i, none⟩ := by by_cases hj : j * k + i = 0 <;> simp [Addr.add, hj]; omega
      rwa [add] at this
/-- Its cells, to be appended. -/
theorem Rw.fl {α : Type} {k : Nat} {P : List Value → α → Prop} {w : World} {R : Nat → Prop} {A : Option Addr} {n c : Nat} {l : List α} (h : Rw k P w R A n c l) (hk : 0 < k) (h1 : ∀ vs x, P vs x → ∀ v ∈ vs, v.oneCell' = true) :
    ∃ raw : List (List Value), raw.length = n ∧ (∀ y ∈ raw, y.length = k) ∧ (∀ (j : Nat) (vs : List Value) (x : α), raw[j]? = some vs → l[j]? = some x → P vs x) ∧ Fl w k A n raw.flatten := by
  rcases h.raw with h0 | ⟨raw, r1, r2, r3, b, o, e, r4⟩
  · subst h0
    exact ⟨[], rfl, by simp, by simp, by simp, by simp, .inl rfl⟩
  · refine ⟨raw, r1, r2, r3, by rw [flatten_len r2, r1], fun v hv => ?_, .inr ⟨b, o, e, fun j u hu => ?_⟩⟩
    · obtain ⟨y, hy, hv⟩ := List.mem_flatten.1 hv
      obtain ⟨j, hj, rfl⟩ := List.getElem_of_mem hy
      have hjl : j < l.length := by have := h.1; omega
      exact h1 _ _ (r3 j _ _ (List.getElem?_eq_getElem hj) (List.getElem?_eq_getElem hjl)) v hv
    · obtain ⟨x, hx, hv⟩ := flatten_of hk r2 hu
      have := r4 _ _ hx _ _ hv
      rwa [Nat.add_assoc, show j / k * k + j % k = j from by rw [Nat.mul_comm]; exact Nat.div_add_mod j k] at this

theorem Rw.flat_fl {α : Type} {k : Nat} {f : α → List Value} {okp : α → Prop} {w : World} {R : Nat → Prop} {A : Option Addr} {n c : Nat} {l : List α} (h : Rw k (fun vs x => vs = f x ∧ okp x) w R A n c l) (hk : 0 < k) (h1 : ∀ x, ∀ v ∈ f x, v.oneCell' = true) : Fl w k A n (l.flatMap f) := by
  obtain ⟨raw, r1, r2, r3, r4⟩ := Rw.fl h hk (fun vs x hp v hv => h1 x v (hp.1 ▸ hv))
  have hl := h.1
  have e : raw = l.map f := by
    apply List.ext_getElem?
    intro j
    by_cases hj : j < n
    · have a1 : raw[j]? = some raw[j] := List.getElem?_eq_getElem (by omega)
      have a2 : l[j]? = some l[j] := List.getElem?_eq_getElem (by omega)
      have := (r3 j _ _ a1 a2).1
      rw [a1, List.getElem?_map, a2, this]; rfl
    · rw [List.getElem?_eq_none (by omega), List.getElem?_eq_none (by rw [List.length_map]; omega)]
  rw [e, ← List.flatMap_def] at r4
  exact r4
theorem Rw.flat_own {α : Type} {k : Nat} {f : α → List Value} {okp : α → Prop} {w : World} {base n c : Nat} {E : TypeId} {A : Option Addr} {l : List α} {R : Nat → Prop} (h : w.ownsRow base E k (.slice A n c) n (l.flatMap f)) (hbig : n ≤ 140737488351232) (hln : l.length = n) (hf : ∀ x, (f x).length = k) (hok : ∀ x ∈ l, okp x)
    (hR : ∀ ad, A = some ad → base ≤ ad.block → R ad.block) : Rw k (fun vs x => vs = f x ∧ okp x) w R A n c l := by
  rw [List.flatMap_def] at h
  refine Rw.of_own h hbig (by rw [List.length_map]; exact hln) hln (fun y hy => ?_) (fun j vs x h1 h2 => ?_) hR
  · obtain ⟨x, _, rfl⟩ := List.mem_map.1 hy
    exact hf x
  · rw [List.getElem?_map, h2] at h1
    exact ⟨(Option.some.inj h1).symm, hok x (List.mem_of_getElem? h2)⟩
theorem Dut.one (x : Dut) : ∀ v ∈ x.cells, v.oneCell' = true := by intro v hv; simp [Dut.cells] at hv; rcases hv with rfl | rfl | rfl <;> rfl
theorem Nod.one (x : Nod) : ∀ v ∈ x.cells, v.oneCell' = true := by intro v hv; simp [Nod.cells] at hv; rcases hv with rfl | rfl | rfl | rfl | rfl | rfl | rfl <;> rfl
theorem Mat.one (x : Mat) : ∀ v ∈ x.cells, v.oneCell' = true := by intro v hv; simp [Mat.cells] at hv; rcases hv with rfl | rfl | rfl | rfl | rfl | rfl | rfl <;> rfl
theorem Dus.fl {w : World} {R : Nat → Prop} {A : Option Addr} {n c : Nat} {l : List Dut} (h : Dus w R A n c l) : Fl w 3 A n (l.flatMap Dut.cells) := Rw.flat_fl h (by omega) Dut.one
theorem Nds.fl {w : World} {R : Nat → Prop} {A : Option Addr} {n c : Nat} {l : List Nod} (h : Nds w R A n c l) : Fl w 7 A n (l.flatMap Nod.cells) := Rw.flat_fl h (by omega) Nod.one
theorem Ms.fl {w : World} {R : Nat → Prop} {A : Option Addr} {n c : Nat} {l : List Mat} (h : Ms w R A n c l) : Fl w 7 A n (l.flatMap Mat.cells) := Rw.flat_fl h (by omega) Mat.one
theorem Rw.all {α : Type} {k : Nat} {f : α → List Value} {okp : α → Prop} {w : World} {R : Nat → Prop} {A : Option Addr} {n c : Nat} {l : List α} (h : Rw k (fun vs x => vs = f x ∧ okp x) w R A n c l) : ∀ x ∈ l, okp x := by
  intro x hx
  obtain ⟨j, hj, rfl⟩ := List.getElem_of_mem hx
  obtain ⟨b, o, y, vs, _, _, _, hy, _, _, hp⟩ := h.at_ (j := j) (by have := h.1; omega)
  rw [List.getElem?_eq_getElem hj] at hy
  exact Option.some.inj hy ▸ hp.2
theorem own_none (w : World) (E : TypeId) (k : Nat) : (w.alloc (.cells #[] E)).ownsRow w.heap.size E k (.slice (some ⟨w.heap.size, 0, none⟩) 0 0) 0 [] :=
  World.ownsRow_lit w #[] 0 (Nat.le_refl _) (by simp [maxLen]) (by simp)
theorem flatMap_app {α β : Type} (f : α → List β) (l m : List α) : (l ++ m).flatMap f = l.flatMap f ++ m.flatMap f := List.flatMap_append

theorem info_of {P : Program} {E : TypeId} {z : Value} {k b : Nat} (h : (P.info? E).map (fun i => (i.zero, i.size, i.bytes)) = some (some z, k, b)) : ∃ i, P.info? E = some i ∧ i.zero = some z ∧ i.size = k ∧ i.bytes = b := by
  cases hi : P.info? E with
  | none => rw [hi] at h; cases h
  | some i =>
    rw [hi] at h
    simp only [Option.map_some, Option.some.injEq, Prod.mk.injEq] at h
    exact ⟨i, rfl, h.1, h.2.1, h.2.2⟩
theorem dutinfo : (Tryd.prog.info? 40).map (fun i => (i.zero, i.size, i.bytes)) = some (some (.agg #[.int .i64 0, .int .i64 0, .string ⟨#[]⟩]), 3, 32) := by kernel_rfl
theorem nodinfo : (Tryd.prog.info? 33).map (fun i => (i.zero, i.size, i.bytes)) = some (some (.agg #[.int .i64 0, .int .i64 0, .int .i64 0, .string ⟨#[]⟩, .int .i64 0, .string ⟨#[]⟩, .bool false]), 7, 72) := by kernel_rfl
theorem append_duts {w : World} {base n c m c2 ty : Nat} {R : Nat → Prop} {A A2 : Option Addr} {xs ys : List Dut} (h : w.ownsRow base 40 3 (.slice A n c) n (xs.flatMap Dut.cells)) (hy : Dus w R A2 m c2 ys) (hn : n + m ≤ 1000000) (hbase : base ≤ w.heap.size) :
    ∃ A' c' w', (Builtin.append_ #[35, 35] ty #[.slice A n c, .slice A2 m c2]).run Tryd.prog w = .ok (.slice A' (n + m) c') w' ∧
      w'.ownsRow base 40 3 (.slice A' (n + m) c') (n + m) ((xs ++ ys).flatMap Dut.cells) ∧ Below base w w' ∧ w.grownBy w' (Value.slice A n c).ownBlock ∧
      ((Value.slice A' (n + m) c').ownBlock = (Value.slice A n c).ownBlock ∨ (Value.slice A' (n + m) c').ownBlock = some w.heap.size) := by
  obtain ⟨i, hi, hz, hs, hb⟩ := info_of dutinfo
  rw [flatMap_app]
  exact append_rows Tryd.underlying35 hi hz hs hb rfl (by omega) (by omega) h hy.fl hn hbase
theorem append_nods {w : World} {base n c m c2 ty : Nat} {R : Nat → Prop} {A A2 : Option Addr} {xs ys : List Nod} (h : w.ownsRow base 33 7 (.slice A n c) n (xs.flatMap Nod.cells)) (hy : Nds w R A2 m c2 ys) (hn : n + m ≤ 1000000) (hbase : base ≤ w.heap.size) :
    ∃ A' c' w', (Builtin.append_ #[34, 34] ty #[.slice A n c, .slice A2 m c2]).run Tryd.prog w = .ok (.slice A' (n + m) c') w' ∧
      w'.ownsRow base 33 7 (.slice A' (n + m) c') (n + m) ((xs ++ ys).flatMap Nod.cells) ∧ Below base w w' ∧ w.grownBy w' (Value.slice A n c).ownBlock ∧
      ((Value.slice A' (n + m) c').ownBlock = (Value.slice A n c).ownBlock ∨ (Value.slice A' (n + m) c').ownBlock = some w.heap.size) := by
  obtain ⟨i, hi, hz, hs, hb⟩ := info_of nodinfo
  rw [flatMap_app]
  exact append_rows Tryd.underlying34 hi hz hs hb rfl (by omega) (by omega) h hy.fl hn hbase

/-- append(append([]T{}, a...), b...). -/
theorem both_dus {w : World} {R : Nat → Prop} {A0 A1 : Option Addr} {p0 c0 p1 c1 q : Nat} {L0 L1 : List Dut} (h0 : Dus w R A0 p0 c0 L0) (h1 : Dus w R A1 p1 c1 L1) (h : p0 + p1 ≤ 1000000) (hq : q = p0 + p1) :
    ∃ A5 c5 w5 A6 c6 w6, (Builtin.append_ #[35, 35] 35 #[.slice (some ⟨w.heap.size, 0, none⟩) 0 0, .slice A0 p0 c0]).run Tryd.prog (w.alloc (.cells #[] 40)) = .ok (.slice A5 p0 c5) w5 ∧
      (Builtin.append_ #[35, 35] 35 #[.slice A5 p0 c5, .slice A1 p1 c1]).run Tryd.prog w5 = .ok (.slice A6 q c6) w6 ∧ Below w.heap.size w w6 ∧ Dus w6 (fun _ => True) A6 q c6 (L0 ++ L1) ∧ w6.ownsRow w.heap.size 40 3 (.slice A6 q c6) q ((L0 ++ L1).flatMap Dut.cells) := by
  subst hq
  have e1 : Below w.heap.size w (w.alloc (.cells #[] 40)) := (Below.refl _ _).alloc (Nat.le_refl _) _
  obtain ⟨A5, c5, w5, r5, o5, b5, _, _⟩ := append_duts (ty := 35) (xs := []) (own_none w 40 3) (h0.keep (Kept.all e1 R) (fun _ h _ => h)) (by omega) e1.size
  rw [Nat.zero_add] at r5 o5
  have e5 := e1.trans b5
  obtain ⟨A6, c6, w6, r6, o6, b6, _, _⟩ := append_duts (ty := 35) o5 (h1.keep (Kept.all e5 R) (fun _ h _ => h)) h e5.size
  refine ⟨A5, c5, w5, A6, c6, w6, r5, r6, e5.trans b6, ?_, o6⟩
  exact Rw.flat_own o6 (by omega) (by rw [List.length_append, Rw.len h0, Rw.len h1]) (fun _ => rfl) (fun x hx => (List.mem_append.1 hx).elim (Rw.all h0 x) (Rw.all h1 x)) (fun _ _ _ => trivial)
/-- append([]T{}, x). -/
theorem both_dus_one {w : World} (x : Dut) (hx : x.ok) :
    ∃ A5 c5 w5, (Builtin.append_ #[35, 35] 35 #[.slice (some ⟨w.heap.size, 0, none⟩) 0 0, .slice (some ⟨w.heap.size + 1, 0, none⟩) 1 1]).run Tryd.prog ((w.alloc (.cells #[] 40)).alloc (.cells x.cells.toArray 40)) = .ok (.slice A5 1 c5) w5 ∧
      Below w.heap.size w w5 ∧ Dus w5 (fun _ => True) A5 1 c5 [x] := by
  have h1 := Rw.lit (k := 3) (R := fun _ => True) (P := fun vs (y : Dut) => vs = y.cells ∧ y.ok) (w.alloc (.cells #[] 40)) 40 Dut.cells [x] (n := 1) rfl (by omega) trivial (fun _ _ => rfl) (fun y hy => ⟨rfl, by simp at hy; subst hy; exact hx⟩)
  rw [size_al] at h1
  have e1 : Below w.heap.size w ((w.alloc (.cells #[] 40)).alloc (.cells (List.flatMap Dut.cells [x]).toArray 40)) := ((Below.refl _ _).alloc (Nat.le_refl _) _).alloc (by simp only [size_al]; omega) _
  obtain ⟨A5, c5, w5, r5, o5, b5, _, _⟩ := append_duts (ty := 35) (xs := []) ((own_none w 40 3).alloc (.cells (List.flatMap Dut.cells [x]).toArray 40)) h1 (by omega) e1.size
  rw [Nat.zero_add] at r5 o5
  refine ⟨A5, c5, w5, by simpa using r5, e1.trans b5, ?_⟩
  exact Rw.flat_own o5 (by omega) rfl (fun _ => rfl) (fun y hy => by simp at hy; subst hy; exact hx) (fun _ _ _ => trivial)

/-- append(append([]T{}, a...), b...). -/
theorem both_nds {w : World} {R : Nat → Prop} {A0 A1 : Option Addr} {p0 c0 p1 c1 q : Nat} {L0 L1 : List Nod} (h0 : Nds w R A0 p0 c0 L0) (h1 : Nds w R A1 p1 c1 L1) (h : p0 + p1 ≤ 1000000) (hq : q = p0 + p1) :
    ∃ A5 c5 w5 A6 c6 w6, (Builtin.append_ #[34, 34] 34 #[.slice (some ⟨w.heap.size, 0, none⟩) 0 0, .slice A0 p0 c0]).run Tryd.prog (w.alloc (.cells #[] 33)) = .ok (.slice A5 p0 c5) w5 ∧
      (Builtin.append_ #[34, 34] 34 #[.slice A5 p0 c5, .slice A1 p1 c1]).run Tryd.prog w5 = .ok (.slice A6 q c6) w6 ∧ Below w.heap.size w w6 ∧ Nds w6 (fun _ => True) A6 q c6 (L0 ++ L1) ∧ w6.ownsRow w.heap.size 33 7 (.slice A6 q c6) q ((L0 ++ L1).flatMap Nod.cells) := by
  subst hq
  have e1 : Below w.heap.size w (w.alloc (.cells #[] 33)) := (Below.refl _ _).alloc (Nat.le_refl _) _
  obtain ⟨A5, c5, w5, r5, o5, b5, _, _⟩ := append_nods (ty := 34) (xs := []) (own_none w 33 7) (h0.keep (Kept.all e1 R) (fun _ h _ => h)) (by omega) e1.size
  rw [Nat.zero_add] at r5 o5
  have e5 := e1.trans b5
  obtain ⟨A6, c6, w6, r6, o6, b6, _, _⟩ := append_nods (ty := 34) o5 (h1.keep (Kept.all e5 R) (fun _ h _ => h)) h e5.size
  refine ⟨A5, c5, w5, A6, c6, w6, r5, r6, e5.trans b6, ?_, o6⟩
  exact Rw.flat_own o6 (by omega) (by rw [List.length_append, Rw.len h0, Rw.len h1]) (fun _ => rfl) (fun x hx => (List.mem_append.1 hx).elim (Rw.all h0 x) (Rw.all h1 x)) (fun _ _ _ => trivial)
/-- append([]T{}, x). -/
theorem both_nds_one {w : World} (x : Nod) (hx : x.ok) :
    ∃ A5 c5 w5, (Builtin.append_ #[34, 34] 34 #[.slice (some ⟨w.heap.size, 0, none⟩) 0 0, .slice (some ⟨w.heap.size + 1, 0, none⟩) 1 1]).run Tryd.prog ((w.alloc (.cells #[] 33)).alloc (.cells x.cells.toArray 33)) = .ok (.slice A5 1 c5) w5 ∧
      Below w.heap.size w w5 ∧ Nds w5 (fun _ => True) A5 1 c5 [x] := by
  have h1 := Rw.lit (k := 7) (R := fun _ => True) (P := fun vs (y : Nod) => vs = y.cells ∧ y.ok) (w.alloc (.cells #[] 33)) 33 Nod.cells [x] (n := 1) rfl (by omega) trivial (fun _ _ => rfl) (fun y hy => ⟨rfl, by simp at hy; subst hy; exact hx⟩)
  rw [size_al] at h1
  have e1 : Below w.heap.size w ((w.alloc (.cells #[] 33)).alloc (.cells (List.flatMap Nod.cells [x]).toArray 33)) := ((Below.refl _ _).alloc (Nat.le_refl _) _).alloc (by simp only [size_al]; omega) _
  obtain ⟨A5, c5, w5, r5, o5, b5, _, _⟩ := append_nods (ty := 34) (xs := []) ((own_none w 33 7).alloc (.cells (List.flatMap Nod.cells [x]).toArray 33)) h1 (by omega) e1.size
  rw [Nat.zero_add] at r5 o5
  refine ⟨A5, c5, w5, by simpa using r5, e1.trans b5, ?_⟩
  exact Rw.flat_own o5 (by omega) rfl (fun _ => rfl) (fun y hy => by simp at hy; subst hy; exact hx) (fun _ _ _ => trivial)
end Go.Proofs.YtdbnaaddocahpaaDoor
/- Rows of the call's own whose elements lead to memory: append. -/
namespace Go.Proofs.YtdbnaaddocahpaaDoor
set_option linter.unusedVariables false
open Go.RowKit

/-- A row of the call's own, of so many cells each, which say l. -/
def Ow {α : Type} (k : Nat) (P : List Value → α → Prop) (w : World) (base : Nat) (E : TypeId) (A : Option Addr) (n c : Nat) (l : List α) : Prop :=
  ∃ raw : List (List Value), w.ownsRow base E k (.slice A n c) n raw.flatten ∧ raw.length = n ∧ l.length = n ∧ (∀ y ∈ raw, y.length = k) ∧ ∀ (j : Nat) (vs : List Value) (x : α), raw[j]? = some vs → l[j]? = some x → P vs x
section
variable {α : Type} {k : Nat} {P P' : List Value → α → Prop} {w w' : World} {base : Nat} {E : TypeId} {A : Option Addr} {n c : Nat} {l : List α}
theorem Ow.len (h : Ow k P w base E A n c l) : l.length = n := by obtain ⟨_, _, _, h, _⟩ := h; exact h
theorem Ow.made (k : Nat) (P : List Value → α → Prop) (w : World) (E : TypeId) : Ow k P (w.alloc (.cells #[] E)) w.heap.size E (some ⟨w.heap.size, 0, none⟩) 0 0 [] :=
  ⟨[], own_none w E k, rfl, rfl, by simp, by simp⟩
theorem Ow.nil (k : Nat) (P : List Value → α → Prop) (w : World) (base : Nat) (E : TypeId) : Ow k P w base E none 0 0 [] :=
  ⟨[], ⟨by simp, .inl ⟨rfl, rfl⟩⟩, rfl, rfl, by simp, by simp⟩
theorem Ow.mapP (h : Ow k P w base E A n c l) (hP : ∀ vs x, x ∈ l → P vs x → P' vs x) : Ow k P' w base E A n c l := by
  obtain ⟨raw, h1, h2, h3, h4, h5⟩ := h
  exact ⟨raw, h1, h2, h3, h4, fun j vs x a b => hP vs x (List.mem_of_getElem? b) (h5 j vs x a b)⟩
theorem Ow.grown (h : Ow k P w base E A n c l) {row : Option Nat} (hg : w.grownBy w' row) (hne : (Value.slice A n c).ownBlock = none ∨ (Value.slice A n c).ownBlock ≠ row) : Ow k P w' base E A n c l := by
  obtain ⟨raw, h1, h2, h3, h4, h5⟩ := h
  exact ⟨raw, h1.kept (row := row) hg hne, h2, h3, h4, h5⟩
theorem Ow.below (h : Ow k P w base E A n c l) (hb : Below w.heap.size w w') : Ow k P w' base E A n c l := by
  refine h.grown (row := none) ⟨hb.os, hb.tape, hb.output, hb.size, fun k hk _ => hb.block k hk⟩ ?_
  by_cases hv : (Value.slice A n c).ownBlock = none
  · exact .inl hv
  · exact .inr hv
theorem Ow.alloc (h : Ow k P w base E A n c l) (o : Obj) : Ow k P (w.alloc o) base E A n c l := h.below ((Below.refl _ _).alloc (Nat.le_refl _) _)
theorem Ow.rw {R : Nat → Prop} (h : Ow k P w base E A n c l) (hbig : n ≤ 140737488351232) (hR : ∀ ad, A = some ad → base ≤ ad.block → R ad.block) : Rw k P w R A n c l := by
  obtain ⟨raw, h1, h2, h3, h4, h5⟩ := h
  exact Rw.of_own h1 hbig h2 h3 h4 h5 hR
theorem Ow.app {Pg : Program} {T : TypeId} {i : TypeInfo} {z : Value} {by_ : Nat} (ht : Pg.underlying T = some (.slice E)) (hi : Pg.info? E = some i) (hz : i.zero = some z) (hs : i.size = k) (hb : i.bytes = by_) (hzs : z.cells.size = k) (hk : 0 < k) (hby : by_ ≤ 1000)
    {m c2 ty : Nat} {A2 : Option Addr} {R : Nat → Prop} {ys : List α} (h : Ow k P w base E A n c l) (hy : Rw k P w R A2 m c2 ys) (h1 : ∀ vs x, P vs x → ∀ v ∈ vs, v.oneCell' = true) (hn : n + m ≤ 1000000) (hbase : base ≤ w.heap.size) :
    ∃ A' c' w', (Builtin.append_ #[T, T] ty #[.slice A n c, .slice A2 m c2]).run Pg w = .ok (.slice A' (n + m) c') w' ∧ Ow k P w' base E A' (n + m) c' (l ++ ys) ∧ Below base w w' ∧ w.grownBy w' (Value.slice A n c).ownBlock ∧
      ((Value.slice A' (n + m) c').ownBlock = (Value.slice A n c).ownBlock ∨ (Value.slice A' (n + m) c').ownBlock = some w.heap.size) := by
  obtain ⟨raw, o1, o2, o3, o4, o5⟩ := h
  obtain ⟨raw2, r1, r2, r3, r4⟩ := hy.fl hk h1
  obtain ⟨A', c', w', hrun, hown, hbel, hg, ha⟩ := append_rows (ty := ty) (c2 := c2) ht hi hz hs hb hzs hk hby o1 r4 hn hbase
  refine ⟨A', c', w', hrun, ⟨raw ++ raw2, by rw [List.flatten_append]; exact hown, by rw [List.length_append, o2, r1], by rw [List.length_append, o3, hy.1], fun y hy => (List.mem_append.1 hy).elim (o4 y) (r2 y), fun j vs x a b => ?_⟩, hbel, hg, ha⟩
  by_cases hj : j < n
  · rw [List.getElem?_append_left (by omega)] at a b
    exact o5 j vs x a b
  · rw [List.getElem?_append_right (by omega)] at a b
    rw [o2] at a
    rw [o3] at b
    exact r3 (j - n) vs x a b
end

/-- Cells of slices. -/
def AlP (w : World) (R : Nat → Prop) (vs : List Value) (l : List Mat) : Prop := ∃ A n c, vs = [.slice A n c] ∧ Ms w R A n c l
def AnP (w : World) (R : Nat → Prop) (vs : List Value) (l : List (List Mat)) : Prop := ∃ A n c, vs = [.slice A n c] ∧ Als w R A n c l
theorem AlP.one {w : World} {R : Nat → Prop} (vs : List Value) (l : List Mat) (h : AlP w R vs l) : ∀ v ∈ vs, v.oneCell' = true := by
  obtain ⟨A, n, c, rfl, _⟩ := h
  intro v hv
  simp at hv
  subst hv
  rfl
theorem AnP.one {w : World} {R : Nat → Prop} (vs : List Value) (l : List (List Mat)) (h : AnP w R vs l) : ∀ v ∈ vs, v.oneCell' = true := by
  obtain ⟨A, n, c, rfl, _⟩ := h
  intro v hv
  simp at hv
  subst hv
  rfl
theorem AnP.keep {w w' : World} {R R' : Nat → Prop} {vs : List Value} {l : List (List Mat)} (h : AnP w R vs l) (hk : Kept R w w') (hR : ∀ b, R b → b < w.heap.size → R' b) : AnP w' R' vs l := by
  obtain ⟨A, n, c, e, h⟩ := h
  exact ⟨A, n, c, e, h.keep hk hR⟩
theorem AlP.keep {w w' : World} {R R' : Nat → Prop} {vs : List Value} {l : List Mat} (h : AlP w R vs l) (hk : Kept R w w') (hR : ∀ b, R b → b < w.heap.size → R' b) : AlP w' R' vs l := by
  obtain ⟨A, n, c, e, h⟩ := h
  exact ⟨A, n, c, e, h.keep hk hR⟩
theorem s1info : (Tryd.prog.info? 29).map (fun i => (i.zero, i.size, i.bytes)) = some (some (.slice none 0 0), 1, 24) := by kernel_rfl
theorem s0info : (Tryd.prog.info? 28).map (fun i => (i.zero, i.size, i.bytes)) = some (some (.slice none 0 0), 1, 24) := by kernel_rfl
/-- append to a target. -/
theorem append_anys {w : World} {base n c m c2 ty : Nat} {R R2 : Nat → Prop} {A A2 : Option Addr} {xs ys : Tgt} (h : Ow 1 (AnP w R2) w base 29 A n c xs) (hy : Rw 1 (AnP w R2) w R A2 m c2 ys) (hn : n + m ≤ 1000000) (hbase : base ≤ w.heap.size) :
    ∃ A' c' w', (Builtin.append_ #[31, 31] ty #[.slice A n c, .slice A2 m c2]).run Tryd.prog w = .ok (.slice A' (n + m) c') w' ∧ Ow 1 (AnP w R2) w' base 29 A' (n + m) c' (xs ++ ys) ∧ Below base w w' ∧ w.grownBy w' (Value.slice A n c).ownBlock ∧
      ((Value.slice A' (n + m) c').ownBlock = (Value.slice A n c).ownBlock ∨ (Value.slice A' (n + m) c').ownBlock = some w.heap.size) := by
  obtain ⟨i, hi, hz, hs, hb⟩ := info_of s1info
  exact Ow.app Tryd.underlying31 hi hz hs hb rfl (by omega) (by omega) h hy AnP.one hn hbase
theorem any_mono {w : World} {R : Nat → Prop} {A : Option Addr} {n c : Nat} {l : Tgt} (h : Tg w R A n c l) : Tg w (fun b => b < w.heap.size) A n c l := h.keep (Kept.refl _ _) fun _ _ h => h

/-- append(append(Target{}, a...), b...). -/
theorem both_tg {w : World} {R : Nat → Prop} {A0 A1 : Option Addr} {p0 c0 p1 c1 q : Nat} {L0 L1 : Tgt} (h0 : Tg w R A0 p0 c0 L0) (h1 : Tg w R A1 p1 c1 L1) (h : p0 + p1 ≤ 1000000) (hq : q = p0 + p1) :
    ∃ A5 c5 w5 A6 c6 w6, (Builtin.append_ #[31, 31] 31 #[.slice (some ⟨w.heap.size, 0, none⟩) 0 0, .slice A0 p0 c0]).run Tryd.prog (w.alloc (.cells #[] 29)) = .ok (.slice A5 p0 c5) w5 ∧
      (Builtin.append_ #[31, 31] 31 #[.slice A5 p0 c5, .slice A1 p1 c1]).run Tryd.prog w5 = .ok (.slice A6 q c6) w6 ∧ Below w.heap.size w w6 ∧ Tg w6 (fun _ => True) A6 q c6 (L0 ++ L1) := by
  subst hq
  have e1 : Below w.heap.size w (w.alloc (.cells #[] 29)) := (Below.refl _ _).alloc (Nat.le_refl _) _
  have hlow0 := h0.keep (Kept.all e1 R) (fun b _ hb => hb) (R' := fun b => b < w.heap.size)
  obtain ⟨A5, c5, w5, r5, o5, b5, _, _⟩ := append_anys (ty := 31) (xs := []) (Ow.made 1 (AnP (w.alloc (.cells #[] 29)) (fun b => b < w.heap.size)) w 29) hlow0 (by omega) e1.size
  rw [Nat.zero_add] at r5 o5
  have e5 := e1.trans b5
  have o5' := o5.mapP (P' := AnP w5 (fun b => b < w.heap.size)) (fun vs x _ hp => hp.keep (Kept.below b5 (fun b hb _ => hb)) (fun b hb _ => hb))
  have hlow1 := h1.keep (Kept.all e5 R) (fun b _ hb => hb) (R' := fun b => b < w.heap.size)
  obtain ⟨A6, c6, w6, r6, o6, b6, _, _⟩ := append_anys (ty := 31) o5' hlow1 h e5.size
  refine ⟨A5, c5, w5, A6, c6, w6, r5, r6, e5.trans b6, ?_⟩
  exact (o6.mapP (P' := AnP w6 (fun _ => True)) (fun vs x _ hp => hp.keep (Kept.below b6 (fun b hb _ => hb)) (fun _ _ _ => trivial))).rw (by omega) (fun _ _ _ => trivial)
/-- append(append(Target{}, a...), nil). -/
theorem hollow_tg {w : World} {R : Nat → Prop} {A0 : Option Addr} {p0 c0 : Nat} {L0 : Tgt} (h0 : Tg w R A0 p0 c0 L0) (h : p0 < 1000000) :
    ∃ A5 c5 w5 A6 c6 w6, (Builtin.append_ #[31, 31] 31 #[.slice (some ⟨w.heap.size, 0, none⟩) 0 0, .slice A0 p0 c0]).run Tryd.prog (w.alloc (.cells #[] 29)) = .ok (.slice A5 p0 c5) w5 ∧
      (Builtin.append_ #[31, 31] 31 #[.slice A5 p0 c5, .slice (some ⟨w5.heap.size, 0, none⟩) 1 1]).run Tryd.prog (w5.alloc (.cells #[.slice none 0 0] 29)) = .ok (.slice A6 (p0 + 1) c6) w6 ∧ Below w.heap.size w w6 ∧ Tg w6 (fun _ => True) A6 (p0 + 1) c6 (L0 ++ [[]]) := by
  have e1 : Below w.heap.size w (w.alloc (.cells #[] 29)) := (Below.refl _ _).alloc (Nat.le_refl _) _
  have hlow0 := h0.keep (Kept.all e1 R) (fun b _ hb => hb) (R' := fun b => b < w.heap.size)
  obtain ⟨A5, c5, w5, r5, o5, b5, _, _⟩ := append_anys (ty := 31) (xs := []) (Ow.made 1 (AnP (w.alloc (.cells #[] 29)) (fun b => b < w.heap.size)) w 29) hlow0 (by omega) e1.size
  rw [Nat.zero_add] at r5 o5
  have e5 := e1.trans b5
  have b7 : Below w5.heap.size w5 (w5.alloc (.cells #[.slice none 0 0] 29)) := (Below.refl _ _).alloc (Nat.le_refl _) _
  have o5' := (o5.mapP (P' := AnP (w5.alloc (.cells #[.slice none 0 0] 29)) (fun b => b < w.heap.size)) (fun vs x _ hp => hp.keep (Kept.below (b5.trans (b7.mono e5.size)) (fun b hb _ => hb)) (fun b hb _ => hb))).alloc (.cells #[.slice none 0 0] 29)
  have hlit : Rw 1 (AnP (w5.alloc (.cells #[.slice none 0 0] 29)) (fun b => b < w.heap.size)) (w5.alloc (.cells #[.slice none 0 0] 29)) (fun _ => True) (some ⟨w5.heap.size, 0, none⟩) 1 1 [[]] :=
    Rw.lit (k := 1) w5 29 (fun _ => [.slice none 0 0]) [[]] (n := 1) rfl (by omega) trivial (fun _ _ => rfl) (fun x hx => ⟨none, 0, 0, rfl, by simp at hx; subst hx; exact Rw.nil_ _ _ _ _⟩)
  obtain ⟨A6, c6, w6, r6, o6, b6, _, _⟩ := append_anys (ty := 31) o5' hlit (by omega) (e5.trans (b7.mono e5.size)).size
  refine ⟨A5, c5, w5, A6, c6, w6, r5, r6, (e5.trans (b7.mono e5.size)).trans b6, ?_⟩
  exact (o6.mapP (P' := AnP w6 (fun _ => True)) (fun vs x _ hp => hp.keep (Kept.below b6 (fun b hb _ => hb)) (fun _ _ _ => trivial))).rw (by omega) (fun _ _ _ => trivial)
end Go.Proofs.YtdbnaaddocahpaaDoor
