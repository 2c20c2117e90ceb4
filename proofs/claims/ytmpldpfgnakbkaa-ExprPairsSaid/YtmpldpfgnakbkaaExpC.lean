/- Several texts in one: AskGet, ExprMade, ExprOk, HTail, ExprVal, ExprCond, KeepLeft, AskFew, AskAsks, AskApart, AskPut, AskWithA, AskShort, ExprHelp, ExprRunsW, Open, OpenRows, OpenAtr, OpenAsk, ExprTruths, Within, AskRight, OpenPol. -/
import Derived.Test.YtmpldpfgnakbkaaExpB
import Derived.StillTail
import Derived.OrdersHeld
import Derived.RegionTactic
import Derived.Test.YtmpldpfgnakbkaaExpA
import Derived.Deep.CutRange
import Derived.Lib.QuietBelow
import Derived.OpenShut
import Derived.ChangeSlices
import Derived.Deep.Slices
import Derived.Deep.Fields
import Derived.Lib.SmallJoins
import Derived.ProofKit
import Derived.SizedLaws
import Derived.Lib.MinMax
/- Get: what is there, in new memory. -/
namespace Go.Proofs.Ytmpldpfgnakbkaa
set_option linter.unusedVariables false
open Go.RowKit

/-- Requests whose texts aren't long, and whose bags aren't, neither. -/
def ShortG (l : List Giv) : Prop := ∀ g ∈ l, Shorts g.bag ∧ g.bag.length ≤ 100000
/-- What Get answers: a bag and an error. -/
theorem aget_any {w : World} {R : Nat → Prop} {A : Option Addr} {n c : Nat} {l : List Giv} (a : Atr) (h : Gvs w R A n c l) (hs : ShortG l) :
    Calls Try.prog 15 #[.slice A n c, .agg #[.int .i64 a.cat, .string a.name, .bool a.must]] w fun e w' => ∃ A' n' c', e = .returned (.tuple #[.slice A' n' c', .int .i64 (getE l a)]) ∧ Below w.heap.size w w' ∧ Vls w' (fun b => w.heap.size ≤ b) A' n' c' (getR l a) := by
  obtain ⟨ac, an, am⟩ := a
  have hle := Rw.le h
  have hcap := Rw.cap h
  have HL := Lib.hid (Rw.len h)
  unfold maxLen at hcap
  have H := Lib.hid h
  have HS := Lib.hid hs
  have HP := Lib.hid (fun W (hW : Below w.heap.size w W) => place_any ac an (h.keep (Kept.all hW R) (fun _ h _ => h)))
  clear h hs
  by_cases hi : idxA l ac an < l.length
  · obtain ⟨g, hg, hgg, hb⟩ := idx_hit hi
    have hp : placeI l ac an = (idxA l ac an : Int) := place_pos hi
    rw [hp] at HP
    have hin : idxA l ac an < n := by have := HL.out; omega
    have HB : Hid (getB l ⟨ac, an, am⟩ = g.bag) := hb
    have HG := Lib.hid hg
    generalize idxA l ac an = k at *
    obtain ⟨hsh, hln⟩ := HS.out g (List.mem_of_getElem? hg)
    have HSH := Lib.hid hsh
    have HLN := Lib.hid hln
    clear hi hp hg hgg hb hsh hln
    have atW := fun W (hW : Below w.heap.size w W) => (H.out.keep (Kept.all hW R) (fun _ h _ => h)).at_ hin
    have AW := Lib.hid atW
    clear atW
    obtain ⟨b, o, g0, A', n', c', rfl, _, hbl, hx, _, ⟨_, _, c2⟩, hin0⟩ := AW.out w (Below.refl _ _)
    have hgx := HG.out
    rw [hx] at hgx
    injection hgx with hgx
    subst hgx
    have HIN := Lib.hid hin0
    have hn' : n' ≤ 100000 := by have := Rw.len hin0; have := HLN.out; omega
    have hlen' : g0.bag.length = n' := Rw.len hin0
    have C2 := Lib.hid c2
    have HBL := Lib.hid hbl
    have HE : Hid (getE l ⟨ac, an, am⟩ = if am = true ∧ n' = 0 then 4 else 0) := by
      show getE l ⟨ac, an, am⟩ = _
      unfold getE
      have e0 : (g0.bag = []) = (n' = 0) := by rw [← hlen', List.length_eq_zero_iff]
      rw [HB.out]
      simp only [e0]
    have HR : Hid (getR l ⟨ac, an, am⟩ = if am = true ∧ n' = 0 then [] else g0.bag) := by
      show getR l ⟨ac, an, am⟩ = _
      unfold getR
      rw [HB.out, HE.out]
      by_cases e : am = true ∧ n' = 0 <;> simp [e]
    have HNN := Lib.hid hlen'
    clear hx c2 hin0 hbl AW hlen'
    generalize getE l ⟨ac, an, am⟩ = ee at *
    generalize getR l ⟨ac, an, am⟩ = rr at *
    rcases Nat.eq_zero_or_pos n' with rfl | hpos
    · cases am
      · have HE2 : Hid (ee = 0) := by show ee = 0; rw [HE.out]; simp
        have HR2 : Hid (rr = g0.bag) := by show rr = _; rw [HR.out]; simp
        clear HE HR
        go_enter Try.func15, Try.ntmps15
        go_wp2_with (first
          | (go_at_call 41; refine (HP.out _ ((Below.refl _ _).alloc (Nat.le_refl _) _)).mono ?_; rintro e w1 ⟨rfl, hb1⟩
             have OB1 := Lib.hid (Ob.below (Ob.made _ _ _) hb1 (by simp))
             have B1 := Lib.hid (Below.lit hb1)
             have q2 := (World.cell?_of_block (B1.out.block _ HBL.out)).trans C2.out
             have CP := Lib.hid (copied_any (HIN.out.keep (Kept.all B1.out R) (fun _ h _ => h)) HSH.out hn')
             clear hb1)
          | (go_at_call 42; refine CP.out.mono ?_; rintro e w2 ⟨A2, k2, rfl, hb2, hi2⟩
             have c9 := (Ob.below OB1.out hb2 (Ob.lt OB1.out)).cell 2
             have B2 := Lib.hid (below_step B1.out hb2)
             have I2 := Lib.hid (hi2.keep (Kept.refl _ _) (R' := fun b => w.heap.size ≤ b) (fun b h _ => Nat.le_trans B1.out.size h))
             clear hb2 hi2))
        go_ret2
        exact ⟨A2, 0, k2, by rw [HE2.out]; rfl, B2.out, by rw [HR2.out]; exact I2.out⟩
      · have HE2 : Hid (ee = 4) := by show ee = 4; rw [HE.out]; simp
        have HR2 : Hid (rr = []) := by show rr = _; rw [HR.out]; simp
        clear HE HR
        go_enter Try.func15, Try.ntmps15
        go_wp2_with (first
          | (go_at_call 41; refine (HP.out _ ((Below.refl _ _).alloc (Nat.le_refl _) _)).mono ?_; rintro e w1 ⟨rfl, hb1⟩
             have OB1 := Lib.hid (Ob.below (Ob.made _ _ _) hb1 (by simp))
             have B1 := Lib.hid (Below.lit hb1)
             have q2 := (World.cell?_of_block (B1.out.block _ HBL.out)).trans C2.out
             have CP := Lib.hid (copied_any (HIN.out.keep (Kept.all B1.out R) (fun _ h _ => h)) HSH.out hn')
             clear hb1)
          | (go_at_call 42; refine CP.out.mono ?_; rintro e w2 ⟨A2, k2, rfl, hb2, hi2⟩
             have c9 := (Ob.below OB1.out hb2 (Ob.lt OB1.out)).cell 2
             have B2 := Lib.hid (below_step B1.out hb2)
             have I2 := Lib.hid (hi2.keep (Kept.refl _ _) (R' := fun b => w.heap.size ≤ b) (fun b h _ => Nat.le_trans B1.out.size h))
             clear hb2 hi2))
        go_ret2
        exact ⟨none, 0, 0, by rw [HE2.out]; rfl, B2.out, by rw [HR2.out]; exact Rw.nil_ _ _ _ _⟩
    · have hne : ¬ (n' : Int) = 0 := by omega
      have hne2 : ((n' : Int) == 0) = false := by simpa using hne
      have HE2 : Hid (ee = 0) := by show ee = 0; rw [HE.out, if_neg (by omega)]
      have HR2 : Hid (rr = g0.bag) := by show rr = _; rw [HR.out, if_neg (by omega)]
      clear HE HR
      cases am
      all_goals
        go_enter Try.func15, Try.ntmps15
        go_wp2_with (first
          | (go_at_call 41; refine (HP.out _ ((Below.refl _ _).alloc (Nat.le_refl _) _)).mono ?_; rintro e w1 ⟨rfl, hb1⟩
             have OB1 := Lib.hid (Ob.below (Ob.made _ _ _) hb1 (by simp))
             have B1 := Lib.hid (Below.lit hb1)
             have q2 := (World.cell?_of_block (B1.out.block _ HBL.out)).trans C2.out
             have CP := Lib.hid (copied_any (HIN.out.keep (Kept.all B1.out R) (fun _ h _ => h)) HSH.out hn')
             clear hb1)
          | (go_at_call 42; refine CP.out.mono ?_; rintro e w2 ⟨A2, k2, rfl, hb2, hi2⟩
             have c9 := (Ob.below OB1.out hb2 (Ob.lt OB1.out)).cell 2
             have B2 := Lib.hid (below_step B1.out hb2)
             have I2 := Lib.hid (hi2.keep (Kept.refl _ _) (R' := fun b => w.heap.size ≤ b) (fun b h _ => Nat.le_trans B1.out.size h))
             clear hb2 hi2))
        go_ret2
        exact ⟨A2, n', k2, by rw [HE2.out]; rfl, B2.out, by rw [HR2.out]; exact I2.out⟩
  · have HB : Hid (getB l ⟨ac, an, am⟩ = []) := bag_none hi
    have hp : placeI l ac an = -1 := place_neg hi
    rw [hp] at HP
    clear hp hi
    have HE : Hid (getE l ⟨ac, an, am⟩ = if am = true then 4 else 0) := by show getE l ⟨ac, an, am⟩ = _; unfold getE; rw [HB.out]; simp
    have HR : Hid (getR l ⟨ac, an, am⟩ = []) := by show getR l ⟨ac, an, am⟩ = _; unfold getR; rw [HB.out]; simp
    generalize getE l ⟨ac, an, am⟩ = ee at *
    generalize getR l ⟨ac, an, am⟩ = rr at *
    cases am
    all_goals
      go_enter Try.func15, Try.ntmps15
      go_wp2_with (go_at_call 41; refine (HP.out _ ((Below.refl _ _).alloc (Nat.le_refl _) _)).mono ?_; rintro e w1 ⟨rfl, hb1⟩; have c0 := (Ob.below (Ob.made _ _ _) hb1 (by simp)).cell 2)
      go_ret2
      refine ⟨none, 0, 0, by rw [HE.out]; rfl, Below.lit hb1, by rw [HR.out]; exact Rw.nil_ _ _ _ _⟩
end Go.Proofs.Ytmpldpfgnakbkaa
/- made: what a node makes of what stands ahead. -/
namespace Go.Proofs.Ytmpldpfgnakbkaa
set_option linter.unusedVariables false
open Go.RowKit Go.Sort

/-- What comes back: the part's cells; its bag lies in new memory. -/
def MadeTo (w : World) (p : Prt) (e : Ending) (w' : World) : Prop := ∃ A n c, e = .returned (.agg #[.slice A n c, .int .i64 p.v.k, .int .i64 p.v.n, .string p.v.s, .int .i64 p.e]) ∧ Below w.heap.size w w' ∧ Vls w' (fun b => w.heap.size ≤ b) A n c p.bag
theorem MadeTo.nobag {w w' : World} {p : Prt} {k n e : Int} {s : ByteArray} (h : p = ⟨[], ⟨k, n, s⟩, e⟩) (hb : Below w.heap.size w w') : MadeTo w p (.returned (.agg #[.slice none 0 0, .int .i64 k, .int .i64 n, .string s, .int .i64 e])) w' := by
  subst h
  exact ⟨none, 0, 0, rfl, hb, Rw.nil_ _ _ _ _⟩
theorem made_1 {ask : List Giv} {n : Nod} {of : List Prt} (h : n.op = 1) : madeP ask n of = ⟨[], n.v, 0⟩ := if_pos h
theorem made_2 {ask : List Giv} {n : Nod} {of : List Prt} (h : n.op = 2) : madeP ask n of = ⟨getR ask n.a, noneV, getE ask n.a⟩ := by unfold madeP; rw [if_neg (by omega), if_pos h]
theorem made_dec {ask : List Giv} {n : Nod} {of : List Prt} (h1 : n.op ≠ 1) (h2 : n.op ≠ 2) (h : decB n.op of = true) : madeP ask n of = ⟨[], decV n.op, 0⟩ := by unfold madeP; rw [if_neg h1, if_neg h2, if_pos h]; rfl
theorem made_err {ask : List Giv} {n : Nod} {of : List Prt} (h1 : n.op ≠ 1) (h2 : n.op ≠ 2) (h : decB n.op of = false) (he : errL of ≠ 0) : madeP ask n of = ⟨[], noneV, errL of⟩ := by unfold madeP; rw [if_neg h1, if_neg h2, if_neg (by simp [h]), if_pos he]
theorem made_reck {ask : List Giv} {n : Nod} {of : List Prt} (h1 : n.op ≠ 1) (h2 : n.op ≠ 2) (h : decB n.op of = false) (he : errL of = 0) : madeP ask n of = ⟨[], (reckP n.op of).1, (reckP n.op of).2⟩ := by unfold madeP; rw [if_neg h1, if_neg h2, if_neg (by simp [h]), if_neg (by simp [he])]
/-- The box of the node and that of what comes back. -/
def W0 (w : World) (n : Nod) : World := (w.alloc (.cells #[.int .i64 n.op, .int .i64 n.v.k, .int .i64 n.v.n, .string n.v.s, .int .i64 n.a.cat, .string n.a.name, .bool n.a.must] 51)).alloc (.cells #[.slice none 0 0, .int .i64 0, .int .i64 0, .string ⟨#[]⟩, .int .i64 0] 87)
theorem W0.below (w : World) (n : Nod) : Below w.heap.size w (W0 w n) := below2 _ _ _
theorem W0.part (w : World) (n : Nod) : Ob (W0 w n) (w.heap.size + 1) 87 #[.slice none 0 0, .int .i64 0, .int .i64 0, .string ⟨#[]⟩, .int .i64 0] := by
  have := Ob.made (w.alloc (.cells #[.int .i64 n.op, .int .i64 n.v.k, .int .i64 n.v.n, .string n.v.s, .int .i64 n.a.cat, .string n.a.name, .bool n.a.must] 51)) 87 #[.slice none 0 0, .int .i64 0, .int .i64 0, .string ⟨#[]⟩, .int .i64 0]
  rwa [size_al] at this
theorem W0.node (w : World) (n : Nod) : Ob (W0 w n) w.heap.size 51 #[.int .i64 n.op, .int .i64 n.v.k, .int .i64 n.v.n, .string n.v.s, .int .i64 n.a.cat, .string n.a.name, .bool n.a.must] :=
  (Ob.made w _ _).keep (Below.heap_alloc _ _ _ (by rw [size_al]; omega))
theorem W0.size (w : World) (n : Nod) : (W0 w n).heap.size = w.heap.size + 2 := by unfold W0; rw [size_al, size_al]
set_option maxRecDepth 100000 in
set_option maxHeartbeats 3200000 in
theorem emade_1 (ask : List Giv) (n : Nod) (h1 : n.op = 1) (hs : n.v.s.size ≤ 1000000) (of : List Prt) (A : Option Addr) (m c : Nat) (A2 : Option Addr) (n2 c2 : Nat) (w : World) :
    Calls Try.prog 55 #[n.val, .slice A m c, .slice A2 n2 c2] w (MadeTo w (madeP ask n of)) := by
  have HL := Lib.hid (fun W => eliteral_any n.v hs W)
  have HM := Lib.hid (made_1 (ask := ask) (of := of) h1)
  have HB := Lib.hid (W0.below w n)
  have HP := Lib.hid (W0.part w n)
  have HZ := Lib.hid (W0.size w n)
  generalize madeP ask n of = pp at *
  obtain ⟨op, ⟨k, nn, s⟩, ⟨ac, an, am⟩⟩ := n
  simp only at h1 HL HM HP
  subst h1
  unfold Nod.val
  go_enter Try.func55, Try.ntmps55
  go_wp2_with (go_at_call 72; refine (HL.out _).mono ?_; rintro e w1 ⟨rfl, hb1⟩
               have O1 := Lib.hid (HP.out.below hb1 (by rw [size_al, size_al]; omega))
               have D1 := Lib.hid (below_step HB.out hb1)
               have o0 := O1.out.cell
               have g0 := O1.out.frozen
               clear hb1)
  try simp only [Exit.inBlock, Exit.then]
  refine bodyPost_ret (part_ret rfl rfl (ob_put5 O1.out _ _ _ _ _)) rfl ?_
  exact MadeTo.nobag HM.out (below_put5 D1.out (by omega) _ _ _ _ _)
set_option maxRecDepth 100000 in
set_option maxHeartbeats 3200000 in
theorem emade_2 {ask : List Giv} (n : Nod) (h2 : n.op = 2) (of : List Prt) (A : Option Addr) (m c : Nat) {A2 : Option Addr} {n2 c2 : Nat} {R2 : Nat → Prop} (w : World) (hA : Gvs w R2 A2 n2 c2 ask) (hs : ShortG ask) :
    Calls Try.prog 55 #[n.val, .slice A m c, .slice A2 n2 c2] w (MadeTo w (madeP ask n of)) := by
  have HG := Lib.hid (fun W (hW : Below w.heap.size w W) => aget_any n.a (hA.keep (Kept.all hW R2) (fun _ h _ => h)) hs)
  have HM := Lib.hid (made_2 (ask := ask) (of := of) h2)
  have HB := Lib.hid (W0.below w n)
  have HP := Lib.hid (W0.part w n)
  have HZ := Lib.hid (W0.size w n)
  clear hA hs
  generalize madeP ask n of = pp at *
  obtain ⟨op, ⟨k, nn, s⟩, ⟨ac, an, am⟩⟩ := n
  simp only at h2 HG HM HP
  subst h2
  unfold Nod.val
  generalize getR ask ⟨ac, an, am⟩ = rr at *
  generalize getE ask ⟨ac, an, am⟩ = ee at *
  go_enter Try.func55, Try.ntmps55
  go_wp2_with (go_at_call 15; refine (HG.out _ HB.out).mono ?_; rintro e w1 ⟨A3, n3, c3, rfl, hb1, hv1⟩
               have O1 := Lib.hid (HP.out.below hb1 (by rw [HZ.out]; omega))
               have D1 := Lib.hid (below_step HB.out hb1)
               have V1 := Lib.hid hv1
               have Z1 := Lib.hid hb1.size
               have o0 := O1.out.cell
               have g0 := O1.out.frozen
               clear hb1 hv1)
  try simp only [Exit.inBlock, Exit.then]
  refine bodyPost_ret (part_ret rfl rfl (ob_put5 O1.out _ _ _ _ _)) rfl ?_
  have hm := HM.out
  subst hm
  refine ⟨A3, n3, c3, rfl, below_put5 D1.out (by omega) _ _ _ _ _, ?_⟩
  have hz := HZ.out
  refine V1.out.keep ⟨by simp [World.setCell], fun b hb _ => ?_⟩ (fun b hb _ => ?_)
  · have hb' : (W0 w _).heap.size ≤ b := hb
    rw [hz] at hb'
    rw [Below.heap_setCell _ _ _ _ (by show b ≠ w.heap.size + 1; omega), Below.heap_setCell _ _ _ _ (by show b ≠ w.heap.size + 1; omega), Below.heap_setCell _ _ _ _ (by show b ≠ w.heap.size + 1; omega), Below.heap_setCell _ _ _ _ (by show b ≠ w.heap.size + 1; omega), Below.heap_setCell _ _ _ _ (by show b ≠ w.heap.size + 1; omega)]
  · have hb' : (W0 w _).heap.size ≤ b := hb
    rw [hz] at hb'
    show w.heap.size ≤ b
    omega
theorem decB_no {op : Int} {of : List Prt} (h1 : op ≠ 12) (h2 : op ≠ 13) : decB op of = false := by
  unfold decB
  split
  · simp [h1, h2]
  · rfl
theorem two_prt {l : List Prt} (h : l.length = 2) : ∃ a b, l = [a, b] := by
  match l, h with
  | [a, b], _ => exact ⟨a, b, rfl⟩
/-- decided, of what stands ahead. -/
theorem edec_any {op : Int} {w : World} {R : Nat → Prop} {A : Option Addr} {m c : Nat} {of : List Prt} (h : Prts w R A m c of) (hm : m = takesN op) :
    Calls Try.prog 73 #[.int .i64 op, .slice A m c] w fun e w' => e = .returned (.tuple #[.agg #[.int .i64 (if decB op of = true then 1 else 0), .int .i64 (if decB op of = true then truthN (decide (op = 13)) else 0), .string ⟨#[]⟩], .bool (decB op of)]) ∧ Below w.heap.size w w' := by
  by_cases h12 : op = 12 ∨ op = 13
  · obtain rfl : m = 2 := by rcases h12 with rfl | rfl <;> exact hm
    obtain ⟨p, q, rfl⟩ := two_prt (Rw.len h)
    exact edecided_two h12 h
  · have e1 : op ≠ 12 := fun e => h12 (.inl e)
    have e2 : op ≠ 13 := fun e => h12 (.inr e)
    have := edecided_no e1 e2 A m c w
    rw [decB_no e1 e2]
    exact this
theorem ereck {op : Int} {w : World} {R : Nat → Prop} {A : Option Addr} {m c : Nat} {of : List Prt} (h : Prts w R A m c of) (hm : m = takesN op) (h1 : op ≠ 1) (h2 : op ≠ 2) :
    Calls Try.prog 74 #[.int .i64 op, .slice A m c] w fun e w' => e = .returned (.tuple #[(reckP op of).1.val, .int .i64 (reckP op of).2]) ∧ Below w.heap.size w w' := by
  by_cases h3 : op = 3
  · subst h3; exact ereck_3 h (by rw [hm]; decide)
  by_cases h4 : op = 4
  · subst h4; exact ereck_4 h (by rw [hm]; decide)
  by_cases h5 : op = 5
  · subst h5; exact ereck_5 h (by rw [hm]; decide)
  refine ereck_any h3 h4 h5 h ?_
  rw [hm]
  unfold takesN
  repeat' split
  all_goals omega
theorem errL_take {of : List Prt} : ∀ {k : Nat} {p : Prt}, errL (of.take k) = 0 → of[k]? = some p → errL (of.take (k + 1)) = p.e := by
  induction of with
  | nil => intro k p _ h; simp at h
  | cons x r ih =>
    intro k p h0 hx
    cases k with
    | zero =>
      simp at hx
      subst hx
      simp [errL]
      intro e
      exact e.symm
    | succ k =>
      simp only [List.take_succ_cons, errL] at h0 ⊢
      by_cases he : x.e = 0
      · simp only [he, ne_eq, not_true, if_false] at h0 ⊢
        exact ih h0 (by simpa using hx)
      · simp only [ne_eq, he, not_false_eq_true, if_true] at h0
theorem errL_hit {of : List Prt} : ∀ {k : Nat} {p : Prt}, errL (of.take k) = 0 → of[k]? = some p → p.e ≠ 0 → errL of = p.e := by
  induction of with
  | nil => intro k p _ h; simp at h
  | cons x r ih =>
    intro k p h0 hx hne
    cases k with
    | zero =>
      simp at hx
      subst hx
      simp [errL, hne]
    | succ k =>
      simp only [List.take_succ_cons, errL] at h0 ⊢
      by_cases he : x.e = 0
      · simp only [he, ne_eq, not_true, if_false] at h0 ⊢
        exact ih h0 (by simpa using hx) hne
      · simp only [ne_eq, he, not_false_eq_true, if_true] at h0
set_option maxRecDepth 100000 in
set_option maxHeartbeats 3200000 in
theorem emade_dec {ask : List Giv} (n : Nod) (h1 : n.op ≠ 1) (h2 : n.op ≠ 2) {of : List Prt} {R : Nat → Prop} {A : Option Addr} {m c : Nat} (A2 : Option Addr) (n2 c2 : Nat) (w : World) (h : Prts w R A m c of) (hm : m = takesN n.op) (hd : decB n.op of = true) :
    Calls Try.prog 55 #[n.val, .slice A m c, .slice A2 n2 c2] w (MadeTo w (madeP ask n of)) := by
  have HB := Lib.hid (W0.below w n)
  have HP := Lib.hid (W0.part w n)
  have HZ := Lib.hid (W0.size w n)
  have HDC := Lib.hid (edec_any (h.up HB.out) hm)
  rw [hd] at HDC
  simp only [if_true] at HDC
  have HM := Lib.hid (made_dec (ask := ask) h1 h2 hd)
  clear h hm hd
  generalize madeP ask n of = pp at *
  obtain ⟨op, ⟨k, nn, s⟩, ⟨ac, an, am⟩⟩ := n
  simp only at h1 h2 HM HP HDC
  have b1 : (op == 1) = false := by rw [beq_eq_false_iff_ne]; exact h1
  have b2 : (op == 2) = false := by rw [beq_eq_false_iff_ne]; exact h2
  clear h1 h2
  have HMM : Hid (pp = ⟨[], ⟨1, truthN (decide (op = 13)), ⟨#[]⟩⟩, 0⟩) := HM
  generalize truthN (decide (op = 13)) = tn at *
  unfold Nod.val
  go_enter Try.func55, Try.ntmps55
  go_wp2_with (go_at_call 73; refine HDC.out.mono ?_; rintro e w1 ⟨rfl, hb1⟩
               have O1 := Lib.hid ((HP.out.below hb1 (by rw [HZ.out]; omega)).keep (w' := w1.alloc (.cells #[.int .i64 1, .int .i64 tn, .string ⟨#[]⟩] 42)) (Below.heap_alloc _ _ _ (by have := hb1.size; have := HZ.out; omega)))
               have D1 := Lib.hid ((below_step HB.out hb1).alloc (below_step HB.out hb1).size (.cells #[.int .i64 1, .int .i64 tn, .string ⟨#[]⟩] 42))
               have o0 := O1.out.cell
               have g0 := O1.out.frozen
               have k0 := (Bx.made w1 1 tn ⟨#[]⟩).c3
               clear hb1)
  try simp only [Exit.inBlock, Exit.then]
  refine bodyPost_ret (part_ret rfl rfl (ob_put5 O1.out _ _ _ _ _)) rfl ?_
  exact MadeTo.nobag HMM.out (below_put5 D1.out (by omega) _ _ _ _ _)
set_option maxRecDepth 100000 in
set_option maxHeartbeats 3200000 in
theorem emade_rest {ask : List Giv} (n : Nod) (h1 : n.op ≠ 1) (h2 : n.op ≠ 2) {of : List Prt} {R : Nat → Prop} {A : Option Addr} {m c : Nat} (A2 : Option Addr) (n2 c2 : Nat) (w : World) (h : Prts w R A m c of) (hm : m = takesN n.op) (hd : decB n.op of = false) :
    Calls Try.prog 55 #[n.val, .slice A m c, .slice A2 n2 c2] w (MadeTo w (madeP ask n of)) := by
  have HB := Lib.hid (W0.below w n)
  have HP := Lib.hid (W0.part w n)
  have HN := Lib.hid (W0.node w n)
  have HZ := Lib.hid (W0.size w n)
  have HDC := Lib.hid (edec_any (h.up HB.out) hm)
  rw [hd] at HDC
  simp only [Bool.false_eq_true, if_false] at HDC
  have HME := Lib.hid (fun he => made_err (ask := ask) h1 h2 hd he)
  have HMR := Lib.hid (fun he => made_reck (ask := ask) h1 h2 hd he)
  have HRK := Lib.hid (fun W (hW : Below w.heap.size w W) => ereck (h.up hW) hm h1 h2)
  have H := Lib.hid h
  have hle := Rw.le h
  have hcap := Rw.cap h
  have HL := Lib.hid (Rw.len h)
  unfold maxLen at hcap
  have hbig := Rw.big h
  clear h hm hd
  generalize madeP ask n of = pp at *
  obtain ⟨op, ⟨k, nn, s⟩, ⟨ac, an, am⟩⟩ := n
  simp only at h1 h2 HME HMR HRK HP HN HDC
  have b1 : (op == 1) = false := by rw [beq_eq_false_iff_ne]; exact h1
  have b2 : (op == 2) = false := by rw [beq_eq_false_iff_ne]; exact h2
  clear h1 h2
  obtain ⟨⟨⟨rk, rn, rs⟩, re⟩, hp⟩ : ∃ q, q = reckP op of := ⟨_, rfl⟩
  rw [← hp] at HMR HRK
  clear hp
  unfold Nod.val
  go_enter Try.func55, Try.ntmps55
  go_wp2_with (go_at_call 73; refine HDC.out.mono ?_; rintro e w1 ⟨rfl, hb1⟩
               have O1 := Lib.hid ((HP.out.below hb1 (by rw [HZ.out]; omega)).keep (w' := w1.alloc (.cells #[.int .i64 0, .int .i64 0, .string ⟨#[]⟩] 42)) (Below.heap_alloc _ _ _ (by have := hb1.size; have := HZ.out; omega)))
               have N1 := Lib.hid ((HN.out.below hb1 (by rw [HZ.out]; omega)).keep (w' := w1.alloc (.cells #[.int .i64 0, .int .i64 0, .string ⟨#[]⟩] 42)) (Below.heap_alloc _ _ _ (by have := hb1.size; have := HZ.out; omega)))
               have D1 := Lib.hid ((below_step HB.out hb1).alloc (below_step HB.out hb1).size (.cells #[.int .i64 0, .int .i64 0, .string ⟨#[]⟩] 42))
               clear hb1)
  generalize w1.alloc (.cells #[.int .i64 0, .int .i64 0, .string ⟨#[]⟩] 42) = W1 at *
  go_loopw [46] (fun i wr => ∃ k : Nat, k ≤ m ∧ i = .int .i64 k ∧ errL (of.take k) = 0 ∧ Below W1.heap.size W1 wr) (fun i _ => m - (intOf i).toNat)
  case atStart => exact ⟨0, Nat.zero_le _, rfl, rfl, Below.refl _ _⟩
  case round =>
    obtain ⟨k, hk, rfl, he, hb⟩ := hrel
    have HE := Lib.hid he
    have HW := Lib.hid hb
    have O2 := Lib.hid (O1.out.below hb O1.out.lt)
    have N2 := Lib.hid (N1.out.below hb N1.out.lt)
    have D2 := Lib.hid (below_step D1.out hb)
    clear he hb
    by_cases hlt : k < m
    · obtain ⟨b, o, p, Ap, np, cp, rfl, hRb, hbl, hx, hok, ⟨x0, x1, x2, x3, x4⟩, hin⟩ := (H.out.up D2.out).at_ hlt
      have HT := Lib.hid (errL_take HE.out hx)
      have HH := Lib.hid (errL_hit HE.out hx)
      obtain ⟨pb, ⟨pk, pn, ps⟩, pe⟩ := p
      simp only at x0 x1 x2 x3 x4 HT HH
      have q4 := (Ob.made wr 87 #[.slice Ap np cp, .int .i64 pk, .int .i64 pn, .string ps, .int .i64 pe]).cell 4
      clear hx hok hin hRb
      by_cases hpe : pe = 0
      · subst hpe
        go_wp2_with fail
        go_roundw
        case rel => exact ⟨k + 1, by omega, by go_num, HT.out, HW.out.alloc HW.out.size _⟩
        case measure => simp [intOf]; omega
      · have hne : (pe != 0) = true := by rw [bne_iff_ne]; exact hpe
        have HM := Lib.hid (HME.out (by rw [HH.out hpe]; exact hpe))
        have HHE := Lib.hid (HH.out hpe)
        clear hpe
        have O3 := Lib.hid (O2.out.keep (w' := wr.alloc (.cells #[.slice Ap np cp, .int .i64 pk, .int .i64 pn, .string ps, .int .i64 pe] 87)) (Below.heap_alloc _ _ _ O2.out.lt))
        have o0 := O3.out.cell
        have g0 := O3.out.frozen
        go_wp2_with fail
        try simp only [Exit.inBlock, Exit.then]
        refine bodyPost_ret (part_ret rfl rfl (ob_put5 O3.out _ _ _ _ _)) rfl ?_
        exact MadeTo.nobag (by rw [HM.out, HHE.out]; rfl) (below_put5 (D2.out.alloc D2.out.size _) (by omega) _ _ _ _ _)
    · obtain rfl : k = m := by omega
      have hT := HE.out
      rw [List.take_of_length_le (by have := HL.out; omega)] at hT
      have HM := Lib.hid (HMR.out hT)
      have n0 := N2.out.cell 0
      clear hT
      go_wp2_with (go_at_call 74; refine (HRK.out _ D2.out).mono ?_; rintro e w3 ⟨rfl, hb3⟩
                   have O4 := Lib.hid ((O2.out.below hb3 O2.out.lt).keep (w' := w3.alloc (.cells #[.int .i64 rk, .int .i64 rn, .string rs] 42)) (Below.heap_alloc _ _ _ (Nat.lt_of_lt_of_le O2.out.lt hb3.size)))
                   have D4 := Lib.hid ((below_step D2.out hb3).alloc (below_step D2.out hb3).size (.cells #[.int .i64 rk, .int .i64 rn, .string rs] 42))
                   have o0 := O4.out.cell
                   have g0 := O4.out.frozen
                   have k0 := (Bx.made w3 rk rn rs).c3
                   simp only [Vl.val]
                   clear hb3)
      try simp only [Exit.inBlock, Exit.then]
      refine bodyPost_ret (part_ret rfl rfl (ob_put5 O4.out _ _ _ _ _)) rfl ?_
      exact MadeTo.nobag HM.out (below_put5 D4.out (by omega) _ _ _ _ _)
/-- made, of what a node takes. -/
theorem emade_any {ask : List Giv} (n : Nod) (hs : n.op = 1 → n.v.s.size ≤ 1000000) {of : List Prt} {R R2 : Nat → Prop} {A A2 : Option Addr} {m c n2 c2 : Nat} (w : World) (h : Prts w R A m c of) (hm : m = takesN n.op) (hA : Gvs w R2 A2 n2 c2 ask) (hG : ShortG ask) :
    Calls Try.prog 55 #[n.val, .slice A m c, .slice A2 n2 c2] w (MadeTo w (madeP ask n of)) := by
  by_cases h1 : n.op = 1
  · exact emade_1 ask n h1 (hs h1) of A m c A2 n2 c2 w
  by_cases h2 : n.op = 2
  · exact emade_2 n h2 of A m c w hA hG
  cases hd : decB n.op of with
  | true => exact emade_dec n h1 h2 A2 n2 c2 w h hm hd
  | false => exact emade_rest n h1 h2 A2 n2 c2 w h hm hd
end Go.Proofs.Ytmpldpfgnakbkaa
/- What a node makes is a value that memory bears; a right expression at each of its nodes. Plain. -/
namespace Go.Proofs.Ytmpldpfgnakbkaa
set_option linter.unusedVariables false
open Go.RowKit

theorem truthV_ok (b : Bool) : (truthV b).ok := by cases b <;> decide
theorem noneV_ok : noneV.ok := by decide
theorem ini0 : InI 0 := by decide
theorem ini1 : InI 1 := by decide
theorem ini2 : InI 2 := by decide
theorem ini3 : InI 3 := by decide
theorem ini4 : InI 4 := by decide
theorem numV_ok {n : Int} (h : InI n) : (numV n).ok := ⟨ini2, h, (by decide : (⟨#[]⟩ : ByteArray).size ≤ maxLen)⟩
/-- A value that is told, and an error, as they may be. -/
def OkR (p : Vl × Int) : Prop := p.1.ok ∧ InI p.2
theorem okR_none {e : Int} (h : InI e) : OkR (noneV, e) := ⟨noneV_ok, h⟩
theorem okR_truth (b : Bool) : OkR (truthV b, 0) := ⟨truthV_ok b, ini0⟩
theorem lessOf_err (a b : Vl) : (lessOf a b).2 = 0 ∨ (lessOf a b).2 = 1 ∨ (lessOf a b).2 = 2 := by
  unfold lessOf
  repeat' split
  all_goals simp
theorem callV_ok (op : Int) (l : List Vl) : OkR (callV op l) := by
  unfold callV
  split
  · match l with
    | [] => exact okR_none (by decide)
    | [a] =>
      show OkR (notV a)
      unfold notV
      split
      · exact okR_truth _
      · exact okR_none (by decide)
    | [a, b] =>
      show OkR (callTwo op a b)
      unfold callTwo
      split
      · unfold sameV; split
        · exact okR_truth _
        · exact okR_none (by decide)
      · split
        · unfold lessV; split
          · exact okR_truth _
          · rcases lessOf_err a b with h | h | h <;> rw [h] <;> exact okR_none (by decide)
        · split
          · unfold bothV; split
            · exact okR_truth _
            · exact okR_none (by decide)
          · unfold reckV; split
            · by_cases h2 : In64 (opF op a.n b.n)
              · rw [fits_in h2]
                exact ⟨numV_ok h2, ini0⟩
              · rw [fits_out h2]
                exact okR_none ini3
            · exact okR_none (by decide)
    | _ :: _ :: _ :: _ => exact okR_none (by decide)
  · exact okR_none (by decide)
def OkP (p : Prt) : Prop := (p.v.ok ∧ InI p.e) ∧ (∀ v ∈ p.bag, v.ok) ∧ p.bag.length ≤ 140737488351232
theorem single_ok {l : List Vl} (h : ∀ v ∈ l, v.ok) : OkR (singleV l) := by
  match l, h with
  | [], _ => exact okR_none ini4
  | [v], h => exact ⟨h v (by simp), ini0⟩
  | _ :: _ :: _, _ => exact okR_none ini4
theorem reckP_ok (op : Int) {of : List Prt} (h : ∀ p ∈ of, OkP p) : OkR (reckP op of) := by
  unfold reckP
  split
  · match of, h with
    | [], _ => exact okR_none ini0
    | p :: _, h => exact single_ok (h p (by simp)).2.1
  · split
    · match of, h with
      | [], _ => exact okR_none ini0
      | p :: _, h =>
        have hp := (h p (by simp)).2.2
        exact ⟨numV_ok (by unfold InI; omega), ini0⟩
    · split
      · match of with
        | [] => exact okR_none ini0
        | [_] => exact okR_none ini0
        | _ :: _ :: _ => exact okR_truth _
      · exact callV_ok op _
theorem errL_ok {of : List Prt} (h : ∀ p ∈ of, OkP p) : InI (errL of) := by
  induction of with
  | nil => exact ini0
  | cons p r ih =>
    unfold errL
    split
    · exact (h p (by simp)).1.2
    · exact ih fun q hq => h q (by simp [hq])
theorem getE_ok (ask : List Giv) (a : Atr) : InI (getE ask a) := by
  unfold getE
  split
  · exact ini4
  · exact ini0
theorem madeP_ok {ask : List Giv} {n : Nod} {of : List Prt} (hn : n.v.ok) (h : ∀ p ∈ of, OkP p) : (madeP ask n of).v.ok ∧ InI (madeP ask n of).e := by
  unfold madeP
  split
  · exact ⟨hn, ini0⟩
  · split
    · exact ⟨noneV_ok, getE_ok _ _⟩
    · split
      · exact ⟨truthV_ok _, ini0⟩
      · split
        · exact ⟨noneV_ok, errL_ok h⟩
        · exact reckP_ok _ h
theorem Prts.oks {w : World} {R : Nat → Prop} {A : Option Addr} {n c : Nat} {l : List Prt} (h : Prts w R A n c l) : ∀ p ∈ l, OkP p := by
  intro p hp
  obtain ⟨j, hj, rfl⟩ := List.getElem_of_mem hp
  obtain ⟨b, o, x, A', n', c', e, _, _, hx, hok, _, hin⟩ := h.at_ (j := j) (by have := Rw.len h; omega)
  rw [List.getElem?_eq_getElem hj] at hx
  injection hx with hx
  subst hx
  exact ⟨hok, hin.oks, by rw [Rw.len hin]; exact Rw.big hin⟩

theorem runX_take : ∀ {l : List Nod} {s s' : List Bool} {k : Nat} {n : Nod}, runX l s = some s' → l[k]? = some n → ∃ u u', runX (l.take k) s = some u ∧ stepX n u = some u' ∧ runX (l.take (k + 1)) s = some u'
  | [], _, _, _, _, _, h => by simp at h
  | x :: l, s, s', 0, n, h, hn => by
    simp at hn
    subst hn
    simp only [runX] at h
    cases hs : stepX x s with
    | none => rw [hs] at h; cases h
    | some u => exact ⟨s, u, rfl, hs, by simp [runX, hs]⟩
  | x :: l, s, s', k + 1, n, h, hn => by
    simp only [runX] at h
    cases hs : stepX x s with
    | none => rw [hs] at h; cases h
    | some u =>
      rw [hs] at h
      obtain ⟨a, b, h1, h2, h3⟩ := runX_take h (by simpa using hn)
      refine ⟨a, b, ?_, h2, ?_⟩
      · simp only [List.take_succ_cons, runX, hs]; exact h1
      · simp only [List.take_succ_cons, runX, hs]; exact h3
theorem right_size {v : Vl} (h : v.right) : v.s.size ≤ 64 := by
  have e : v.s.size = v.l.length := by unfold Vl.l; rfl
  rw [e]
  unfold Vl.right RightV Named at h
  rcases h with ⟨_, h, _⟩ | ⟨_, h⟩ | ⟨_, _, h⟩ | ⟨_, h, _⟩ | ⟨_, _, h, _⟩
  all_goals first | (rw [h]; simp) | omega
/-- At each node of a right expression there stands enough, and a literal isn't long. -/
theorem run_at {ask : List Giv} {l : List Nod} (h : exprE l = 0) {k : Nat} {n : Nod} (hn : l[k]? = some n) :
    takesN n.op ≤ (runP ask (l.take k) []).length ∧ runP ask (l.take (k + 1)) [] = stepP ask (runP ask (l.take k) []) n ∧ (n.op = 1 → n.v.s.size ≤ 1000000) ∧ (runP ask (l.take k) []).length ≤ k := by
  have hne : l ≠ [] := by rintro rfl; simp at hn
  obtain ⟨_, hr⟩ := exprE_ok h hne
  obtain ⟨u, u', h1, h2, h3⟩ := runX_take hr hn
  have hf := (runP_frame (ask := ask) (t := []) (st := []) h1 rfl).2
  obtain ⟨a, b, c⟩ := stepX_len h2
  refine ⟨by omega, ?_, fun h1 => ?_, ?_⟩
  · rw [take_next hn, runP_app]; rfl
  · unfold holdsB at c
    rw [if_pos h1] at c
    simp at c
    have := right_size c.1
    omega
  · have : ∀ (m : List Nod) (s : List Prt), (runP ask m s).length ≤ s.length + m.length := by
      intro m
      induction m with
      | nil => intro s; simp [runP]
      | cons x m ih =>
        intro s
        rw [runP_cons]
        have h1 := ih (stepP ask s x)
        have h2 : (stepP ask s x).length ≤ s.length + 1 := by unfold stepP; rw [List.length_append, List.length_take]; simp
        simp; omega
    have := this (l.take k) []
    rw [List.length_take] at this
    simp at this
    omega
theorem run_end {ask : List Giv} {l : List Nod} (h : exprE l = 0) (hn : l ≠ []) : ∃ p, runP ask l [] = [p] ∧ valP ask l = (p.v, p.e) := by
  obtain ⟨p, h1, h2⟩ := run_right (ask := ask) h hn
  exact ⟨p, h1 [], h2⟩
theorem valP_bad {ask : List Giv} {l : List Nod} (h : l = [] ∨ exprE l ≠ 0) : valP ask l = (noneV, 1) := if_pos h
end Go.Proofs.Ytmpldpfgnakbkaa
/- A region that draws its order: its head, in whatever order, under a condition on the world (loads that it tells are taken first); and a forced tail, that may break the condition. -/
namespace Go.Proofs.Ytmpldpfgnakbkaa
open Go Go.RowKit

section
variable {P : Program} {ops : Array Oper} {md : Region.Mode} {Q : Exit → Act → World → Prop} {S : World → Prop} {L : Array Bool → Act → World → Prop} {n : Nat}

/-- Whatever order is picked among the first n, till L; S holds behind each. -/
def HeadS (P : Program) (md : Region.Mode) (ops : Array Oper) (Q : Exit → Act → World → Prop) (S : World → Prop) (n : Nat) (L : Array Bool → Act → World → Prop) : Nat → Array Bool → Act → World → Prop
  | 0, listed, a, w => L listed a w
  | f + 1, listed, a, w => Region.ready md ops listed ≠ [] ∧ ∀ i ∈ Region.ready md ops listed, i < n ∧ wpOp P ops Q i (fun a' w' => S w' ∧ HeadS P md ops Q S n L f (listed.setIfInBounds i true) a' w') a w

theorem HeadS.any {g : Nat} (hL : ∀ listed a w, L listed a w → wpAny P md ops Q g listed a w) :
    ∀ (f : Nat) (listed : Array Bool) (a : Act) (w : World), HeadS P md ops Q S n L f listed a w → wpAny P md ops Q (f + g) listed a w
  | 0, _, _, _, h => by rw [Nat.zero_add]; exact hL _ _ _ h
  | f + 1, _, _, _, h => by
    rw [show f + 1 + g = (f + g) + 1 by omega]
    exact ⟨fun h0 => absurd h0 h.1, fun i hi => wpOp_mono (fun a' w' h' => HeadS.any hL f _ a' w' h'.2) (h.2 i hi).2⟩

theorem HeadS.first {i : Nat} {oi : Oper} {v : Value} (hi : ops[i]? = some oi) (hsel : ∀ (j : Nat) (o : Oper) cs b, ops[j]? = some o → o.op ≠ .select cs b)
    (hQ : ∀ c a w, Q (.panic c) (a.put oi.dst v) w → Q (.panic c) a w)
    (hs : Region.sinkB md ops n = true) (hc : Region.chainB md ops n = true) (hn : n < ops.size) (hin : i < n) (hdone : ∀ listed a w, L listed a w → ∀ j ∈ Region.ready md ops listed, n ≤ j) :
    ∀ (f : Nat) (listed : Array Bool) (a : Act) (w : World), HeadInv md ops n listed →
      (∀ j oj, ops[j]? = some oj → j ≠ i → listed.getD j true = false → (∀ e ∈ oj.after, Region.binds md e = true → e.on ≠ i) → oi.apart ops oj = true) →
      i ∈ Region.ready md ops listed → YieldsIf P ops S oi v a → S w → HeadS P md ops Q S n L f (listed.setIfInBounds i true) (a.put oi.dst v) w → HeadS P md ops Q S n L (f + 1) listed a w := by
  intro f
  induction f with
  | zero =>
    intro listed a w inv _ hr hy hS H
    refine ⟨fun h => (by rw [h] at hr; cases hr), fun j hj => ?_⟩
    have hjn : j < n := Nat.lt_of_not_le fun h => tail_waits hs hc hn inv _ i rfl hin (mem_ready.1 hr).1 j h hj
    refine ⟨hjn, ?_⟩
    by_cases hji : j = i
    · subst hji; exact hy.wpOp hi hS ⟨hS, H⟩
    · have := hdone _ _ _ H j (ready_mono hj hji)
      omega
  | succ f ih =>
    intro listed a w inv hfree hr hy hS H
    have hun := (mem_ready.1 hr).1
    refine ⟨fun h => (by rw [h] at hr; cases hr), fun j hj => ?_⟩
    have hjn : j < n := Nat.lt_of_not_le fun h => tail_waits hs hc hn inv _ i rfl hin hun j h hj
    refine ⟨hjn, ?_⟩
    by_cases hji : j = i
    · subst hji; exact hy.wpOp hi hS ⟨hS, H⟩
    · have h1 := (H.2 j (ready_mono hj hji)).2
      obtain ⟨hjun, oj, hoj, hall⟩ := mem_ready.1 hj
      have hnot : ∀ e ∈ oj.after, Region.binds md e = true → e.on ≠ i := fun e he hb heq => by
        have h1 := hall e he hb
        rw [heq, getD_both hun] at h1
        cases h1
      have h2 := wpOp_putIf hoj (hfree j oj hoj hji hjun hnot) (fun cs b => hsel i oi cs b hi) (fun cs b => hsel j oj cs b hoj) hQ hy h1
      have hfree' : ∀ k ok, ops[k]? = some ok → k ≠ i → (listed.setIfInBounds j true).getD k true = false →
          (∀ e ∈ ok.after, Region.binds md e = true → e.on ≠ i) → oi.apart ops ok = true := fun k ok hk hki hun' hno => by
        refine hfree k ok hk hki ?_ hno
        by_cases hjk : j = k
        · subst hjk; exact hjun
        · rw [getD_set_ne true hjk] at hun'; exact hun'
      refine wpOp_mono (fun a' w' h3 => ⟨h3.2.1, ih (listed.setIfInBounds j true) a' w' (inv.set hj hjn) hfree' (ready_mono hr (Ne.symm hji)) h3.1 h3.2.1 ?_⟩) h2
      rw [Array.setIfInBounds_comm _ _ hji]
      exact h3.2.2

/-- In a state that can be. -/
def HeadW (P : Program) (md : Region.Mode) (ops : Array Oper) (Q : Exit → Act → World → Prop) (S : World → Prop) (n : Nat) (L : Array Bool → Act → World → Prop) (f : Nat) (listed : Array Bool) (a : Act) (w : World) : Prop :=
  HeadInv md ops n listed → HeadS P md ops Q S n L f listed a w
/-- What is known of the region. -/
def HeadG (md : Region.Mode) (ops : Array Oper) (n : Nat) (L : Array Bool → Act → World → Prop) : Prop :=
  Region.noSelect ops = true ∧ Region.sinkB md ops n = true ∧ Region.chainB md ops n = true ∧ n < ops.size ∧ ∀ listed a w, L listed a w → ∀ j ∈ Region.ready md ops listed, n ≤ j

theorem HeadW_take {i : Nat} {oi : Oper} {v : Value} {f : Nat} {listed : Array Bool} {a : Act} {w : World} (G : HeadG md ops n L) (hi : ops[i]? = some oi)
    (hin : Nat.blt i n = true) (hf : Region.free md ops listed i = true) (hr : (Region.ready md ops listed).contains i = true)
    (hQ : ∀ c a w, Q (.panic c) (a.put oi.dst v) w → Q (.panic c) a w) (hy : YieldsIf P ops S oi v a) (hS : S w)
    (h : HeadW P md ops Q S n L f (listed.setIfInBounds i true) (a.put oi.dst v) w) : HeadW P md ops Q S n L (f + 1) listed a w := fun inv => by
  have hin' : i < n := by simpa using hin
  have hr' : i ∈ Region.ready md ops listed := by simpa using hr
  exact HeadS.first hi (Region.noSelect_spec G.1) hQ G.2.1 G.2.2.1 G.2.2.2.1 hin' G.2.2.2.2 f listed a w inv (Region.free_spec hi hf) hr' hy hS (h (inv.set hr' hin'))

/-- Each of these comes up next. -/
def AllW (P : Program) (md : Region.Mode) (ops : Array Oper) (Q : Exit → Act → World → Prop) (S : World → Prop) (n : Nat) (L : Array Bool → Act → World → Prop) (f : Nat) (listed : Array Bool) (a : Act) (w : World) (rs : List Nat) : Prop :=
  ∀ i ∈ rs, wpOp P ops Q i (fun a' w' => S w' ∧ HeadW P md ops Q S n L f (listed.setIfInBounds i true) a' w') a w
theorem AllW.nil {f : Nat} {listed : Array Bool} {a : Act} {w : World} : AllW P md ops Q S n L f listed a w [] := fun _ h => by cases h
theorem AllW.cons {f : Nat} {listed : Array Bool} {a : Act} {w : World} {i : Nat} {o : Oper} {rs : List Nat} (ho : ops[i]? = some o)
    (h : ∀ K' : Act → World → Prop, (∀ a w, S w → HeadW P md ops Q S n L f (listed.setIfInBounds i true) a w → K' a w) → if Region.wanted o (yielded ops a.tmps) = true then Oper.wp P o a w K' Q else K' (a.put o.dst undef) w)
    (hs : AllW P md ops Q S n L f listed a w rs) : AllW P md ops Q S n L f listed a w (i :: rs) := fun j hj => by
  rcases List.mem_cons.1 hj with rfl | hj
  · exact wpOp_step ho fun K' hK => h K' fun a w h1 h2 => hK a w ⟨h1, h2⟩
  · exact hs j hj
theorem HeadW_ready {rs : List Nat} {f : Nat} {listed : Array Bool} {a : Act} {w : World} (hr : Region.ready md ops listed = rs) (hne : rs.isEmpty = false) (hin : rs.all (fun i => Nat.blt i n) = true)
    (h : AllW P md ops Q S n L f listed a w rs) : HeadW P md ops Q S n L (f + 1) listed a w := fun inv => by
  subst hr
  refine ⟨fun h0 => (by rw [h0] at hne; cases hne), fun i hi => ?_⟩
  have hin' : i < n := by simpa using List.all_eq_true.1 hin i hi
  exact ⟨hin', wpOp_mono (fun a' w' h' => ⟨h'.1, h'.2 (inv.set hi hin')⟩) (h i hi)⟩

/-- What is left: the tail, one behind the other. -/
def TailL (P : Program) (ops : Array Oper) (Q : Exit → Act → World → Prop) (n g : Nat) (r : List Oper) (listed : Array Bool) (a : Act) (w : World) : Prop := Region.seqB .any ops g n listed = true ∧ wpList P ops Q r a w

theorem wp_region_held_tail {id : Nat} {a : Act} {w : World} {l : List Oper} (S : World → Prop) (n : Nat) (hm : P.follows .mixedOrders = true)
    (hB : (Region.noSelect l.toArray && Nat.blt n l.length && Region.sinkB .any l.toArray n && Region.chainB .any l.toArray n) = true)
    (h : HeadG .any l.toArray n (TailL P l.toArray Q n (l.length - n) (l.drop n)) → HeadW P .any l.toArray Q S n (TailL P l.toArray Q n (l.length - n) (l.drop n)) n (Array.replicate l.toArray.size false) a { w with drawn := w.drawn + 1 }) :
    (Code.region id l.toArray true).wp P Q a w := by
  simp only [Bool.and_eq_true] at hB
  obtain ⟨⟨⟨hsel, hn⟩, hs⟩, hc⟩ := hB
  have hn' : n < l.length := by simpa using hn
  have hdl : (l.drop n).length = l.toArray.size - n := by simp
  have inv0 : HeadInv .any l.toArray n (Array.replicate l.toArray.size false) :=
    ⟨by simp, fun j oj _ hl => (by rw [getD_replicate_false] at hl; cases hl), fun t _ ht => getD_in (by simpa using ht) (getD_replicate_false _ _)⟩
  have H := h ⟨hsel, hs, hc, by simpa using hn', fun listed a w hL => seqB_ready hL.1⟩ inv0
  refine wp_region_any hm ?_
  have := HeadS.any (g := l.toArray.size - n) (fun listed a' w' hL => by
    have := wpAny_of_seq (md := .any) (Q' := Q) (l.drop n) n listed a' w' (fun j => by simp [List.getElem?_drop]) (by rw [hdl]; simpa using hL.1) hL.2
    rwa [hdl] at this) _ _ _ _ H
  rw [show n + (l.toArray.size - n) = l.toArray.size by simp; omega] at this
  exact this
end
end Go.Proofs.Ytmpldpfgnakbkaa
/- expr.Value. -/
namespace Go.Proofs.Ytmpldpfgnakbkaa
set_option linter.unusedVariables false
open Go.RowKit Go.Sort

theorem Gr.prts {w : World} {base n c : Nat} {A : Option Addr} {l : List Prt} (h : Gr 5 PartAt w base 87 A n c l) (hn : n ≤ 1000000) : Prts w (fun b => base ≤ b) A n c l := Gr.rw keeps_part h (by omega)
/-- One round: the stack behind the node. -/
theorem round_part {ask : List Giv} {wr w1 : World} {base h c : Nat} {A A1 : Option Addr} {n1 c1 : Nat} {st : List Prt} {n : Nod} (G : Gr 5 PartAt wr base 87 A h c st) (hh : h ≤ 1000) (ht : takesN n.op ≤ h) (hn : n.v.ok)
    (hb : Below wr.heap.size wr w1) {lo : Nat} (hlo : wr.heap.size ≤ lo) (hv : Vls w1 (fun b => lo ≤ b) A1 n1 c1 (madeP ask n (st.drop (h - takesN n.op))).bag) :
    ∃ A' c' w', (Builtin.append_ #[84, 84] 84 #[.slice A (h - takesN n.op) c, .slice (some ⟨w1.heap.size, 0, none⟩) 1 1]).run Try.prog (w1.alloc (.cells #[.slice A1 n1 c1, .int .i64 (madeP ask n (st.drop (h - takesN n.op))).v.k, .int .i64 (madeP ask n (st.drop (h - takesN n.op))).v.n, .string (madeP ask n (st.drop (h - takesN n.op))).v.s, .int .i64 (madeP ask n (st.drop (h - takesN n.op))).e] 87)) = .ok (.slice A' (h - takesN n.op + 1) c') w' ∧
      Gr 5 PartAt w' base 87 A' (h - takesN n.op + 1) c' (stepP ask st n) ∧ Below base wr w' := by
  have hlen : st.length = h := Gr.len G
  have hok := madeP_ok (ask := ask) (of := st.drop (h - takesN n.op)) hn (fun p hp => (G.prts (by omega)).oks p (List.mem_of_mem_drop hp))
  have G1 := (Gr.below keeps_part G hb).take keeps_part (j := h - takesN n.op) (by omega)
  obtain ⟨A', c', w', r, g, b⟩ := push_part (p := madeP ask n (st.drop (h - takesN n.op))) G1 hok (hv.keep (Kept.refl _ _) (fun b hb' _ => by
    have := G.apart b (Nat.le_trans hlo hb')
    exact ⟨this.1, by rw [own_block A _ h c c]; exact this.2⟩)) (by omega)
  refine ⟨A', c', w', r, ?_, (hb.mono G.2).trans b⟩
  have : stepP ask st n = st.take (h - takesN n.op) ++ [madeP ask n (st.drop (h - takesN n.op))] := by unfold stepP; rw [hlen]
  rw [this]
  exact g

set_option maxRecDepth 100000 in
set_option maxHeartbeats 3200000 in
theorem eval_bad {ask : List Giv} {w : World} {R : Nat → Prop} {A : Option Addr} {n c : Nat} {l : List Nod} (h : Nds w R A n c l) (A2 : Option Addr) (n2 c2 : Nat) (hb : l = [] ∨ exprE l ≠ 0) :
    Calls Try.prog 31 #[.slice A n c, .slice A2 n2 c2] w fun e w' => e = .returned (.tuple #[(valP ask l).1.val, .int .i64 (valP ask l).2]) ∧ Below w.heap.size w w' := by
  have hle := Rw.le h
  have hcap := Rw.cap h
  unfold maxLen at hcap
  have HQ := Lib.hid (valP_bad (ask := ask) hb)
  have HX := Lib.hid (fun W (hW : Below w.heap.size w W) => expr_any W (h.keep (Kept.all hW R) (fun _ h _ => h)))
  have hlen := Rw.len h
  by_cases h0 : n = 0
  · subst h0
    clear h hb hlen HX
    go_enter Try.func31, Try.ntmps31
    go_wp2_with fail
    try simp only [Exit.inBlock, Exit.then]
    refine bodyPost_ret (box_ret2 rfl rfl rfl (Bx.made _ _ _ _)) rfl ?_
    exact ⟨ret_pair (v := noneV) HQ.out, below1 _ _⟩
  · have hz : ((n : Int) == 0) = false := by rw [beq_eq_false_iff_ne]; omega
    have he : exprE l ≠ 0 := hb.elim (fun e => absurd (by rw [← hlen, e]; rfl) h0) id
    have hne : (exprE l != 0) = true := by rw [bne_iff_ne]; exact he
    generalize exprE l = xe at *
    have HD := Lib.hid (below1 w (.cells #[.int .i64 0, .int .i64 0, .string ⟨#[]⟩] 42))
    clear h hb hlen he
    go_enter Try.func31, Try.ntmps31
    go_wp2_with (go_at_call 33; refine (HX.out _ HD.out).mono ?_; rintro e w1 ⟨rfl, hb1⟩
                 have R1 := Lib.hid ((Bx.made w 0 0 ⟨#[]⟩).then_ hb1)
                 have D1 := Lib.hid (Below.lit hb1)
                 have c0 := R1.out.c3
                 have f0 := R1.out.fz
                 clear hb1)
    try simp only [Exit.inBlock, Exit.then]
    refine bodyPost_ret (box_ret2 rfl rfl rfl (R1.out.put _ _ _)) rfl ?_
    exact ⟨ret_pair (v := noneV) HQ.out, below_put D1.out (Nat.le_refl _) _ _ _⟩
set_option maxRecDepth 100000 in
set_option maxHeartbeats 6400000 in
theorem eval_good {ask : List Giv} {w : World} {R R2 : Nat → Prop} {A A2 : Option Addr} {n c n2 c2 : Nat} {l : List Nod} (h : Nds w R A n c l) (hA : Gvs w R2 A2 n2 c2 ask) (hG : ShortG ask) (h0 : l ≠ []) (he : exprE l = 0) :
    Calls Try.prog 31 #[.slice A n c, .slice A2 n2 c2] w fun e w' => e = .returned (.tuple #[(valP ask l).1.val, .int .i64 (valP ask l).2]) ∧ Below w.heap.size w w' := by
  have hle := Rw.le h
  have hcap := Rw.cap h
  unfold maxLen at hcap
  have hl32 := (exprE_ok he h0).1
  have HL := Lib.hid (Rw.len h)
  have hn32 : n ≤ 32 := by have := HL.out; omega
  have HX := Lib.hid (fun W (hW : Below w.heap.size w W) => expr_any W (h.keep (Kept.all hW R) (fun _ h _ => h)))
  have hz : ((n : Int) == 0) = false := by rw [beq_eq_false_iff_ne]; have : l.length ≠ 0 := fun e => h0 (List.eq_nil_of_length_eq_zero e); have := HL.out; omega
  obtain ⟨pz, hpz, hvz⟩ := run_end (ask := ask) he h0
  have HEND := Lib.hid hpz
  have HV := Lib.hid hvz
  have HRUN := Lib.hid (fun (k : Nat) (x : Nod) (hx : l[k]? = some x) => run_at (ask := ask) he hx)
  have HND := Lib.hid (fun W (hW : Below w.heap.size w W) => h.keep (Kept.all hW R) (fun _ h _ => h))
  have HGV := Lib.hid (fun W (hW : Below w.heap.size w W) => hA.keep (Kept.all hW R2) (fun _ h _ => h))
  have HG := Lib.hid hG
  rw [he] at HX
  have HD := Lib.hid (below1 w (.cells #[.int .i64 0, .int .i64 0, .string ⟨#[]⟩] 42))
  generalize valP ask l = rr at *
  clear h hA hG h0 he hpz hvz hl32
  go_enter Try.func31, Try.ntmps31
  go_wp2_with (go_at_call 33; refine (HX.out _ HD.out).mono ?_; rintro e w1 ⟨rfl, hb1⟩
               have R1 := Lib.hid ((Bx.made w 0 0 ⟨#[]⟩).then_ hb1)
               have D1 := Lib.hid (Below.lit hb1)
               have Z1 := Lib.hid (Nat.lt_of_lt_of_le (Nat.lt_succ_self _) (size_al w (.cells #[.int .i64 0, .int .i64 0, .string ⟨#[]⟩] 42) ▸ hb1.size))
               clear hb1)
  go_loopw [6, 21] (fun out i wr => ∃ (k h : Nat) (A' : Option Addr) (c' : Nat), k ≤ n ∧ i = .int .i64 k ∧ out = .slice A' h c' ∧ Gr 5 PartAt wr (w.heap.size + 1) 87 A' h c' (runP ask (l.take k) []) ∧ Below (w.heap.size + 1) w1 wr) (fun out i _ => n - (intOf i).toNat)
  case atStart => exact ⟨0, 0, none, 0, Nat.zero_le _, rfl, rfl, Gr.nil _ _ Z1.out, Below.refl _ _⟩
  case round =>
    obtain ⟨k, hh, A', c', hk, rfl, rfl, hgr, hb⟩ := hrel
    have HGR := Lib.hid hgr
    have HB := Lib.hid hb
    have HW := Lib.hid (D1.out.trans (hb.mono (Nat.le_succ _)))
    have R2 := Lib.hid (R1.out.below hb (Nat.lt_succ_self _))
    clear hgr hb
    by_cases hlt : k < n
    · obtain ⟨b, o, x, rfl, hRb, hbl, hx, hok, c0, c1, c2', c3, c4, c5, c6⟩ := (HND.out wr HW.out).at_ hlt
      obtain ⟨ht, hst, hsx, hhk⟩ := HRUN.out k x hx
      have hlen : (runP ask (l.take k) []).length = hh := Gr.len HGR.out
      rw [hlen] at ht hhk
      generalize runP ask (l.take k) [] = st at *
      have HST := Lib.hid hst
      have HOK := Lib.hid hok
      have hhc : hh ≤ c' := Rw.le (HGR.out.prts (by omega))
      have hcm : c' ≤ maxLen := Rw.cap (HGR.out.prts (by omega))
      unfold maxLen at hcm
      have HTK := Lib.hid (etakes_any x.op)
      have d1 : Below wr.heap.size wr (wr.alloc (.cells #[.int .i64 x.op, .int .i64 x.v.k, .int .i64 x.v.n, .string x.v.s, .int .i64 x.a.cat, .string x.a.name, .bool x.a.must] 51)) := below1 _ _
      have hpr := (HGR.out.prts (by omega)).up d1
      have ND := Lib.hid (Ob.made wr 51 #[.int .i64 x.op, .int .i64 x.v.k, .int .i64 x.v.n, .string x.v.s, .int .i64 x.a.cat, .string x.a.name, .bool x.a.must])
      have DD := Lib.hid d1
      have HM := Lib.hid (fun W (hW : Below (wr.alloc (.cells #[.int .i64 x.op, .int .i64 x.v.k, .int .i64 x.v.n, .string x.v.s, .int .i64 x.a.cat, .string x.a.name, .bool x.a.must] 51)).heap.size (wr.alloc (.cells #[.int .i64 x.op, .int .i64 x.v.k, .int .i64 x.v.n, .string x.v.s, .int .i64 x.a.cat, .string x.a.name, .bool x.a.must] 51)) W) =>
        emade_any (ask := ask) x hsx W ((hpr.up hW).drop (m := hh - takesN x.op) (by omega)) (by omega) (HGV.out W (HW.out.trans ((DD.out.trans (hW.mono DD.out.size)).mono HW.out.size))) HG.out)
      have HR := Lib.hid (fun w1 (hb : Below wr.heap.size wr w1) A1 n1 c1 lo hlo hv => round_part (ask := ask) (n := x) HGR.out (by omega) ht hok.2.1 hb (A1 := A1) (n1 := n1) (c1 := c1) (lo := lo) hlo hv)
      obtain ⟨pm, hpm⟩ : ∃ pm, pm = madeP ask x (st.drop (hh - takesN x.op)) := ⟨_, rfl⟩
      rw [← hpm] at HM HR
      obtain ⟨tk, htk⟩ : ∃ tk, tk = takesN x.op := ⟨_, rfl⟩
      rw [← htk] at HTK HM HR ht
      obtain ⟨xo, ⟨xk, xn, xs⟩, ⟨xc, xm, xu⟩⟩ := x
      simp only at c0 c1 c2' c3 c4 c5 c6 HTK ND DD HM
      unfold Nod.val at HM
      simp only at HM
      have hsub : IntKind.i64.wrap ((hh : Int) - (tk : Int)) = ((hh - tk : Nat) : Int) := by rw [IntKind.wrap_i64]; omega
      clear hpr d1 hx hok hst hsx hlen hRb hpm htk
      go_upto_region 8 with (go_at_call 54; refine (HTK.out _).mono ?_; rintro e w2 ⟨rfl, rfl⟩)
      generalize wr.alloc (.cells #[.int .i64 xo, .int .i64 xk, .int .i64 xn, .string xs, .int .i64 xc, .string xm, .bool xu] 51) = W1 at *
      have hjh : hh - tk ≤ hh := by omega
      generalize hh - tk = jj at *
      have q0 : (0 : Int) ≤ (jj : Int) := by omega
      have q1 : (jj : Int) ≤ (c' : Int) := by omega
      have q2 : (jj : Int) ≤ (hh : Int) := by omega
      generalize hAq : (if c' = jj then A' else A'.map (·.add (jj * 5))) = Aq at *
      have KN : Hid (∀ W, Below W1.heap.size W1 W → Ob W wr.heap.size 51 #[.int .i64 xo, .int .i64 xk, .int .i64 xn, .string xs, .int .i64 xc, .string xm, .bool xu]) := by
        show ∀ W, _ → _
        intro W hb
        exact ND.out.below hb ND.out.lt
      refine wp_region_held_tail (fun w' => Below W1.heap.size W1 w') 10 (by kernel_rfl) (by kernel_rfl) ?_
      intro G
      change HeadW _ _ _ _ _ _ _ _ _ _ (W1.drewN 1)
      have S0 := Lib.hid (below_drewN (Below.refl W1.heap.size W1) 1)
      generalize W1.drewN 1 = v0 at *
      refine HeadW_take (i := 0) (v := ?_) G rfl (by kernel_rfl) (by kernel_rfl) (by kernel_rfl) (fun _ _ _ h => h) (Or.inl ⟨by rfl, ?_⟩) S0.out ?_
      rotate_left
      · intro wz hS
        go_simp
        try with_reducible rfl
      refine HeadW_take (i := 1) (v := ?_) G rfl (by kernel_rfl) (by kernel_rfl) (by kernel_rfl) (fun _ _ _ h => h) (Or.inl ⟨by rfl, ?_⟩) S0.out ?_
      rotate_left
      · intro wz hS
        go_simp
        try with_reducible rfl
      refine HeadW_take (i := 2) (v := ?_) G rfl (by kernel_rfl) (by kernel_rfl) (by kernel_rfl) (fun _ _ _ h => h) (Or.inl ⟨by rfl, ?_⟩) S0.out ?_
      rotate_left
      · intro wz hS
        go_simp
        try with_reducible rfl
      refine HeadW_take (i := 3) (v := ?_) G rfl (by kernel_rfl) (by kernel_rfl) (by kernel_rfl) (fun _ _ _ h => h) (Or.inl ⟨by rfl, ?_⟩) S0.out ?_
      rotate_left
      · intro wz hS
        have hk0 := (KN.out _ hS).cell 0
        have hk1 := (KN.out _ hS).cell 1
        have hk2 := (KN.out _ hS).cell 2
        have hk3 := (KN.out _ hS).cell 3
        have hk4 := (KN.out _ hS).cell 4
        have hk5 := (KN.out _ hS).cell 5
        have hk6 := (KN.out _ hS).cell 6
        go_simp
        try with_reducible rfl
      refine HeadW_take (i := 4) (v := ?_) G rfl (by kernel_rfl) (by kernel_rfl) (by kernel_rfl) (fun _ _ _ h => h) (Or.inl ⟨by rfl, ?_⟩) S0.out ?_
      rotate_left
      · intro wz hS
        go_simp
        try with_reducible rfl
      refine HeadW_take (i := 5) (v := ?_) G rfl (by kernel_rfl) (by kernel_rfl) (by kernel_rfl) (fun _ _ _ h => h) (Or.inl ⟨by rfl, ?_⟩) S0.out ?_
      rotate_left
      · intro wz hS
        go_simp
        try with_reducible rfl
      refine HeadW_take (i := 6) (v := ?_) G rfl (by kernel_rfl) (by kernel_rfl) (by kernel_rfl) (fun _ _ _ h => h) (Or.inl ⟨by rfl, ?_⟩) S0.out ?_
      rotate_left
      · intro wz hS
        go_simp
        try rw [hAq]
        try with_reducible rfl
      refine HeadW_take (i := 7) (v := ?_) G rfl (by kernel_rfl) (by kernel_rfl) (by kernel_rfl) (fun _ _ _ h => h) (Or.inl ⟨by rfl, ?_⟩) S0.out ?_
      rotate_left
      · intro wz hS
        go_simp
        try with_reducible rfl
      refine HeadW_ready (rs := [8]) (by kernel_rfl) rfl rfl ?_
      refine AllW.cons rfl (fun K hK => ?_) AllW.nil
      go_simp
      refine (HM.out _ S0.out).mono ?_
      rintro e v2 ⟨A3, n3, c3, rfl, hb, hv⟩
      have S2 := Lib.hid (S0.out.trans (hb.mono S0.out.size))
      have hwv : Below wr.heap.size wr v2 := DD.out.trans (S2.out.mono DD.out.size)
      obtain ⟨A4, c4, v4, r4, g4, b4⟩ := HR.out v2 hwv A3 n3 c3 _ (Nat.le_trans DD.out.size S0.out.size) hv
      have R4 := Lib.hid r4
      have G4 := Lib.hid g4
      have B4 := Lib.hid (HB.out.trans b4)
      refine hK _ _ S2.out ?_
      clear hK K hb hv hwv r4 g4 b4
      refine HeadW_ready (rs := [9]) (by kernel_rfl) rfl rfl ?_
      refine AllW.cons rfl (fun K hK => ?_) AllW.nil
      go_simp
      refine hK _ _ (S2.out.alloc S2.out.size _) ?_
      clear hK K
      intro _
      refine ⟨by kernel_rfl, ?_⟩
      simp only [List.drop_succ_cons, List.drop_zero]
      at_builtin
      refine wpList_append_run rfl _ _ _ _ rfl rfl rfl R4.out ?_
      go_wp2_with fail
      go_roundw
      case rel => exact ⟨k + 1, jj + 1, A4, c4, by omega, by go_num, rfl, by rw [HST.out]; exact G4.out, B4.out⟩
      case measure => simp [intOf]; omega
    · obtain rfl : k = n := by omega
      have hg := HGR.out
      rw [List.take_of_length_le (by have := HL.out; omega), HEND.out] at hg
      obtain rfl : hh = 1 := (Gr.len hg).symm
      obtain ⟨b, o, x, Ax, nx, cx, rfl, hbb, _, hx, _, ⟨_, x1, x2, x3, x4⟩, _⟩ := (hg.prts (by omega)).at_ (j := 0) (by omega)
      simp at hx
      subst hx
      have hle' : 1 ≤ c' := Rw.le (hg.prts (by omega))
      obtain ⟨pb, ⟨pk, pn, ps⟩, pe⟩ := pz
      simp only [Nat.zero_mul, Nat.add_zero] at x1 x2 x3 x4
      have hbn : b ≠ w.heap.size := by omega
      clear hg
      go_upto_region 10 with fail
      refine wp_region_held_tail (fun w' => w'.heap[b]? = wr.heap[b]?) 9 (by kernel_rfl) (by kernel_rfl) ?_
      intro G
      change HeadW _ _ _ _ _ _ _ _ _ _ (wr.drewN 1)
      have S0 : Hid ((wr.drewN 1).heap[b]? = wr.heap[b]?) := rfl
      have R3 := Lib.hid (R2.out.drewN 1)
      have D3 := Lib.hid (below_drewN HW.out 1)
      generalize wr.drewN 1 = v0 at *
      refine HeadW_take (i := 0) (v := ?_) G rfl (by kernel_rfl) (by kernel_rfl) (by kernel_rfl) (fun _ _ _ h => h) (Or.inl ⟨by rfl, ?_⟩) S0.out ?_
      rotate_left
      · intro wz hS
        go_simp
        try with_reducible rfl
      refine HeadW_take (i := 1) (v := ?_) G rfl (by kernel_rfl) (by kernel_rfl) (by kernel_rfl) (fun _ _ _ h => h) (Or.inl ⟨by rfl, ?_⟩) S0.out ?_
      rotate_left
      · intro wz hS
        go_simp
        try with_reducible rfl
      refine HeadW_take (i := 2) (v := ?_) G rfl (by kernel_rfl) (by kernel_rfl) (by kernel_rfl) (fun _ _ _ h => h) (Or.inl ⟨by rfl, ?_⟩) S0.out ?_
      rotate_left
      · intro wz hS
        go_simp
        try with_reducible rfl
      refine HeadW_take (i := 3) (v := ?_) G rfl (by kernel_rfl) (by kernel_rfl) (by kernel_rfl) (fun _ _ _ h => h) (Or.inl ⟨by rfl, ?_⟩) S0.out ?_
      rotate_left
      · intro wz hS
        have y1 := (World.cell?_of_block hS).trans x1
        have y2 := (World.cell?_of_block hS).trans x2
        have y3 := (World.cell?_of_block hS).trans x3
        have y4 := (World.cell?_of_block hS).trans x4
        go_simp
        try with_reducible rfl
      refine HeadW_take (i := 4) (v := ?_) G rfl (by kernel_rfl) (by kernel_rfl) (by kernel_rfl) (fun _ _ _ h => h) (Or.inl ⟨by rfl, ?_⟩) S0.out ?_
      rotate_left
      · intro wz hS
        go_simp
        try with_reducible rfl
      refine HeadW_take (i := 5) (v := ?_) G rfl (by kernel_rfl) (by kernel_rfl) (by kernel_rfl) (fun _ _ _ h => h) (Or.inl ⟨by rfl, ?_⟩) S0.out ?_
      rotate_left
      · intro wz hS
        go_simp
        try with_reducible rfl
      refine HeadW_take (i := 6) (v := ?_) G rfl (by kernel_rfl) (by kernel_rfl) (by kernel_rfl) (fun _ _ _ h => h) (Or.inl ⟨by rfl, ?_⟩) S0.out ?_
      rotate_left
      · intro wz hS
        go_simp
        try with_reducible rfl
      refine HeadW_take (i := 7) (v := ?_) G rfl (by kernel_rfl) (by kernel_rfl) (by kernel_rfl) (fun _ _ _ h => h) (Or.inl ⟨by rfl, ?_⟩) S0.out ?_
      rotate_left
      · intro wz hS
        have y1 := (World.cell?_of_block hS).trans x1
        have y2 := (World.cell?_of_block hS).trans x2
        have y3 := (World.cell?_of_block hS).trans x3
        have y4 := (World.cell?_of_block hS).trans x4
        go_simp
        try with_reducible rfl
      have c0 := R3.out.c3
      have f0 := R3.out.fz
      have R4 := R3.out.put pk pn ps
      have f1 := (R3.out.put pk pn ps).fz
      refine HeadW_ready (rs := [8]) (by kernel_rfl) rfl rfl ?_
      refine AllW.cons rfl (fun K hK => ?_) AllW.nil
      go_simp
      refine hK _ _ (by
        show (World.heap _)[b]? = _
        rw [Below.heap_setCell _ _ _ _ (by show b ≠ w.heap.size; exact hbn), Below.heap_setCell _ _ _ _ (by show b ≠ w.heap.size; exact hbn), Below.heap_setCell _ _ _ _ (by show b ≠ w.heap.size; exact hbn)]
        exact S0.out) ?_
      clear hK K
      intro _
      refine ⟨by kernel_rfl, ?_⟩
      simp only [List.drop_succ_cons, List.drop_zero]
      go_wp2_with fail
      try simp only [Exit.inBlock, Exit.then]
      refine bodyPost_ret (box_ret2 rfl rfl rfl (R3.out.put _ _ _)) rfl ?_
      exact ⟨ret_pair HV.out, below_put D3.out (Nat.le_refl _) _ _ _⟩
/-- expr.Value, of anything. -/
theorem eval_any {ask : List Giv} {w : World} {R R2 : Nat → Prop} {A A2 : Option Addr} {n c n2 c2 : Nat} {l : List Nod} (h : Nds w R A n c l) (hA : Gvs w R2 A2 n2 c2 ask) (hG : ShortG ask) :
    Calls Try.prog 31 #[.slice A n c, .slice A2 n2 c2] w fun e w' => e = .returned (.tuple #[(valP ask l).1.val, .int .i64 (valP ask l).2]) ∧ Below w.heap.size w w' := by
  by_cases h0 : l = []
  · exact eval_bad h A2 n2 c2 (.inl h0)
  · by_cases he : exprE l = 0
    · exact eval_good h hA hG h0 he
    · exact eval_bad h A2 n2 c2 (.inr he)
end Go.Proofs.Ytmpldpfgnakbkaa
/- expr.Cond. -/
namespace Go.Proofs.Ytmpldpfgnakbkaa
set_option linter.unusedVariables false
open Go.RowKit Go.Sort

theorem etruth_t (w : World) : Calls Try.prog 59 #[.bool true] w fun e w' => e = .returned (.agg #[.int .i64 1, .int .i64 1, .string ⟨#[]⟩]) ∧ Below w.heap.size w w' := etruth_any true w
theorem etruth_f (w : World) : Calls Try.prog 59 #[.bool false] w fun e w' => e = .returned (.agg #[.int .i64 1, .int .i64 0, .string ⟨#[]⟩]) ∧ Below w.heap.size w w' := etruth_any false w
theorem condV_veq (k m : Int) (s : ByteArray) : condV ⟨k, m, s⟩ = if veq ⟨k, m, s⟩ ⟨1, 1, ⟨#[]⟩⟩ = true then 2 else if veq ⟨k, m, s⟩ ⟨1, 0, ⟨#[]⟩⟩ = true then 0 else 1 := by
  rcases condV_cases ⟨k, m, s⟩ with ⟨h1, h2⟩ | ⟨h1, h2⟩ | ⟨⟨h1, h3⟩, h2⟩ <;> rw [h2]
  · have ht : veq ⟨k, m, s⟩ ⟨1, 1, ⟨#[]⟩⟩ = true := veq_true h1
    rw [ht, if_pos rfl]
  · have hne : veq ⟨k, m, s⟩ ⟨1, 1, ⟨#[]⟩⟩ = false := veq_false (by rw [h1]; exact truth_ne.symm)
    have ht : veq ⟨k, m, s⟩ ⟨1, 0, ⟨#[]⟩⟩ = true := veq_true h1
    rw [hne, if_neg (by simp), ht, if_pos rfl]
  · have hne : veq ⟨k, m, s⟩ ⟨1, 1, ⟨#[]⟩⟩ = false := veq_false h1
    have hnf : veq ⟨k, m, s⟩ ⟨1, 0, ⟨#[]⟩⟩ = false := veq_false h3
    rw [hne, hnf, if_neg (by simp), if_neg (by simp)]
set_option maxRecDepth 100000 in
set_option maxHeartbeats 3200000 in
theorem econd_any {ask : List Giv} {w : World} {R R2 : Nat → Prop} {A A2 : Option Addr} {n c n2 c2 : Nat} {l : List Nod} (h : Nds w R A n c l) (hA : Gvs w R2 A2 n2 c2 ask) (hG : ShortG ask) :
    Calls Try.prog 34 #[.slice A n c, .slice A2 n2 c2] w fun e w' => e = .returned (.int .i64 (condP ask l)) ∧ Below w.heap.size w w' := by
  have hle := Rw.le h
  have hcap := Rw.cap h
  have hlen := Rw.len h
  unfold maxLen at hcap
  have HVAL := Lib.hid (eval_any h hA hG)
  by_cases h0 : n = 0
  · subst h0
    have hl : l = [] := List.eq_nil_of_length_eq_zero hlen
    have HQ : Hid (condP ask l = 2) := by show _ = _; unfold condP; rw [if_pos hl]
    clear h hA HVAL hlen
    go_enter Try.func34, Try.ntmps34
    go_wp2_with fail
    go_ret
    exact ⟨ret_int HQ.out.symm, Below.refl _ _⟩
  have hz : ((n : Int) == 0) = false := by rw [beq_eq_false_iff_ne]; omega
  have hl : l ≠ [] := by rintro rfl; exact h0 hlen.symm
  have HQ : Hid (condP ask l = condV (valP ask l).1) := condP_val hl
  generalize condP ask l = cc at *
  obtain ⟨⟨⟨k, m, s⟩, ee⟩, hp⟩ : ∃ q, q = valP ask l := ⟨_, rfl⟩
  rw [← hp] at HVAL HQ
  have HT := Lib.hid etruth_t
  have HF := Lib.hid etruth_f
  have e1 := fun W => val_eq k m 1 1 s ⟨#[]⟩ W
  have e2 := fun W => val_eq k m 1 0 s ⟨#[]⟩ W
  have HQ' : Hid (cc = if veq ⟨k, m, s⟩ ⟨1, 1, ⟨#[]⟩⟩ = true then 2 else if veq ⟨k, m, s⟩ ⟨1, 0, ⟨#[]⟩⟩ = true then 0 else 1) := by
    show _ = _
    rw [HQ.out]
    exact condV_veq k m s
  generalize veq ⟨k, m, s⟩ ⟨1, 1, ⟨#[]⟩⟩ = v1 at *
  generalize veq ⟨k, m, s⟩ ⟨1, 0, ⟨#[]⟩⟩ = v2 at *
  clear h hA hlen h0 hl hp HQ
  cases v1
  · cases v2
    · have hcc : cc = 1 := HQ'.out
      subst hcc
      go_enter Try.func34, Try.ntmps34
      go_wp2_with (first
        | (go_at_call 31; refine HVAL.out.mono ?_; rintro e w1 ⟨rfl, hb1⟩; have B1 := Lib.hid (hb1.alloc hb1.size (.cells #[.int .i64 k, .int .i64 m, .string s] 42)); simp only [Vl.val]; clear hb1)
        | (go_at_call 59; (with_reducible refine (HT.out _).mono ?_); rintro e w2 ⟨rfl, hb2⟩; have B2 := Lib.hid (below_step B1.out hb2); clear hb2)
        | (go_at_call 59; (with_reducible refine (HF.out _).mono ?_); rintro e w3 ⟨rfl, hb3⟩; have B3 := Lib.hid (below_step B2.out hb3); clear hb3))
      go_ret
      exact ⟨rfl, B3.out⟩
    · have hcc : cc = 0 := HQ'.out
      subst hcc
      go_enter Try.func34, Try.ntmps34
      go_wp2_with (first
        | (go_at_call 31; refine HVAL.out.mono ?_; rintro e w1 ⟨rfl, hb1⟩; have B1 := Lib.hid (hb1.alloc hb1.size (.cells #[.int .i64 k, .int .i64 m, .string s] 42)); simp only [Vl.val]; clear hb1)
        | (go_at_call 59; (with_reducible refine (HT.out _).mono ?_); rintro e w2 ⟨rfl, hb2⟩; have B2 := Lib.hid (below_step B1.out hb2); clear hb2)
        | (go_at_call 59; (with_reducible refine (HF.out _).mono ?_); rintro e w3 ⟨rfl, hb3⟩; have B3 := Lib.hid (below_step B2.out hb3); clear hb3))
      go_ret
      exact ⟨rfl, B3.out⟩
  · have hcc : cc = 2 := HQ'.out
    subst hcc
    go_enter Try.func34, Try.ntmps34
    go_wp2_with (first
      | (go_at_call 31; refine HVAL.out.mono ?_; rintro e w1 ⟨rfl, hb1⟩; have B1 := Lib.hid (hb1.alloc hb1.size (.cells #[.int .i64 k, .int .i64 m, .string s] 42)); simp only [Vl.val]; clear hb1)
      | (go_at_call 59; (with_reducible refine (HT.out _).mono ?_); rintro e w2 ⟨rfl, hb2⟩; have B2 := Lib.hid (below_step B1.out hb2); clear hb2))
    go_ret
    exact ⟨rfl, B2.out⟩
end Go.Proofs.Ytmpldpfgnakbkaa
/- bailiffkeep: how much may be gone through: takes, text. -/
namespace Go.Proofs.Ytmpldpfgnakbkaa
set_option linter.unusedVariables false
open Go.RowKit

/-- What is left. -/
def Lf (w : World) (g m : Nat) : Prop := Ob w g 73 #[.int .i64 (m : Int)]
/-- A call that takes so much of it. -/
def Taking (f : FuncId) (args : Array Value) (w : World) (g m c : Nat) : Prop :=
  Calls Try.prog f args w fun e w' => e = .returned (.bool (decide (c ≤ m))) ∧ Only g w w' ∧ (c ≤ m → Lf w' g (m - c))
theorem Only.kept {g : Nat} {w w' : World} (h : Only g w w') {R : Nat → Prop} (hR : ∀ b, R b → b ≠ g) : Kept R w w' := ⟨h.le, fun b hb hl => h.heap hl (hR b hb)⟩
theorem Only.alloc (g : Nat) (w : World) (o : Obj) : Only g w (w.alloc o) := Only.of_below ((Below.refl _ _).alloc (Nat.le_refl _) _)

theorem takes_any {w : World} {g m n : Nat} (hl : Lf w g m) (hm : m ≤ 3000) (hn : n ≤ maxLen) : Taking 39 #[.pointer (some ⟨g, 0, none⟩), .int .i64 (n : Int)] w g m n := by
  unfold Taking
  have c0 := hl.cell 0
  have f0 := hl.frozen 0
  have HL := Lib.hid hl
  unfold maxLen at hn
  clear hl
  by_cases h : n ≤ m
  · have h' : ¬ (m : Int) < (n : Int) := by omega
    have e : (m : Int) - (n : Int) = ((m - n : Nat) : Int) := by omega
    have HD := Lib.hid h
    clear h
    go_enter Try.func39, Try.ntmps39
    go_wp2_with fail
    go_ret
    refine ⟨ret_bool (decide_eq_true HD.out).symm, Only.refl.setCell rfl _, fun _ => ?_⟩
    have := HL.out.put 0 (.int .i64 ((m - n : Nat) : Int))
    simpa [Lf] using this
  · have h' : (m : Int) < (n : Int) := by omega
    have HD := Lib.hid h
    clear h
    go_enter Try.func39, Try.ntmps39
    go_wp2_with fail
    go_ret
    exact ⟨ret_bool (decide_eq_false HD.out).symm, Only.refl, fun h => absurd h HD.out⟩

def textC (s : ByteArray) : Nat := 1 + s.size / 8
theorem ktext_any {w : World} {g m : Nat} (s : ByteArray) (hl : Lf w g m) (hm : m ≤ 3000) (hs : s.size ≤ maxLen) : Taking 40 #[.pointer (some ⟨g, 0, none⟩), .string s] w g m (textC s) := by
  unfold maxLen at hs
  have HT := Lib.hid (takes_any (n := textC s) hl hm (by unfold maxLen textC; omega))
  have e : ((textC s : Nat) : Int) = 1 + (s.size : Int) / 8 := by unfold textC; omega
  unfold Taking at HT ⊢
  rw [e] at HT
  clear hl e
  go_enter Try.func40, Try.ntmps40
  go_wp2_with (go_at_call 39; refine HT.out.mono ?_; rintro e w1 ⟨rfl, hb, hw⟩)
  go_ret
  exact ⟨rfl, hb, hw⟩

def sumC {α : Type} (f : α → Nat) : List α → Nat
  | [] => 0
  | x :: l => f x + sumC f l
theorem sumC_app {α : Type} (f : α → Nat) : ∀ (l m : List α), sumC f (l ++ m) = sumC f l + sumC f m
  | [], m => by simp [sumC]
  | x :: l, m => by simp only [List.cons_append, sumC, sumC_app f l m]; omega
theorem sumC_take {α : Type} {f : α → Nat} {l : List α} {k : Nat} {x : α} (h : l[k]? = some x) : sumC f (l.take (k + 1)) = sumC f (l.take k) + f x := by
  obtain ⟨hk, rfl⟩ := List.getElem?_eq_some_iff.1 h
  rw [List.take_succ_eq_append_getElem hk, sumC_app]
  rfl
theorem sumC_zero {α : Type} (f : α → Nat) (l : List α) : sumC f (l.take 0) = 0 := by simp [sumC]
theorem sumC_all {α : Type} {f : α → Nat} {l : List α} {n : Nat} (h : l.length = n) : sumC f (l.take n) = sumC f l := by rw [List.take_of_length_le (by omega)]
theorem sumC_le {α : Type} {f : α → Nat} {l : List α} {k : Nat} {x : α} (h : l[k]? = some x) : sumC f (l.take k) + f x ≤ sumC f l := by
  rw [← sumC_take h]
  have := sumC_app f (l.take (k + 1)) (l.drop (k + 1))
  rw [List.take_append_drop] at this
  omega
theorem sumC_mem {α : Type} {f : α → Nat} {l : List α} {x : α} (h : x ∈ l) : f x ≤ sumC f l := by
  obtain ⟨k, hk, rfl⟩ := List.getElem_of_mem h
  have := sumC_le (f := f) (List.getElem?_eq_getElem hk)
  omega
theorem Lf.alloc {w : World} {g m : Nat} (h : Lf w g m) (o : Obj) : Lf (w.alloc o) g m := Ob.keep h (Below.heap_alloc w o g (Ob.lt h))
end Go.Proofs.Ytmpldpfgnakbkaa
/- bailiffkeep.Few: may a request be gone through in a while? -/
namespace Go.Proofs.Ytmpldpfgnakbkaa
set_option linter.unusedVariables false
open Go.RowKit

def valC (v : Vl) : Nat := textC v.s
def givC (g : Giv) : Nat := textC g.name + g.bag.length + sumC valC g.bag
def fewC (l : List Giv) : Nat := 2 * l.length + sumC givC l
theorem few_each {l : List Giv} (h : fewC l ≤ 1200) {g : Giv} (hg : g ∈ l) : g.name.size ≤ 9600 ∧ g.bag.length ≤ 1200 ∧ ∀ v ∈ g.bag, v.s.size ≤ 9600 := by
  have h1 := sumC_mem (f := givC) hg
  unfold fewC at h
  have e : givC g = textC g.name + g.bag.length + sumC valC g.bag := rfl
  have e2 : textC g.name = 1 + g.name.size / 8 := rfl
  refine ⟨by omega, by omega, fun v hv => ?_⟩
  have h2 := sumC_mem (f := valC) hv
  have e3 : valC v = 1 + v.s.size / 8 := rfl
  omega
theorem few_len {l : List Giv} (h : fewC l ≤ 1200) : l.length ≤ 600 := by unfold fewC at h; omega

set_option maxHeartbeats 1600000 in
theorem few_any {w : World} {R : Nat → Prop} {A : Option Addr} {n c : Nat} {l : List Giv} (h0 : Gvs w R A n c l) :
    Calls Try.prog 12 #[.slice A n c] w fun e w' => e = .returned (.bool (decide (fewC l ≤ 1200))) ∧ Below w.heap.size w w' := by
  have hb0 : Below w.heap.size w (w.alloc (.cells #[.int .i64 1200] 73)) := (Below.refl _ _).alloc (Nat.le_refl _) _
  have h : Gvs (w.alloc (.cells #[.int .i64 1200] 73)) (fun b => b < w.heap.size) A n c l := h0.keep (Kept.all hb0 R) (fun b _ hb => hb)
  have hl : Lf (w.alloc (.cells #[.int .i64 1200] 73)) w.heap.size 1200 := Ob.made w _ _
  have hR : ∀ b, b < w.heap.size → b ≠ w.heap.size := fun b hb => by omega
  have hle := Rw.le h
  have hcap := Rw.cap h
  have hbig := Rw.big h
  have HL := Lib.hid (Rw.len h)
  have HT := Lib.hid (takes_any (n := 2 * n) hl (by omega) (by unfold maxLen; omega))
  unfold Taking at HT
  rw [show ((2 * n : Nat) : Int) = 2 * (n : Int) by omega] at HT
  have H := Lib.hid h
  have HR := Lib.hid hR
  have HB0 := Lib.hid hb0
  have HC : Hid (fewC l = 2 * n + sumC givC l) := by show fewC l = _; unfold fewC; rw [HL.out]
  unfold maxLen at hcap
  generalize hcc : fewC l = cc at *
  have HG : Hid (∀ W, Only w.heap.size (w.alloc (.cells #[.int .i64 1200] 73)) W → Below w.heap.size w W) := Lib.hid (fun W hW => hb0.trans (hW.below (by simp) (Nat.le_refl _)))
  clear hcc h hl hR hb0 h0
  generalize hg : w.heap.size = g at *
  by_cases h1 : 2 * n ≤ 1200
  · rw [decide_eq_true h1] at HT
    have H1 := Lib.hid h1
    clear h1
    go_enter Try.func12, Try.ntmps12
    go_wp2_with (go_at_call 39; refine HT.out.mono ?_; rintro e w1 ⟨rfl, hb, hw⟩; have B1 := Lib.hid hb; have W1 := Lib.hid (hw H1.out); clear hb hw)
    go_loopw [18] (fun i wr => ∃ k mk : Nat, k ≤ n ∧ i = .int .i64 k ∧ sumC givC (l.take k) + mk = 1200 - 2 * n ∧ Lf wr g mk ∧ Only g (w.alloc (.cells #[.int .i64 1200] 73)) wr) (fun i _ => n - (intOf i).toNat)
    case atStart => exact ⟨0, 1200 - 2 * n, Nat.zero_le _, rfl, by rw [sumC_zero]; omega, W1.out, B1.out⟩
    case round =>
      obtain ⟨wo, hwo⟩ : ∃ wo, wo = wr := ⟨wr, rfl⟩
      subst hwo
      obtain ⟨k, mk, hk, rfl, hs, hlf, hb⟩ := hrel
      have HS := Lib.hid hs
      have HB := Lib.hid hb
      have HF := Lib.hid hlf
      clear hs hb hlf
      by_cases hlt : k < n
      · obtain ⟨b, o, x, A', n', c', rfl, hRb, hbl, hx, hok, ⟨c0, c1, c2⟩, hin⟩ := (H.out.keep (HB.out.kept HR.out) (fun _ h _ => h)).at_ hlt
        have HX := Lib.hid hx
        have hle' := Rw.le hin
        have hcap' := Rw.cap hin
        have hbig' := Rw.big hin
        have HL' := Lib.hid (Rw.len hin)
        have HIN := Lib.hid hin
        have HSX := Lib.hid (sumC_le (f := givC) hx)
        have HEX : Hid (givC x = textC x.name + n' + sumC valC x.bag) := by show givC x = _; unfold givC; rw [HL'.out]
        have HXT := Lib.hid (ktext_any x.name (HF.out.alloc (.cells #[.int .i64 x.cat, .string x.name, .slice A' n' c'] 27)) (by have := HS.out; omega) hok.2)
        unfold Taking at HXT
        have hne : wo.heap.size ≠ g := by have := HF.out.lt; omega
        unfold maxLen at hcap'
        clear hx hok hin
        by_cases h2 : textC x.name ≤ mk
        · rw [decide_eq_true h2] at HXT
          have H2 := Lib.hid h2
          clear h2
          by_cases h3 : n' ≤ mk - textC x.name
          · have d3 := decide_eq_true h3
            have H3 := Lib.hid h3
            clear h3
            go_wp2_with (first
              | (go_at_call 40; (with_reducible refine HXT.out.mono ?_); rintro e w2 ⟨rfl, hb, hw⟩; have B2 := Lib.hid hb; have W2 := Lib.hid (hw H2.out); have BX := Lib.hid ((Ob.made wo 27 #[.int .i64 x.cat, .string x.name, .slice A' n' c']).keep (hb.heap (by simp) hne)); have g2 := BX.out.cell 2; have HT3 := Lib.hid (takes_any (n := n') W2.out (by have := HS.out; omega) (by unfold maxLen; omega)); unfold Taking at HT3; rw [d3] at HT3; clear hb hw)
              | (go_at_call 39; (with_reducible refine HT3.out.mono ?_); rintro e w3 ⟨rfl, hb, hw⟩; have B3 := Lib.hid hb; have W3 := Lib.hid (hw H3.out); have BX3 := Lib.hid (BX.out.keep (hb.heap BX.out.lt hne)); have g3 := BX3.out.cell 2; clear hb hw))
            go_loopw [38] (fun i wq => ∃ k2 m2 : Nat, k2 ≤ n' ∧ i = .int .i64 k2 ∧ sumC valC (x.bag.take k2) + m2 = mk - textC x.name - n' ∧ Lf wq g m2 ∧ Only g wo wq) (fun i _ => n' - (intOf i).toNat)
            case atStart => exact ⟨0, mk - textC x.name - n', Nat.zero_le _, rfl, by rw [sumC_zero]; omega, W3.out, (Only.alloc _ _ _).trans (B2.out.trans B3.out)⟩
            case round =>
              obtain ⟨wq, hwq⟩ : ∃ wq, wq = wr := ⟨wr, rfl⟩
              subst hwq
              obtain ⟨k2, m2, hk2, rfl, hs, hlf, hb⟩ := hrel
              have HS2 := Lib.hid hs
              have HB2 := Lib.hid hb
              have HF2 := Lib.hid hlf
              clear hs hb hlf
              by_cases hlt2 : k2 < n'
              · obtain ⟨b2, o2, y, rfl, hRb2, hbl2, hy, hoky, ⟨f0, f1, f2⟩⟩ := (HIN.out.keep (HB2.out.kept HR.out) (fun _ h _ => h)).at_ hlt2
                have HY := Lib.hid hy
                have HSY := Lib.hid (sumC_le (f := valC) hy)
                have HEY : Hid (valC y = textC y.s) := rfl
                have HYT := Lib.hid (ktext_any y.s (HF2.out.alloc (.cells #[.int .i64 y.k, .int .i64 y.n, .string y.s] 42)) (by have := HS2.out; have := HS.out; omega) hoky.2.2)
                unfold Taking at HYT
                clear hy hoky
                by_cases h4 : textC y.s ≤ m2
                · rw [decide_eq_true h4] at HYT
                  have H4 := Lib.hid h4
                  clear h4
                  go_wp2_with (go_at_call 40; (with_reducible refine HYT.out.mono ?_); rintro e w4 ⟨rfl, hb, hw⟩; have B4 := Lib.hid hb; have W4 := Lib.hid (hw H4.out); clear hb hw)
                  go_roundw
                  case rel => exact ⟨k2 + 1, m2 - textC y.s, by omega, by go_num, by rw [sumC_take HY.out, HEY.out]; have := HS2.out; have := H4.out; omega, W4.out, HB2.out.trans ((Only.alloc _ _ _).trans B4.out)⟩
                  case measure => simp [intOf]; omega
                · rw [decide_eq_false h4] at HYT
                  have H4 := Lib.hid h4
                  clear h4
                  go_wp2_with (go_at_call 40; (with_reducible refine HYT.out.mono ?_); rintro e w4 ⟨rfl, hb, hw⟩; have B4 := Lib.hid hb; clear hb hw)
                  go_ret
                  have hbad : ¬ cc ≤ 1200 := by
                    have := HC.out; have := HS.out; have := H1.out; have := HSX.out; have := HEX.out; have := H2.out; have := H3.out; have := HS2.out; have := HSY.out; have := HEY.out; have := H4.out
                    omega
                  exact ⟨ret_bool (decide_eq_false hbad).symm, HG.out _ (HB.out.trans (HB2.out.trans ((Only.alloc _ _ _).trans B4.out)))⟩
              · obtain rfl : k2 = n' := by omega
                go_wp2
                go_roundw
                case rel => exact ⟨k + 1, m2, by omega, by go_num, by rw [sumC_take HX.out, HEX.out]; have := HS2.out; rw [sumC_all HL'.out] at this; have := HS.out; have := H2.out; have := H3.out; omega, HF2.out, HB.out.trans HB2.out⟩
                case measure => simp [intOf]; omega
          · have d3 := decide_eq_false h3
            have H3 := Lib.hid h3
            clear h3
            go_wp2_with (first
              | (go_at_call 40; (with_reducible refine HXT.out.mono ?_); rintro e w2 ⟨rfl, hb, hw⟩; have B2 := Lib.hid hb; have W2 := Lib.hid (hw H2.out); have BX := Lib.hid ((Ob.made wo 27 #[.int .i64 x.cat, .string x.name, .slice A' n' c']).keep (hb.heap (by simp) hne)); have g2 := BX.out.cell 2; have HT3 := Lib.hid (takes_any (n := n') W2.out (by have := HS.out; omega) (by unfold maxLen; omega)); unfold Taking at HT3; rw [d3] at HT3; clear hb hw)
              | (go_at_call 39; (with_reducible refine HT3.out.mono ?_); rintro e w3 ⟨rfl, hb, hw⟩; have B3 := Lib.hid hb; clear hb hw))
            go_ret
            have hbad : ¬ cc ≤ 1200 := by
              have := HC.out; have := HS.out; have := H1.out; have := HSX.out; have := HEX.out; have := H2.out; have := H3.out
              omega
            exact ⟨ret_bool (decide_eq_false hbad).symm, HG.out _ (HB.out.trans ((Only.alloc _ _ _).trans (B2.out.trans B3.out)))⟩
        · rw [decide_eq_false h2] at HXT
          have H2 := Lib.hid h2
          clear h2
          go_wp2_with (go_at_call 40; (with_reducible refine HXT.out.mono ?_); rintro e w2 ⟨rfl, hb, hw⟩; have B2 := Lib.hid hb; clear hb hw)
          go_ret
          have hbad : ¬ cc ≤ 1200 := by
            have := HC.out; have := HS.out; have := H1.out; have := HSX.out; have := HEX.out; have := H2.out
            omega
          exact ⟨ret_bool (decide_eq_false hbad).symm, HG.out _ (HB.out.trans ((Only.alloc _ _ _).trans B2.out))⟩
      · obtain rfl : k = n := by omega
        go_wp2
        go_ret
        have hs := HS.out
        rw [sumC_all HL.out] at hs
        have := HC.out
        have := H1.out
        exact ⟨ret_bool (decide_eq_true (by omega)).symm, HG.out _ HB.out⟩
  · rw [decide_eq_false h1] at HT
    have H1 := Lib.hid h1
    clear h1
    go_enter Try.func12, Try.ntmps12
    go_wp2_with (go_at_call 39; refine HT.out.mono ?_; rintro e w1 ⟨rfl, hb, hw⟩; have B1 := Lib.hid hb; clear hb hw)
    go_ret
    have hbad : ¬ cc ≤ 1200 := by have := HC.out; have := H1.out; omega
    exact ⟨ret_bool (decide_eq_false hbad).symm, HG.out _ B1.out⟩
end Go.Proofs.Ytmpldpfgnakbkaa
/- bailiffkeep.Asks: a request in new memory. -/
namespace Go.Proofs.Ytmpldpfgnakbkaa
set_option linter.unusedVariables false
open Go.RowKit

/-- A row of the call's own of attributes whose bags lie anywhere but in it. -/
def Og (w : World) (base : Nat) (A : Option Addr) (n c : Nat) (l : List Giv) : Prop := Ow 3 (GivAt w (Nb 0 (.slice A n c))) w base 27 A n c l ∧ base ≤ w.heap.size
theorem Og.of_gr {w : World} {base n c : Nat} {A : Option Addr} {l : List Giv} (h : Gr 3 GivAt w base 27 A n c l) : Og w base A n c l :=
  ⟨h.1.mapP fun vs x _ hp => hp.keep (Kept.refl _ _) (fun b hb _ => ⟨Nat.zero_le _, hb.2⟩), h.2⟩
theorem Og.below {w w' : World} {base n c : Nat} {A : Option Addr} {l : List Giv} (h : Og w base A n c l) (hb : Below w.heap.size w w') : Og w' base A n c l :=
  ⟨(h.1.mapP (fun vs x _ hp => hp.keep (Kept.all hb _) (fun _ h _ => h))).below hb, Nat.le_trans h.2 hb.size⟩
theorem Og.gvs {w : World} {base n c : Nat} {A : Option Addr} {l : List Giv} (h : Og w base A n c l) (hn : n ≤ 1000000) : Gvs w (fun _ => True) A n c l :=
  (h.1.mapP (fun vs x _ hp => hp.keep (Kept.refl _ _) (fun _ _ _ => trivial))).rw (by omega) (fun _ _ _ => trivial)
/-- One more, whose bag may lie anywhere. -/
theorem Og.push {w : World} {base n c : Nat} {A : Option Addr} {l : List Giv} {A1 : Option Addr} {n1 c1 : Nat} {g : Giv} (h : Og w base A n c l) (hok : g.ok) (hx : Vls w (Nb 0 (.slice A n c)) A1 n1 c1 g.bag) (hn : n < 1000000) :
    ∃ A' c' w', (Builtin.append_ #[22, 22] 22 #[.slice A n c, .slice (some ⟨w.heap.size, 0, none⟩) 1 1]).run Try.prog (w.alloc (.cells #[.int .i64 g.cat, .string g.name, .slice A1 n1 c1] 27)) = .ok (.slice A' (n + 1) c') w' ∧ Og w' base A' (n + 1) c' (l ++ [g]) ∧ Below base w w' := by
  obtain ⟨i, hi, hz, hs, hb⟩ := info_of givinfo
  have hbase := h.2
  have a1 : Below w.heap.size w (w.alloc (.cells #[.int .i64 g.cat, .string g.name, .slice A1 n1 c1] 27)) := (Below.refl _ _).alloc (Nat.le_refl _) _
  have h' := Og.below h a1
  have hlit : Rw 3 (GivAt (w.alloc (.cells #[.int .i64 g.cat, .string g.name, .slice A1 n1 c1] 27)) (Nb 0 (.slice A n c))) (w.alloc (.cells #[.int .i64 g.cat, .string g.name, .slice A1 n1 c1] 27)) (fun _ => True) (some ⟨w.heap.size, 0, none⟩) 1 1 [g] := by
    have := Rw.lit (P := GivAt (w.alloc (.cells #[.int .i64 g.cat, .string g.name, .slice A1 n1 c1] 27)) (Nb 0 (.slice A n c))) (R := fun _ => True) w 27 (fun _ => [.int .i64 g.cat, .string g.name, .slice A1 n1 c1]) [g] (n := 1) rfl (by omega) trivial (fun _ _ => rfl) (fun y hy => by simp at hy; subst hy; exact GivAt.keep ⟨A1, n1, c1, rfl, hok, hx⟩ (Kept.all a1 _) (fun _ h _ => h))
    simpa using this
  obtain ⟨A', c', w', hrun, hown, hbel, hg, hob⟩ := Ow.app (ty := 22) Try.underlying22 hi hz hs hb rfl (by omega) (by omega) h'.1 hlit (GivAt.one) (by omega) h'.2
  refine ⟨A', c', w', hrun, ⟨hown.mapP fun vs x _ hp => hp.keep ⟨hg.size, fun b hR hlt => hg.block b hlt hR.2⟩ (fun b hR hlt => ⟨hR.1, ?_⟩), Nat.le_trans h'.2 hbel.size⟩, (a1.mono hbase).trans hbel⟩
  rcases hob with e | e
  · rw [e]; exact hR.2
  · rw [e]
    intro he
    injection he with he
    omega

/-- Bags that aren't long. -/
def FewB (l : List Giv) : Prop := ∀ g ∈ l, g.bag.length ≤ 100000
set_option maxRecDepth 100000 in
set_option maxHeartbeats 1600000 in
theorem asks_any {w : World} {R : Nat → Prop} {A : Option Addr} {n c : Nat} {l : List Giv} (h : Gvs w R A n c l) (hf : FewB l) (hn : n ≤ 100000) :
    Calls Try.prog 14 #[.slice A n c] w fun e w' => ∃ A' c', e = .returned (.slice A' n c') ∧ Below w.heap.size w w' ∧ Gr 3 GivAt w' w.heap.size 27 A' n c' l := by
  have hle := Rw.le h
  have hcap := Rw.cap h
  have HL := Lib.hid (Rw.len h)
  unfold maxLen at hcap
  have H := Lib.hid h
  have HF := Lib.hid hf
  clear h hf
  go_enter Try.func14, Try.ntmps14
  go_wp2
  go_loopw [3, 8] (fun out i wr => ∃ (k : Nat) (A' : Option Addr) (c' : Nat), k ≤ n ∧ i = .int .i64 k ∧ out = .slice A' k c' ∧ Gr 3 GivAt wr w.heap.size 27 A' k c' (l.take k) ∧ Below w.heap.size w wr) (fun out i _ => n - (intOf i).toNat)
  case atStart => exact ⟨0, none, 0, Nat.zero_le _, rfl, rfl, Gr.nil _ _ (Nat.le_refl _), Below.refl _ _⟩
  case round =>
    obtain ⟨k, A', c', hk, rfl, rfl, ho, hb⟩ := hrel
    have HO := Lib.hid ho
    have HB := Lib.hid hb
    clear ho hb
    by_cases hlt : k < n
    · obtain ⟨b, o, x, Ax, nx, cx, rfl, hRb, hbl, hx, hok, ⟨x0, x1, x2⟩, hin⟩ := (H.out.keep (Kept.all HB.out R) (fun _ h _ => h)).at_ hlt
      have HX := Lib.hid hx
      have HK := Lib.hid hok
      have hlim : nx ≤ 100000 := by have := HF.out x (List.mem_of_getElem? hx); have := Rw.len hin; omega
      obtain ⟨xc, xn, xb⟩ := x
      simp only at x0 x1 x2 hin
      have D0 := (Below.refl wr.heap.size wr).alloc (Nat.le_refl _) (.cells #[.int .i64 xc, .string xn, .slice Ax nx cx] 27)
      obtain ⟨A5, c5, w5, r5, b5, v5⟩ := copy_bag (hin.keep (Kept.all D0 R) (fun _ h _ => h)) (by omega)
      rw [size_al] at r5 b5 v5
      have q1 := Ob.below (Ob.made wr 27 #[.int .i64 xc, .string xn, .slice Ax nx cx]) b5 (by omega)
      have q4 := q1.frozen 2
      have q5 := q1.put 2 (.slice A5 nx c5)
      have d1 : Below wr.heap.size wr (w5.setCell ⟨wr.heap.size, 2, none⟩ (.slice A5 nx c5)) := (D0.trans (b5.mono (by omega))).setCell (Nat.le_refl _) _
      have v6 : Vls (w5.setCell ⟨wr.heap.size, 2, none⟩ (.slice A5 nx c5)) (Nb w.heap.size (.slice A' k c')) A5 nx c5 xb :=
        v5.keep ⟨by simp [World.setCell], fun b hb _ => Below.heap_setCell _ _ _ _ (by have h1 : wr.heap.size + 1 ≤ b := hb; show b ≠ wr.heap.size; omega)⟩ (fun b hb _ => HO.out.apart b (by have h1 : wr.heap.size + 1 ≤ b := hb; omega))
      obtain ⟨A2, c2, w2, r2, o2, b2⟩ := push_giv (g := ⟨xc, xn, xb⟩) (Gr.below keeps_giv HO.out d1) HK.out v6 (by omega)
      have hz : (w5.setCell ⟨wr.heap.size, 2, none⟩ (.slice A5 nx c5)).heap.size = w5.heap.size := by simp [World.setCell]
      rw [hz] at r2
      simp only at r2
      have R5 := Lib.hid r5
      have R2 := Lib.hid r2
      have O2 := Lib.hid o2
      have B2 := Lib.hid (HB.out.trans ((d1.mono HB.out.size).trans b2))
      have Q5 := Lib.hid q5
      have z2 := q1.cell 2
      have z0 := q1.cell 0
      have z1 := q1.cell 1
      have HZ := Lib.hid hz
      clear hx hok hin D0 r5 b5 v5 q1 q5 d1 v6 hz r2 o2 b2
      go_wp2_with (first
        | (at_builtin; refine wpList_append_run (o := ⟨some 15, _, _, _, _, _⟩) rfl _ _ _ _ rfl rfl rfl R5.out ?_)
        | (at_builtin; refine wpList_append_run (o := ⟨some 20, _, _, _, _, _⟩) rfl _ _ _ _ rfl rfl rfl R2.out ?_))
      go_roundw
      case rel => exact ⟨k + 1, A2, c2, by omega, by go_num, rfl, by rw [take_one HX.out]; exact O2.out, B2.out⟩
      case measure => simp [intOf]; omega
    · obtain rfl : k = n := by omega
      go_wp2
      go_ret
      have ho := HO.out
      rw [List.take_of_length_le (by have := HL.out; omega)] at ho
      exact ⟨A', c', rfl, HB.out, ho⟩
end Go.Proofs.Ytmpldpfgnakbkaa
/- apart: the same attribute in memory of its own. -/
namespace Go.Proofs.Ytmpldpfgnakbkaa
set_option linter.unusedVariables false
open Go.RowKit Go.Sort

theorem giv_ret {fn : Func} {p : Tmp} {tmps : Array Value} {w : World} {g : Nat} {k : Int} {s : ByteArray} {A : Option Addr} {n c : Nat} (h : fn.results = #[.cell p 27]) (hp : tmps.getD p undef = .pointer (some ⟨g, 0, none⟩)) (hg : Ob w g 27 #[.int .i64 k, .string s, .slice A n c]) :
    (results fn tmps).run Try.prog w = .ok (.agg #[.int .i64 k, .string s, .slice A n c]) w :=
  results_cell_row h tmps w g _ _ (0, 0) _ hp hg Try.underlying27 rfl (by kernel_rfl)
set_option maxRecDepth 100000 in
set_option maxHeartbeats 4000000 in
theorem apart_any {w : World} {R : Nat → Prop} {A : Option Addr} {n c : Nat} (g : Giv) (hs : g.name.size ≤ 1000000) (h : Vls w R A n c g.bag) (hsh : Shorts g.bag) (hn : n ≤ 100000) :
    Calls Try.prog 53 #[.agg #[.int .i64 g.cat, .string g.name, .slice A n c]] w fun e w' => ∃ A' c', e = .returned (.agg #[.int .i64 g.cat, .string g.name, .slice A' n c']) ∧ Below w.heap.size w w' ∧ Vls w' (fun b => w.heap.size ≤ b) A' n c' g.bag := by
  obtain ⟨gc, gn, gb⟩ := g
  simp only at hs h hsh ⊢
  have HCL := Lib.hid (fun W => clone_any gn W hs)
  have B0 := Lib.hid (((Below.refl w.heap.size w).alloc (Nat.le_refl _) (.cells #[.int .i64 gc, .string gn, .slice A n c] 27)).alloc (by rw [size_al]; omega) (.cells #[.int .i64 0, .string ⟨#[]⟩, .slice none 0 0] 27))
  have OB : Ob ((w.alloc (.cells #[.int .i64 gc, .string gn, .slice A n c] 27)).alloc (.cells #[.int .i64 0, .string ⟨#[]⟩, .slice none 0 0] 27)) w.heap.size 27 #[.int .i64 gc, .string gn, .slice A n c] := (Ob.made w _ _).keep (Below.heap_alloc _ _ _ (by rw [size_al]; omega))
  have OR : Ob ((w.alloc (.cells #[.int .i64 gc, .string gn, .slice A n c] 27)).alloc (.cells #[.int .i64 0, .string ⟨#[]⟩, .slice none 0 0] 27)) (w.heap.size + 1) 27 #[.int .i64 0, .string ⟨#[]⟩, .slice none 0 0] := by
    have := Ob.made (w.alloc (.cells #[.int .i64 gc, .string gn, .slice A n c] 27)) 27 #[.int .i64 0, .string ⟨#[]⟩, .slice none 0 0]
    rwa [size_al] at this
  have HSZ : Hid (((w.alloc (.cells #[.int .i64 gc, .string gn, .slice A n c] 27)).alloc (.cells #[.int .i64 0, .string ⟨#[]⟩, .slice none 0 0] 27)).heap.size = w.heap.size + 2) := by show _ = _; rw [size_al, size_al]
  have CP := Lib.hid (fun W (hW : Below w.heap.size w W) => copied_any (h.keep (Kept.all hW R) (fun _ h _ => h)) hsh hn)
  go_enter Try.func53, Try.ntmps53
  go_upto_region 1 with fail
  generalize (w.alloc (.cells #[.int .i64 gc, .string gn, .slice A n c] 27)).alloc (.cells #[.int .i64 0, .string ⟨#[]⟩, .slice none 0 0] 27) = W1 at *
  have KO : Hid (∀ W, Below W1.heap.size W1 W → W.cell? ⟨w.heap.size, 0, none⟩ = some (.int .i64 gc) ∧ W.cell? ⟨w.heap.size, 1, none⟩ = some (.string gn) ∧ W.cell? ⟨w.heap.size, 2, none⟩ = some (.slice A n c)) := by
    show ∀ W, _ → _
    intro W hb
    have o := OB.below hb (by have := HSZ.out; omega)
    exact ⟨o.cell 0, o.cell 1, o.cell 2⟩
  have HOR := Lib.hid OR
  clear OB OR h
  refine wp_region_held_tail (fun w' => Below W1.heap.size W1 w') 9 (by kernel_rfl) (by kernel_rfl) ?_
  intro G
  change HeadW _ _ _ _ _ _ _ _ _ _ (W1.drewN 1)
  have S0 := Lib.hid (below_drewN (Below.refl W1.heap.size W1) 1)
  generalize W1.drewN 1 = v0 at *
  refine HeadW_take (i := 0) (v := ?_) G rfl (by kernel_rfl) (by kernel_rfl) (by kernel_rfl) (fun _ _ _ h => h) (Or.inl ⟨by rfl, ?_⟩) S0.out ?_
  rotate_left
  · intro wz hS
    go_simp
    try with_reducible rfl
  refine HeadW_take (i := 1) (v := ?_) G rfl (by kernel_rfl) (by kernel_rfl) (by kernel_rfl) (fun _ _ _ h => h) (Or.inl ⟨by rfl, ?_⟩) S0.out ?_
  rotate_left
  · intro wz hS
    have hk1 := (KO.out _ hS).1
    go_simp
    try with_reducible rfl
  refine HeadW_take (i := 2) (v := ?_) G rfl (by kernel_rfl) (by kernel_rfl) (by kernel_rfl) (fun _ _ _ h => h) (Or.inl ⟨by rfl, ?_⟩) S0.out ?_
  rotate_left
  · intro wz hS
    go_simp
    try with_reducible rfl
  refine HeadW_take (i := 3) (v := ?_) G rfl (by kernel_rfl) (by kernel_rfl) (by kernel_rfl) (fun _ _ _ h => h) (Or.inl ⟨by rfl, ?_⟩) S0.out ?_
  rotate_left
  · intro wz hS
    have hk1 := (KO.out _ hS).2.1
    go_simp
    try with_reducible rfl
  refine HeadW_take (i := 5) (v := ?_) G rfl (by kernel_rfl) (by kernel_rfl) (by kernel_rfl) (fun _ _ _ h => h) (Or.inl ⟨by rfl, ?_⟩) S0.out ?_
  rotate_left
  · intro wz hS
    go_simp
    try with_reducible rfl
  refine HeadW_take (i := 6) (v := ?_) G rfl (by kernel_rfl) (by kernel_rfl) (by kernel_rfl) (fun _ _ _ h => h) (Or.inl ⟨by rfl, ?_⟩) S0.out ?_
  rotate_left
  · intro wz hS
    have hk1 := (KO.out _ hS).2.2
    go_simp
    try with_reducible rfl
  refine HeadW_ready (rs := [4]) (by kernel_rfl) rfl rfl ?_
  refine AllW.cons rfl (fun K hK => ?_) AllW.nil
  go_simp
  refine (HCL.out _).mono ?_
  rintro e v2 ⟨rfl, hb⟩
  have S2 := Lib.hid (S0.out.trans (hb.mono S0.out.size))
  refine hK _ _ S2.out ?_
  clear hK K hb
  refine HeadW_ready (rs := [7]) (by kernel_rfl) rfl rfl ?_
  refine AllW.cons rfl (fun K hK => ?_) AllW.nil
  go_simp
  refine (CP.out _ (B0.out.trans (S2.out.mono B0.out.size))).mono ?_
  rintro e v3 ⟨A3, c3, rfl, hb, hv⟩
  have S3 := Lib.hid (S2.out.trans (hb.mono S2.out.size))
  have V3 := Lib.hid hv
  have Z2 := Lib.hid S2.out.size
  refine hK _ _ S3.out ?_
  clear hK K hb hv
  refine HeadW_ready (rs := [8]) (by kernel_rfl) rfl rfl ?_
  refine AllW.cons rfl (fun K hK => ?_) AllW.nil
  go_simp
  refine hK _ _ S3.out ?_
  clear hK K
  intro _
  refine ⟨by kernel_rfl, ?_⟩
  simp only [List.drop_succ_cons, List.drop_zero]
  have OR3 := HOR.out.below S3.out (by have := HSZ.out; omega)
  have P1 := OR3.put 0 (.int .i64 gc)
  have P2 := P1.put 1 (.string gn)
  have P3 := Lib.hid (P2.put 2 (.slice A3 n c3))
  have f0 := OR3.frozen 0
  have f1 := P1.frozen 1
  have f2 := P2.frozen 2
  have z0 := OR3.cell 0
  have z1 := P1.cell 1
  have z2 := P2.cell 2
  clear OR3 P1 P2
  go_wp2_with fail
  refine bodyPost_ret (giv_ret rfl rfl (by simpa using P3.out)) rfl ?_
  have hsz := HSZ.out
  have hsz3 := S3.out.size
  have hlow : Below w.heap.size w v3 := B0.out.trans (S3.out.mono B0.out.size)
  refine ⟨A3, c3, rfl, ((hlow.setCell (p := ⟨w.heap.size + 1, 0, none⟩) (by show _ ≤ w.heap.size + 1; omega) _).setCell (p := ⟨w.heap.size + 1, 1, none⟩) (by show _ ≤ w.heap.size + 1; omega) _).setCell (p := ⟨w.heap.size + 1, 2, none⟩) (by show _ ≤ w.heap.size + 1; omega) _, ?_⟩
  refine V3.out.keep ⟨by simp [World.setCell], fun b hb _ => ?_⟩ (fun b hb _ => ?_)
  · have hb' : v2.heap.size ≤ b := hb
    have := Z2.out
    rw [Below.heap_setCell _ _ _ _ (by show b ≠ w.heap.size + 1; omega), Below.heap_setCell _ _ _ _ (by show b ≠ w.heap.size + 1; omega), Below.heap_setCell _ _ _ _ (by show b ≠ w.heap.size + 1; omega)]
  · have hb' : v2.heap.size ≤ b := hb
    have := Z2.out
    show w.heap.size ≤ b
    omega
end Go.Proofs.Ytmpldpfgnakbkaa
/- A store of an attribute into a row of the call's own. -/
namespace Go.Proofs.Ytmpldpfgnakbkaa
set_option linter.unusedVariables false
open Go.RowKit

theorem flatten_set3 {a b c : Value} : ∀ {raw : List (List Value)} {j : Nat}, (∀ y ∈ raw, y.length = 3) → j < raw.length → (raw.set j [a, b, c]).flatten = ((raw.flatten.set (j * 3) a).set (j * 3 + 1) b).set (j * 3 + 2) c
  | [], _, _, h => by simp at h
  | y :: raw, 0, hk, _ => by
    have := hk y (by simp)
    match y, this with
    | [y0, y1, y2], _ => rfl
  | y :: raw, j + 1, hk, h => by
    have hy := hk y (by simp)
    have ih := flatten_set3 (a := a) (b := b) (c := c) (raw := raw) (j := j) (fun z hz => hk z (by simp [hz])) (by simpa using h)
    match y, hy with
    | [y0, y1, y2], _ =>
      rw [List.set_cons_succ, List.flatten_cons, ih, List.flatten_cons, show (j + 1) * 3 = j * 3 + 1 + 1 + 1 by omega]
      rfl
/-- What lies from a higher block on lies from a lower one on. -/
theorem Gr.less {w : World} {base base' n c : Nat} {A : Option Addr} {l : List Giv} (h : Gr 3 GivAt w base 27 A n c l) (hb : base' ≤ base) : Gr 3 GivAt w base' 27 A n c l := by
  obtain ⟨⟨raw, ⟨h0, h1⟩, h2, h3, h4, h5⟩, hbs⟩ := h
  refine ⟨⟨raw, ⟨h0, ?_⟩, h2, h3, h4, fun j vs x a b => (h5 j vs x a b).keep (Kept.refl _ _) (fun k hk _ => ⟨Nat.le_trans hb hk.1, hk.2⟩)⟩, Nat.le_trans hb hbs⟩
  rcases h1 with h1 | ⟨g, cap, cur, a, b, r⟩
  · exact .inl h1
  · exact .inr ⟨g, cap, cur, a, Nat.le_trans hb b, r⟩
/-- Another attribute in the place of one. -/
theorem Gr.put_giv {w : World} {base n c : Nat} {A : Option Addr} {l : List Giv} {A1 : Option Addr} {n1 c1 j : Nat} {g : Giv} (h : Gr 3 GivAt w base 27 A n c l) (hj : j < n) (hok : g.ok) (hx : Vls w (Nb base (.slice A n c)) A1 n1 c1 g.bag) :
    ∃ b u0 u1 u2, A = some ⟨b, 0, none⟩ ∧ base ≤ b ∧ b < w.heap.size ∧ (w.cell? ⟨b, j * 3, none⟩ = some u0 ∧ (w.setCell ⟨b, j * 3, none⟩ (.int .i64 g.cat)).cell? ⟨b, j * 3 + 1, none⟩ = some u1 ∧ ((w.setCell ⟨b, j * 3, none⟩ (.int .i64 g.cat)).setCell ⟨b, j * 3 + 1, none⟩ (.string g.name)).cell? ⟨b, j * 3 + 2, none⟩ = some u2) ∧
      (w.frozen? ⟨b, j * 3, none⟩ = false ∧ (w.setCell ⟨b, j * 3, none⟩ (.int .i64 g.cat)).frozen? ⟨b, j * 3 + 1, none⟩ = false ∧ ((w.setCell ⟨b, j * 3, none⟩ (.int .i64 g.cat)).setCell ⟨b, j * 3 + 1, none⟩ (.string g.name)).frozen? ⟨b, j * 3 + 2, none⟩ = false) ∧
      Only b w (((w.setCell ⟨b, j * 3, none⟩ (.int .i64 g.cat)).setCell ⟨b, j * 3 + 1, none⟩ (.string g.name)).setCell ⟨b, j * 3 + 2, none⟩ (.slice A1 n1 c1)) ∧
      Gr 3 GivAt (((w.setCell ⟨b, j * 3, none⟩ (.int .i64 g.cat)).setCell ⟨b, j * 3 + 1, none⟩ (.string g.name)).setCell ⟨b, j * 3 + 2, none⟩ (.slice A1 n1 c1)) base 27 A n c (l.set j g) := by
  obtain ⟨⟨raw, h1, h2, h3, h4, h5⟩, hbs⟩ := h
  rcases h1.2 with ⟨hv, hn⟩ | ⟨b, cap, cur, hv, hb, hg, hnc, hcm, hcs, ht⟩
  · omega
  · injection hv with e1 e2 e3
    subst e1 e3
    have hlt : b < w.heap.size := by
      rcases Nat.lt_or_ge b w.heap.size with hlt | hge
      · exact hlt
      · rw [Array.getElem?_eq_none hge] at hg; cases hg
    have hr : raw[j]? = some raw[j] := List.getElem?_eq_getElem (by omega)
    have hlen := h4 _ (List.getElem_mem (show j < raw.length by omega))
    have hfl : raw.flatten.length = n * 3 := by rw [flatten_len h4, h2]
    have hob : Ob w b 27 cur := hg
    have hcu : ∀ i : Nat, i < n * 3 → i < cur.size := fun i hi => by
      have := h1.cells (g := b) rfl i _ (List.getElem?_eq_getElem (by rw [hfl]; exact hi))
      have add : (⟨b, 0, none⟩ : Addr).add i = ⟨b, i, none⟩ := by by_cases hi0 : i = 0 <;> simp [Addr.add, hi0]
      rw [add, hob.cell] at this
      exact (Array.getElem?_eq_some_iff.1 this).1
    obtain ⟨s1, t1⟩ := h1.stored (j * 3) (.int .i64 g.cat)
    obtain ⟨s2, t2⟩ := s1.stored (j * 3 + 1) (.string g.name)
    obtain ⟨s3, t3⟩ := s2.stored (j * 3 + 2) (.slice A1 n1 c1)
    have o1 := hob.put (j * 3) (.int .i64 g.cat)
    have o2 := o1.put (j * 3 + 1) (.string g.name)
    have hon : Only b w (((w.setCell ⟨b, j * 3, none⟩ (.int .i64 g.cat)).setCell ⟨b, j * 3 + 1, none⟩ (.string g.name)).setCell ⟨b, j * 3 + 2, none⟩ (.slice A1 n1 c1)) := ((Only.refl.setCell (p := ⟨b, j * 3, none⟩) rfl _).setCell (p := ⟨b, j * 3 + 1, none⟩) rfl _).setCell (p := ⟨b, j * 3 + 2, none⟩) rfl _
    have K : Kept (Nb base (.slice (some ⟨b, 0, none⟩) n c)) w (((w.setCell ⟨b, j * 3, none⟩ (.int .i64 g.cat)).setCell ⟨b, j * 3 + 1, none⟩ (.string g.name)).setCell ⟨b, j * 3 + 2, none⟩ (.slice A1 n1 c1)) :=
      ⟨hon.le, fun k hk hl => hon.heap hl (fun e => hk.2 (by rw [e]; rfl))⟩
    have c0 := hcu (j * 3) (by omega)
    have c1' := hcu (j * 3 + 1) (by omega)
    have c2' := hcu (j * 3 + 2) (by omega)
    refine ⟨b, cur[j * 3], _, _, rfl, hb, hlt, ⟨by rw [hob.cell]; exact Array.getElem?_eq_getElem c0, (o1.cell _).trans (Array.getElem?_eq_getElem (by simpa using c1')), (o2.cell _).trans (Array.getElem?_eq_getElem (by simpa using c2'))⟩, ⟨hob.frozen _, o1.frozen _, o2.frozen _⟩, hon, ⟨raw.set j [.int .i64 g.cat, .string g.name, .slice A1 n1 c1], ?_, by rw [List.length_set]; exact h2, by rw [List.length_set]; exact h3, fun z hz => ?_, fun i vs x a b' => ?_⟩, Nat.le_trans hbs hon.le⟩
    · rw [flatten_set3 h4 (by omega)]; exact s3
    · rcases List.mem_or_eq_of_mem_set hz with hz | hz
      · exact h4 z hz
      · rw [hz]; rfl
    · by_cases hij : j = i
      · subst hij
        rw [List.getElem?_set_self (by omega)] at a b'
        obtain rfl := Option.some.inj a
        obtain rfl := Option.some.inj b'
        exact ⟨A1, n1, c1, rfl, hok, hx.keep K (fun _ h _ => h)⟩
      · rw [List.getElem?_set_ne hij] at a b'
        exact (h5 i vs x a b').keep K (fun _ h _ => h)
end Go.Proofs.Ytmpldpfgnakbkaa
/- With: a request with one more attribute, or another one in its place. -/
namespace Go.Proofs.Ytmpldpfgnakbkaa
set_option linter.unusedVariables false
open Go.RowKit

/-- Names that aren't long. -/
def ShortN (l : List Giv) : Prop := ∀ g ∈ l, g.name.size ≤ 1000000
set_option maxRecDepth 100000 in
set_option maxHeartbeats 4000000 in
theorem awith_any {w : World} {R R1 : Nat → Prop} {A A1 : Option Addr} {n c n1 c1 : Nat} {l : List Giv} (g : Giv) (h : Gvs w R A n c l) (hs : ShortG l) (hm : ShortN l) (hn : n ≤ 100000) (hok : g.ok) (hg : Vls w R1 A1 n1 c1 g.bag) (hgs : Shorts g.bag) (hgn : n1 ≤ 100000) (hgm : g.name.size ≤ 1000000) :
    Calls Try.prog 24 #[.slice A n c, .agg #[.int .i64 g.cat, .string g.name, .slice A1 n1 c1]] w fun e w' => ∃ A' n' c', e = .returned (.slice A' n' c') ∧ Below w.heap.size w w' ∧ n' ≤ n + 1 ∧ Gr 3 GivAt w' w.heap.size 27 A' n' c' (withA l g) := by
  obtain ⟨gc, gn, gb⟩ := g
  have hle := Rw.le h
  have hcap := Rw.cap h
  have HL := Lib.hid (Rw.len h)
  unfold maxLen at hcap
  have HAL := Lib.hid ((Below.refl w.heap.size w).alloc (Nat.le_refl _) (.cells #[.int .i64 gc, .string gn, .slice A1 n1 c1] 27))
  have HOB := Lib.hid (Ob.made w 27 #[.int .i64 gc, .string gn, .slice A1 n1 c1])
  have HK := Lib.hid (fun W (hW : Below w.heap.size w W) => h.keep (Kept.all hW R) (fun _ h _ => h))
  have HP := Lib.hid (fun W (hW : Below w.heap.size w W) => place_any gc gn (h.keep (Kept.all hW R) (fun _ h _ => h)))
  have HA := Lib.hid (fun W (hW : Below w.heap.size w W) => apart_any (w := W) ⟨gc, gn, gb⟩ hgm (hg.keep (Kept.all hW R1) (fun _ h _ => h)) hgs hgn)
  have HOKG : Hid (Giv.ok ⟨gc, gn, gb⟩) := hok
  have HS := Lib.hid hs
  have HM := Lib.hid hm
  clear h hs hm hok hg hgs hgn hgm
  simp only at HA
  go_enter Try.func24, Try.ntmps24
  go_wp2
  go_loopw [5, 11] (fun out i wr => ∃ (k : Nat) (A' : Option Addr) (c' : Nat), k ≤ n ∧ i = .int .i64 k ∧ out = .slice A' k c' ∧ Gr 3 GivAt wr (w.heap.size + 1) 27 A' k c' (l.take k) ∧ Below (w.heap.size + 1) (w.alloc (.cells #[.int .i64 gc, .string gn, .slice A1 n1 c1] 27)) wr) (fun out i _ => n - (intOf i).toNat)
  case atStart => exact ⟨0, none, 0, Nat.zero_le _, rfl, rfl, Gr.nil _ _ (by rw [size_al]; omega), Below.refl _ _⟩
  case round =>
    obtain ⟨k, A', c', hk, rfl, rfl, ho, hb⟩ := hrel
    have HO := Lib.hid ho
    have HB := Lib.hid hb
    have HW := Lib.hid (HAL.out.trans (hb.mono (Nat.le_succ _)))
    have OBr := Lib.hid (HOB.out.below hb (Nat.lt_succ_self _))
    clear ho hb
    by_cases hlt : k < n
    · obtain ⟨b, o, x, Ax, nx, cx, rfl, hRb, hbl, hx, hok, ⟨x0, x1, x2⟩, hin⟩ := (HK.out wr HW.out).at_ hlt
      have HX := Lib.hid hx
      have HOK := Lib.hid hok
      obtain ⟨hsx, hbx⟩ := HS.out x (List.mem_of_getElem? hx)
      have hmx := HM.out x (List.mem_of_getElem? hx)
      have hlim : nx ≤ 100000 := by have := Rw.len hin; omega
      obtain ⟨xc, xn, xb⟩ := x
      simp only at x0 x1 x2 hin hmx hsx
      have D0 := Lib.hid ((Below.refl wr.heap.size wr).alloc (Nat.le_refl _) (.cells #[.int .i64 xc, .string xn, .slice Ax nx cx] 27))
      have AP := apart_any (w := wr.alloc (.cells #[.int .i64 xc, .string xn, .slice Ax nx cx] 27)) ⟨xc, xn, xb⟩ hmx (hin.keep (Kept.all D0.out R) (fun _ h _ => h)) hsx hlim
      simp only at AP
      have AP := Lib.hid AP
      clear hx hok hin hmx hsx hbx
      go_wp2_with (first
        | (go_at_call 53; refine AP.out.mono ?_; rintro e w1 ⟨A5, c5, rfl, hb1, hv1⟩
           have d1 := below_step D0.out hb1
           obtain ⟨A2, c2, w2, r2, o2, b2⟩ := push_giv (g := ⟨xc, xn, xb⟩) (Gr.below keeps_giv HO.out d1) HOK.out (hv1.keep (Kept.refl _ _) (fun b hb _ => HO.out.apart b (Nat.le_trans D0.out.size hb))) (by omega)
           simp only at r2
           have R2 := Lib.hid r2
           have O2 := Lib.hid o2
           have B2 := Lib.hid (HB.out.trans ((d1.mono (Nat.le_trans (by rw [size_al]; exact Nat.le_refl _) HB.out.size)).trans b2))
           clear hb1 hv1 d1 r2 o2 b2)
        | (at_builtin; refine wpList_append_run (o := ⟨some 19, _, _, _, _, _⟩) rfl _ _ _ _ rfl rfl rfl R2.out ?_))
      go_roundw
      case rel => exact ⟨k + 1, A2, c2, by omega, by go_num, rfl, by rw [take_one HX.out]; exact O2.out, B2.out⟩
      case measure => simp [intOf]; omega
    · obtain rfl : k = n := by omega
      have hg := HO.out
      rw [List.take_of_length_le (by have := HL.out; omega)] at hg
      have HGR := Lib.hid hg
      have b0 := OBr.out.cell 0
      have b1 := OBr.out.cell 1
      have b2 := OBr.out.cell 2
      clear hg
      by_cases hi : idxA l gc gn < l.length
      · have hp : placeI l gc gn = (idxA l gc gn : Int) := place_pos hi
        rw [hp] at HP
        have hin : idxA l gc gn < k := by have := HL.out; omega
        have HE : Hid (withA l ⟨gc, gn, gb⟩ = l.set (idxA l gc gn) ⟨gc, gn, gb⟩) := withA_pos hi
        obtain ⟨j, hj⟩ : ∃ j, j = idxA l gc gn := ⟨_, rfl⟩
        rw [← hj] at HP hin HE
        clear hj
        clear hp hi
        obtain ⟨bo, hbo⟩ : ∃ bo, A' = some ⟨bo, 0, none⟩ := by
          obtain ⟨bo, _, _, _, e, _⟩ := HGR.out.put_giv hin HOKG.out (A1 := none) (n1 := 0) (c1 := 0) (g := ⟨gc, gn, []⟩) (Rw.nil_ _ _ _ _)
          exact ⟨bo, e⟩
        subst hbo
        have hkc' : k ≤ c' := by
          have := Rw.le (Gr.rw keeps_giv HGR.out (by omega)); exact this
        go_wp2_with (first
          | (go_at_call 41; (with_reducible refine (HP.out _ HW.out).mono ?_); rintro e w1 ⟨rfl, hb1⟩
             have W1 := Lib.hid (HW.out.trans (hb1.mono HW.out.size))
             have OB1 := Lib.hid (OBr.out.below hb1 (Ob.lt OBr.out))
             have p0 := OB1.out.cell 0
             have p1 := OB1.out.cell 1
             have p2 := OB1.out.cell 2
             have G1 := Lib.hid (Gr.below keeps_giv HGR.out hb1)
             clear hb1)
          | (go_at_call 53; (with_reducible refine (HA.out _ W1.out).mono ?_); rintro e w2 ⟨A5, c5, rfl, hb2, hv2⟩
             have W2 := Lib.hid (W1.out.trans (hb2.mono W1.out.size))
             obtain ⟨b', u0, u1, u2, ha, hbb, hblt, ⟨t0, t1, t2⟩, ⟨f0, f1, f2⟩, hon, hset⟩ := (Gr.below keeps_giv G1.out hb2).put_giv hin HOKG.out (A1 := A5) (n1 := n1) (c1 := c5) (hv2.keep (Kept.refl _ _) (fun b hb _ => G1.out.apart b hb))
             injection ha with ha
             injection ha with ha
             subst ha
             simp only at t1 t2 f1 f2 hon hset
             have HON := Lib.hid hon
             have HSET := Lib.hid hset
             have HBB := Lib.hid hbb
             clear hb2 hv2 hon hset hbb))
        go_ret
        exact ⟨some ⟨bo, 0, none⟩, k, c', rfl, W2.out.trans (HON.out.below W2.out.size (by have := HBB.out; omega)), Nat.le_succ _, by rw [HE.out]; exact HSET.out.less (Nat.le_succ _)⟩
      · have hp : placeI l gc gn = -1 := place_neg hi
        rw [hp] at HP
        have HE : Hid (withA l ⟨gc, gn, gb⟩ = l ++ [⟨gc, gn, gb⟩]) := if_neg hi
        clear hp hi
        go_wp2_with (first
          | (go_at_call 41; (with_reducible refine (HP.out _ HW.out).mono ?_); rintro e w1 ⟨rfl, hb1⟩
             have W1 := Lib.hid (HW.out.trans (hb1.mono HW.out.size))
             have OB1 := Lib.hid (OBr.out.below hb1 (Ob.lt OBr.out))
             have p0 := OB1.out.cell 0
             have p1 := OB1.out.cell 1
             have p2 := OB1.out.cell 2
             have G1 := Lib.hid (Gr.below keeps_giv HGR.out hb1)
             clear hb1)
          | (go_at_call 53; (with_reducible refine (HA.out _ W1.out).mono ?_); rintro e w2 ⟨A5, c5, rfl, hb2, hv2⟩
             have W2 := Lib.hid (W1.out.trans (hb2.mono W1.out.size))
             obtain ⟨A6, c6, w6, r6, o6, b6⟩ := push_giv (g := ⟨gc, gn, gb⟩) (Gr.below keeps_giv G1.out hb2) HOKG.out (hv2.keep (Kept.refl _ _) (fun b hb _ => G1.out.apart b hb)) (by omega)
             simp only at r6
             have R6 := Lib.hid r6
             have O6 := Lib.hid o6
             have B6 := Lib.hid (W2.out.trans (b6.mono (Nat.le_succ _)))
             clear hb2 hv2 r6 o6 b6)
          | (at_builtin; refine wpList_append_run (o := ⟨some 33, _, _, _, _, _⟩) rfl _ _ _ _ rfl rfl rfl R6.out ?_))
        go_ret
        exact ⟨A6, k + 1, c6, rfl, B6.out, Nat.le_refl _, by rw [HE.out]; exact O6.out.less (Nat.le_succ _)⟩
end Go.Proofs.Ytmpldpfgnakbkaa
/- Requests that may be gone through in a while: none of their parts is long. -/
namespace Go.Proofs.Ytmpldpfgnakbkaa
set_option linter.unusedVariables false
open Go.RowKit

theorem few_short {l : List Giv} (h : fewC l ≤ 1200) : ShortG l := fun g hg => by
  obtain ⟨h1, h2, h3⟩ := few_each h hg
  exact ⟨fun v hv => by have := h3 v hv; omega, by omega⟩
theorem few_bags {l : List Giv} (h : fewC l ≤ 1200) : FewB l := fun g hg => by
  obtain ⟨h1, h2, h3⟩ := few_each h hg
  omega
theorem few_names {l : List Giv} (h : fewC l ≤ 1200) : ShortN l := fun g hg => by
  obtain ⟨h1, h2, h3⟩ := few_each h hg
  omega
/-- An attribute alone, laid as a literal. -/
theorem one_giv {w : World} {R : Nat → Prop} {A : Option Addr} {n c : Nat} (g : Giv) (hok : g.ok) (h : Vls w R A n c g.bag) : Gvs (w.alloc (.cells #[.int .i64 g.cat, .string g.name, .slice A n c] 27)) (fun _ => True) (some ⟨w.heap.size, 0, none⟩) 1 1 [g] := by
  have a1 : Below w.heap.size w (w.alloc (.cells #[.int .i64 g.cat, .string g.name, .slice A n c] 27)) := (Below.refl _ _).alloc (Nat.le_refl _) _
  have := Rw.lit (P := GivAt (w.alloc (.cells #[.int .i64 g.cat, .string g.name, .slice A n c] 27)) (fun _ => True)) (R := fun _ => True) w 27 (fun _ => [.int .i64 g.cat, .string g.name, .slice A n c]) [g] (n := 1) rfl (by omega) trivial (fun _ _ => rfl) (fun y hy => by simp at hy; subst hy; exact GivAt.keep ⟨A, n, c, rfl, hok, h⟩ (Kept.all a1 _) (fun _ _ _ => trivial))
  exact this
theorem Gr.gvs {w : World} {base n c : Nat} {A : Option Addr} {l : List Giv} (h : Gr 3 GivAt w base 27 A n c l) (hn : n ≤ 1000000) : Gvs w (fun b => base ≤ b) A n c l := Gr.rw keeps_giv h (by omega)
theorem with_short {l : List Giv} {g : Giv} (h : ShortG l) (hg : Shorts g.bag ∧ g.bag.length ≤ 100000) : ShortG (withA l g) := fun x hx => by
  rcases with_mem hx with rfl | hx
  · exact hg
  · exact h x hx
theorem with_names {l : List Giv} {g : Giv} (h : ShortN l) (hg : g.name.size ≤ 1000000) : ShortN (withA l g) := fun x hx => by
  rcases with_mem hx with rfl | hx
  · exact hg
  · exact h x hx
theorem right_one {g : Giv} (h : rightA [g] = 0) : attrB ⟨g.cat, g.name, false⟩ = true ∧ bagB g.bag = true := (right_iff.1 h).2.1 g (by simp)
theorem with_getE {l : List Giv} {g : Giv} {a : Atr} (h : ¬ (a.cat = g.cat ∧ a.name = g.name)) : getE (withA l g) a = getE l a := by
  unfold getE getB
  rw [with_other h]
theorem with_getR {l : List Giv} {g : Giv} {a : Atr} (h : ¬ (a.cat = g.cat ∧ a.name = g.name)) : getR (withA l g) a = getR l a := by
  unfold getR
  rw [with_getE h]
  unfold getB
  rw [with_other h]
theorem with_get {l : List Giv} {g : Giv} : getE (withA l g) ⟨g.cat, g.name, false⟩ = 0 ∧ getR (withA l g) ⟨g.cat, g.name, false⟩ = g.bag := by
  have e : getE (withA l g) ⟨g.cat, g.name, false⟩ = 0 := by unfold getE; simp
  refine ⟨e, ?_⟩
  unfold getR
  rw [if_pos e]
  exact with_idx.2.1
end Go.Proofs.Ytmpldpfgnakbkaa
/- The statements' own helpers of stage 12: attr, op, lit, num, truth; rows of nodes put together. -/
namespace Go.Proofs.Ytmpldpfgnakbkaa
set_option linter.unusedVariables false
open Go.RowKit Go.Sort

theorem node_ret {fn : Func} {p : Tmp} {tmps : Array Value} {w : World} {g : Nat} {o k m ac : Int} {s an : ByteArray} {am : Bool} (h : fn.results = #[.cell p 51]) (hp : tmps.getD p undef = .pointer (some ⟨g, 0, none⟩)) (hg : Ob w g 51 #[.int .i64 o, .int .i64 k, .int .i64 m, .string s, .int .i64 ac, .string an, .bool am]) :
    (results fn tmps).run Try.prog w = .ok (.agg #[.int .i64 o, .int .i64 k, .int .i64 m, .string s, .int .i64 ac, .string an, .bool am]) w :=
  results_cell_row h tmps w g _ _ (0, 0) _ hp hg Try.underlying51 rfl (by kernel_rfl)
theorem lattr_any (c : Int) (s : ByteArray) (w : World) : Calls Try.prog 27 #[.int .i64 c, .string s] w fun e w' => e = .returned (.agg #[.int .i64 2, .int .i64 0, .int .i64 0, .string ⟨#[]⟩, .int .i64 c, .string s, .bool false]) ∧ Below w.heap.size w w' := by
  go_enter Try.func27, Try.ntmps27
  go_wp2_with fail
  try simp only [Exit.inBlock, Exit.then]
  refine bodyPost_ret (node_ret rfl rfl (Ob.made _ _ _)) rfl ?_
  exact ⟨rfl, below1 _ _⟩
theorem lop_any (f : Int) (w : World) : Calls Try.prog 28 #[.int .i64 f] w fun e w' => e = .returned (.agg #[.int .i64 f, .int .i64 0, .int .i64 0, .string ⟨#[]⟩, .int .i64 0, .string ⟨#[]⟩, .bool false]) ∧ Below w.heap.size w w' := by
  go_enter Try.func28, Try.ntmps28
  go_wp2_with fail
  try simp only [Exit.inBlock, Exit.then]
  refine bodyPost_ret (node_ret rfl rfl (Ob.made _ _ _)) rfl ?_
  exact ⟨rfl, below1 _ _⟩
theorem llit_any (k m : Int) (s : ByteArray) (w : World) : Calls Try.prog 29 #[.agg #[.int .i64 k, .int .i64 m, .string s]] w fun e w' => e = .returned (.agg #[.int .i64 1, .int .i64 k, .int .i64 m, .string s, .int .i64 0, .string ⟨#[]⟩, .bool false]) ∧ Below w.heap.size w w' := by
  go_enter Try.func29, Try.ntmps29
  go_wp2_with fail
  try simp only [Exit.inBlock, Exit.then]
  refine bodyPost_ret (node_ret rfl rfl (by have := Ob.made (w.alloc (.cells #[.int .i64 k, .int .i64 m, .string s] 42)) 51 #[.int .i64 1, .int .i64 k, .int .i64 m, .string s, .int .i64 0, .string ⟨#[]⟩, .bool false]; rw [size_al] at this; exact this)) rfl ?_
  exact ⟨rfl, below2 _ _ _⟩
theorem lnum_any (m : Int) (w : World) : Calls Try.prog 30 #[.int .i64 m] w fun e w' => e = .returned (.agg #[.int .i64 2, .int .i64 m, .string ⟨#[]⟩]) ∧ Below w.heap.size w w' := by
  go_enter Try.func30, Try.ntmps30
  go_wp2_with fail
  try simp only [Exit.inBlock, Exit.then]
  refine bodyPost_ret (box_ret rfl rfl (Bx.made _ _ _ _)) rfl ?_
  exact ⟨rfl, below1 _ _⟩
theorem ltruth_any (b : Bool) (w : World) : Calls Try.prog 32 #[.bool b] w fun e w' => e = .returned (.agg #[.int .i64 1, .int .i64 (truthN b), .string ⟨#[]⟩]) ∧ Below w.heap.size w w' := by
  cases b
  all_goals
    go_enter Try.func32, Try.ntmps32
    go_wp2_with fail
    try simp only [Exit.inBlock, Exit.then]
    refine bodyPost_ret (box_ret rfl rfl (Bx.made _ _ _ _)) rfl ?_
    exact ⟨rfl, below1 _ _⟩
theorem ltruth_t (w : World) : Calls Try.prog 32 #[.bool true] w fun e w' => e = .returned (.agg #[.int .i64 1, .int .i64 1, .string ⟨#[]⟩]) ∧ Below w.heap.size w w' := ltruth_any true w
theorem ltruth_f (w : World) : Calls Try.prog 32 #[.bool false] w fun e w' => e = .returned (.agg #[.int .i64 1, .int .i64 0, .string ⟨#[]⟩]) ∧ Below w.heap.size w w' := ltruth_any false w
theorem Nds.up {w w' : World} {R : Nat → Prop} {A : Option Addr} {n c : Nat} {l : List Nod} (h : Nds w R A n c l) (hb : Below w.heap.size w w') : Nds w' R A n c l := h.keep (Kept.all hb R) (fun _ h _ => h)
theorem Gvs.up {w w' : World} {R : Nat → Prop} {A : Option Addr} {n c : Nat} {l : List Giv} (h : Gvs w R A n c l) (hb : Below w.heap.size w w') : Gvs w' R A n c l := h.keep (Kept.all hb R) (fun _ h _ => h)
/-- Nodes laid as a literal. -/
theorem nds_lit (w : World) (l : List Nod) (hn : l.length ≤ 1000) (hok : ∀ x ∈ l, x.ok) : Nds (w.alloc (.cells (l.flatMap Nod.cells).toArray 51)) (fun _ => True) (some ⟨w.heap.size, 0, none⟩) l.length l.length l := Nds.lit w l rfl (by omega) trivial hok
/-- append([]Node{}, l...). -/
theorem nds_copy {w : World} {R : Nat → Prop} {A0 : Option Addr} {p0 c0 : Nat} {L0 : List Nod} (h0 : Nds w R A0 p0 c0 L0) (h : p0 ≤ 1000) :
    ∃ A5 c5 w5, (Builtin.append_ #[56, 56] 56 #[.slice (some ⟨w.heap.size, 0, none⟩) 0 0, .slice A0 p0 c0]).run Try.prog (w.alloc (.cells #[] 51)) = .ok (.slice A5 p0 c5) w5 ∧ Below w.heap.size w w5 ∧ w5.ownsRow w.heap.size 51 7 (.slice A5 p0 c5) p0 (L0.flatMap Nod.cells) := by
  have e1 : Below w.heap.size w (w.alloc (.cells #[] 51)) := (Below.refl _ _).alloc (Nat.le_refl _) _
  obtain ⟨A5, c5, w5, r5, o5, b5, _, _⟩ := append_nods (ty := 56) (xs := []) (own_none w 51 7) (h0.keep (Kept.all e1 R) (fun _ h _ => h)) (by omega) e1.size
  rw [Nat.zero_add] at r5 o5
  exact ⟨A5, c5, w5, r5, e1.trans b5, o5⟩
/-- .. and nodes behind it, laid as a literal. -/
theorem nds_more {w0 w : World} {base : Nat} {A : Option Addr} {n c : Nat} {l : List Nod} (h0 : w0.ownsRow base 51 7 (.slice A n c) n (l.flatMap Nod.cells)) (hb : base ≤ w0.heap.size) (hk : Below w0.heap.size w0 w) (hl : l.length = n) (hok : ∀ x ∈ l, x.ok) (L : List Nod) (hL : ∀ x ∈ L, x.ok) (hn : n + L.length ≤ 1000) :
    ∃ A5 c5 w5, (Builtin.append_ #[56, 56] 56 #[.slice A n c, .slice (some ⟨w.heap.size, 0, none⟩) L.length L.length]).run Try.prog (w.alloc (.cells (L.flatMap Nod.cells).toArray 51)) = .ok (.slice A5 (n + L.length) c5) w5 ∧
      Below base w w5 ∧ Nds w5 (fun _ => True) A5 (n + L.length) c5 (l ++ L) := by
  have h1 := nds_lit w L (by omega) hL
  have hw : Below w0.heap.size w0 (w.alloc (.cells (L.flatMap Nod.cells).toArray 51)) := hk.alloc hk.size _
  obtain ⟨A5, c5, w5, r5, o5, b5, _, _⟩ := append_nods (ty := 56) (own_then h0 hw) h1 (by omega) (Nat.le_trans hb hw.size)
  refine ⟨A5, c5, w5, r5, ((Below.refl w.heap.size w).alloc (Nat.le_refl _) _ |>.mono (Nat.le_trans hb hk.size)).trans b5, ?_⟩
  exact Rw.flat_own o5 (by omega) (by rw [List.length_append, hl]) (fun _ => rfl) (fun y hy => (List.mem_append.1 hy).elim (hok y) (hL y)) (fun _ _ _ => trivial)
/-- A request of one attribute, laid as a literal behind its bag. -/
theorem giv_lit {w : World} (g : Giv) (hok : g.ok) (hb : ∀ v ∈ g.bag, v.ok) (hn : g.bag.length ≤ 1000) :
    Gvs ((w.alloc (.cells (g.bag.flatMap Vl.cells).toArray 42)).alloc (.cells #[.int .i64 g.cat, .string g.name, .slice (some ⟨w.heap.size, 0, none⟩) g.bag.length g.bag.length] 27)) (fun _ => True) (some ⟨w.heap.size + 1, 0, none⟩) 1 1 [g] := by
  have h1 : Vls (w.alloc (.cells (g.bag.flatMap Vl.cells).toArray 42)) (fun _ => True) (some ⟨w.heap.size, 0, none⟩) g.bag.length g.bag.length g.bag := Rw.lit w _ Vl.cells g.bag rfl (by omega) trivial (fun _ _ => rfl) fun x hx => ⟨rfl, hb x hx⟩
  have := one_giv g hok h1
  rwa [size_al] at this
end Go.Proofs.Ytmpldpfgnakbkaa
/- ExprRuns: the walk. -/
namespace Go.Proofs.Ytmpldpfgnakbkaa
set_option linter.unusedVariables false
open Go.RowKit Go.Sort

theorem below_al {w w' : World} {o : Obj} (h : Below w.heap.size w w') : Below w.heap.size w (w'.alloc o) := h.alloc h.size o
/-- Value, where it is known what comes out. -/
theorem eval_is {ask : List Giv} {w : World} {R R2 : Nat → Prop} {A A2 : Option Addr} {n c n2 c2 : Nat} {l : List Nod} {k m ee : Int} {s : ByteArray} (hv : valP ask l = (⟨k, m, s⟩, ee)) (h : Nds w R A n c l) (hA : Gvs w R2 A2 n2 c2 ask) (hG : ShortG ask) :
    Calls Try.prog 31 #[.slice A n c, .slice A2 n2 c2] w fun e w' => e = .returned (.tuple #[.agg #[.int .i64 k, .int .i64 m, .string s], .int .i64 ee]) ∧ Below w.heap.size w w' := by
  have := eval_any h hA hG
  rw [hv] at this
  exact this
theorem gvs_nil (w : World) : Gvs w (fun _ => True) none 0 0 [] := Rw.nil_ _ _ _ _
theorem short_nil : ShortG [] := fun g hg => by cases hg
def xL : List Nod := [⟨2, ⟨0, 0, ⟨#[]⟩⟩, ⟨3, ⟨#[120]⟩, false⟩⟩, ⟨3, ⟨0, 0, ⟨#[]⟩⟩, ⟨0, ⟨#[]⟩, false⟩⟩, ⟨1, ⟨2, 1, ⟨#[]⟩⟩, ⟨0, ⟨#[]⟩, false⟩⟩, ⟨7, ⟨0, 0, ⟨#[]⟩⟩, ⟨0, ⟨#[]⟩, false⟩⟩]
def mL : List Nod := [⟨1, ⟨1, 0, ⟨#[]⟩⟩, ⟨0, ⟨#[]⟩, false⟩⟩, ⟨12, ⟨0, 0, ⟨#[]⟩⟩, ⟨0, ⟨#[]⟩, false⟩⟩]
def xG (l : List Vl) : Giv := ⟨3, ⟨#[120]⟩, l⟩
theorem v_and : valP [] (xL ++ mL) = (⟨1, 0, ⟨#[]⟩⟩, 0) := by decide +kernel
theorem v_none : valP [] xL = (⟨0, 0, ⟨#[]⟩⟩, 4) := by decide +kernel
theorem v_two : valP [xG [⟨2, 1, ⟨#[]⟩⟩, ⟨2, 2, ⟨#[]⟩⟩]] xL = (⟨0, 0, ⟨#[]⟩⟩, 4) := by decide +kernel
theorem v_one : valP [xG [⟨2, 0, ⟨#[]⟩⟩]] xL = (⟨1, 1, ⟨#[]⟩⟩, 0) := by decide +kernel
theorem short_two : ShortG [xG [⟨2, 1, ⟨#[]⟩⟩, ⟨2, 2, ⟨#[]⟩⟩]] := fun g hg => by
  simp at hg
  subst hg
  exact ⟨fun v hv => by simp [xG] at hv; rcases hv with rfl | rfl <;> decide, by decide⟩
theorem short_one : ShortG [xG [⟨2, 0, ⟨#[]⟩⟩]] := fun g hg => by
  simp at hg
  subst hg
  exact ⟨fun v hv => by simp [xG] at hv; subst hv; decide, by decide⟩
theorem xL_ok : ∀ x ∈ xL, x.ok := by decide
theorem mL_ok : ∀ x ∈ mL, x.ok := by decide
theorem xG_ok (l : List Vl) : (xG l).ok := ⟨(by decide : InI 3), (by decide : (⟨#[120]⟩ : ByteArray).size ≤ maxLen)⟩
theorem xG_two (w : World) : Gvs ((w.alloc (.cells #[.int .i64 2, .int .i64 1, .string ⟨#[]⟩, .int .i64 2, .int .i64 2, .string ⟨#[]⟩] 42)).alloc (.cells #[.int .i64 3, .string ⟨#[120]⟩, .slice (some ⟨w.heap.size, 0, none⟩) 2 2] 27)) (fun _ => True) (some ⟨w.heap.size + 1, 0, none⟩) 1 1 [xG [⟨2, 1, ⟨#[]⟩⟩, ⟨2, 2, ⟨#[]⟩⟩]] :=
  giv_lit (xG [⟨2, 1, ⟨#[]⟩⟩, ⟨2, 2, ⟨#[]⟩⟩]) (xG_ok _) (by decide) (by decide)
theorem xG_one (w : World) : Gvs ((w.alloc (.cells #[.int .i64 2, .int .i64 0, .string ⟨#[]⟩] 42)).alloc (.cells #[.int .i64 3, .string ⟨#[120]⟩, .slice (some ⟨w.heap.size, 0, none⟩) 1 1] 27)) (fun _ => True) (some ⟨w.heap.size + 1, 0, none⟩) 1 1 [xG [⟨2, 0, ⟨#[]⟩⟩]] :=
  giv_lit (xG [⟨2, 0, ⟨#[]⟩⟩]) (xG_ok _) (by decide) (by decide)

set_option maxRecDepth 100000 in
set_option maxHeartbeats 3200000 in
theorem eruns_any (w : World) : Calls Try.prog 5 #[] w fun e w' => e = .returned (.bool true) ∧ Below w.heap.size w w' := by
  go_enter Try.func5, Try.ntmps5
  go_wp2_with fail
  refine (lattr_any 3 ⟨#[120]⟩ _).mono ?_
  rintro e w1 ⟨rfl, hb⟩
  have B := Lib.hid (hb)
  clear hb
  go_wp2_with fail
  refine (lop_any 3 _).mono ?_
  rintro e w2 ⟨rfl, hb⟩
  have B := Lib.hid (below_step B.out hb)
  clear hb
  go_wp2_with fail
  refine (lnum_any 1 _).mono ?_
  rintro e w3 ⟨rfl, hb⟩
  have B := Lib.hid (below_step B.out hb)
  clear hb
  go_wp2_with fail
  refine (llit_any 2 1 ⟨#[]⟩ _).mono ?_
  rintro e w4 ⟨rfl, hb⟩
  have B := Lib.hid (below_step B.out hb)
  clear hb
  go_wp2_with fail
  refine (lop_any 7 _).mono ?_
  rintro e w5 ⟨rfl, hb⟩
  have B := Lib.hid (below_step B.out hb)
  clear hb
  have X : Hid (Nds (w5.alloc (.cells #[.int .i64 2, .int .i64 0, .int .i64 0, .string ⟨#[]⟩, .int .i64 3, .string ⟨#[120]⟩, .bool false, .int .i64 3, .int .i64 0, .int .i64 0, .string ⟨#[]⟩, .int .i64 0, .string ⟨#[]⟩, .bool false, .int .i64 1, .int .i64 2, .int .i64 1, .string ⟨#[]⟩, .int .i64 0, .string ⟨#[]⟩, .bool false, .int .i64 7, .int .i64 0, .int .i64 0, .string ⟨#[]⟩, .int .i64 0, .string ⟨#[]⟩, .bool false] 51)) (fun _ => True) (some ⟨w5.heap.size, 0, none⟩) 4 4 xL) := nds_lit w5 xL (by decide) xL_ok
  have SX := Lib.hid ((below_al (o := (.cells #[.int .i64 2, .int .i64 0, .int .i64 0, .string ⟨#[]⟩, .int .i64 3, .string ⟨#[120]⟩, .bool false, .int .i64 3, .int .i64 0, .int .i64 0, .string ⟨#[]⟩, .int .i64 0, .string ⟨#[]⟩, .bool false, .int .i64 1, .int .i64 2, .int .i64 1, .string ⟨#[]⟩, .int .i64 0, .string ⟨#[]⟩, .bool false, .int .i64 7, .int .i64 0, .int .i64 0, .string ⟨#[]⟩, .int .i64 0, .string ⟨#[]⟩, .bool false] 51)) B.out))
  obtain ⟨A5, c5, w6, r, hb, o5⟩ := nds_copy X.out (by decide)
  have RR19 := Lib.hid ((by rw [size_al] at r; exact r))
  have O5 := Lib.hid (o5)
  have S5 := Lib.hid (hb.size)
  have B := Lib.hid (below_step B.out (Below.lit hb))
  have KX := Lib.hid (hb)
  clear hb r
  clear o5
  go_wp2_with (at_builtin; refine wpList_append_run (o := ⟨some 19, _, _, _, _, _⟩) rfl _ _ _ _ rfl rfl rfl RR19.out ?_)
  refine (ltruth_f _).mono ?_
  rintro e w7 ⟨rfl, hb⟩
  have B := Lib.hid (below_step B.out hb)
  have KX := Lib.hid (below_step KX.out hb)
  have K6 := Lib.hid (hb)
  clear hb
  go_wp2_with fail
  refine (llit_any 1 0 ⟨#[]⟩ _).mono ?_
  rintro e w8 ⟨rfl, hb⟩
  have B := Lib.hid (below_step B.out hb)
  have KX := Lib.hid (below_step KX.out hb)
  have K6 := Lib.hid (below_step K6.out hb)
  clear hb
  go_wp2_with fail
  refine (lop_any 12 _).mono ?_
  rintro e w9 ⟨rfl, hb⟩
  have B := Lib.hid (below_step B.out hb)
  have KX := Lib.hid (below_step KX.out hb)
  have K6 := Lib.hid (below_step K6.out hb)
  clear hb
  obtain ⟨A6, c6, w10, r, hb, n6⟩ := nds_more (w := w9) O5.out S5.out K6.out rfl xL_ok mL mL_ok (by decide)
  have RR24 := Lib.hid (r)
  have N6 := Lib.hid (n6)
  have B := Lib.hid (B.out.trans (hb.mono SX.out.size))
  have KX := Lib.hid (KX.out.trans (hb.mono (Nat.le_refl _)))
  clear hb r
  clear n6
  go_wp2_with (at_builtin; refine wpList_append_run (o := ⟨some 24, _, _, _, _, _⟩) rfl _ _ _ _ rfl rfl rfl RR24.out ?_)
  refine (eval_is v_and N6.out (gvs_nil _) short_nil).mono ?_
  rintro e w11 ⟨rfl, hb⟩
  have B := Lib.hid (below_step B.out hb)
  have KX := Lib.hid (below_step KX.out hb)
  clear hb
  have RA := Lib.hid (Bx.made w11 1 0 ⟨#[]⟩)
  go_wp2_with fail
  refine (eval_is v_none (X.out.up (below_al (o := (.cells #[.int .i64 1, .int .i64 0, .string ⟨#[]⟩] 42)) KX.out)) (gvs_nil _) short_nil).mono ?_
  rintro e w12 ⟨rfl, hb⟩
  have B := Lib.hid (below_step B.out (Below.lit hb))
  have KX := Lib.hid (below_step KX.out (Below.lit hb))
  have KA := Lib.hid (hb)
  clear hb
  go_wp2_with fail
  refine (lnum_any 1 _).mono ?_
  rintro e w13 ⟨rfl, hb⟩
  have B := Lib.hid (below_step B.out (Below.lit hb))
  have KX := Lib.hid (below_step KX.out (Below.lit hb))
  have KA := Lib.hid (below_step KA.out (Below.lit hb))
  clear hb
  go_wp2_with fail
  refine (lnum_any 2 _).mono ?_
  rintro e w14 ⟨rfl, hb⟩
  have B := Lib.hid (below_step B.out hb)
  have KX := Lib.hid (below_step KX.out hb)
  have KA := Lib.hid (below_step KA.out hb)
  clear hb
  go_wp2_with fail
  refine (eval_is v_two (X.out.up (below_al (o := (.cells #[.int .i64 3, .string ⟨#[120]⟩, .slice (some ⟨w14.heap.size, 0, none⟩) 2 2] 27)) (below_al (o := (.cells #[.int .i64 2, .int .i64 1, .string ⟨#[]⟩, .int .i64 2, .int .i64 2, .string ⟨#[]⟩] 42)) KX.out))) (xG_two _) short_two).mono ?_
  rintro e w15 ⟨rfl, hb⟩
  have B := Lib.hid (below_step B.out (Below.lit (Below.lit hb)))
  have KX := Lib.hid (below_step KX.out (Below.lit (Below.lit hb)))
  have KA := Lib.hid (below_step KA.out (Below.lit (Below.lit hb)))
  clear hb
  go_wp2_with fail
  refine (lnum_any 0 _).mono ?_
  rintro e w16 ⟨rfl, hb⟩
  have B := Lib.hid (below_step B.out (Below.lit hb))
  have KX := Lib.hid (below_step KX.out (Below.lit hb))
  have KA := Lib.hid (below_step KA.out (Below.lit hb))
  clear hb
  go_wp2_with fail
  refine (eval_is v_one (X.out.up (below_al (o := (.cells #[.int .i64 3, .string ⟨#[120]⟩, .slice (some ⟨w16.heap.size, 0, none⟩) 1 1] 27)) (below_al (o := (.cells #[.int .i64 2, .int .i64 0, .string ⟨#[]⟩] 42)) KX.out))) (xG_one _) short_one).mono ?_
  rintro e w17 ⟨rfl, hb⟩
  have B := Lib.hid (below_step B.out (Below.lit (Below.lit hb)))
  have KX := Lib.hid (below_step KX.out (Below.lit (Below.lit hb)))
  have KA := Lib.hid (below_step KA.out (Below.lit (Below.lit hb)))
  clear hb
  have RB := Lib.hid (Bx.made w17 1 1 ⟨#[]⟩)
  have RA := Lib.hid (RA.out.then_ (below_al (o := (.cells #[.int .i64 1, .int .i64 1, .string ⟨#[]⟩] 42)) KA.out))
  have BB := Lib.hid ((below_al (o := (.cells #[.int .i64 1, .int .i64 1, .string ⟨#[]⟩] 42)) B.out))
  go_upto_region 6 with fail
  generalize hWZ : w17.alloc (.cells #[.int .i64 1, .int .i64 1, .string ⟨#[]⟩] 42) = WZ at *
  clear hWZ
  obtain ⟨x00, x01, x02⟩ := RA.out.grown
  obtain ⟨x10, x11, x12⟩ := RB.out.grown
  have Q0 := Lib.hid (fun d os => Calls.regrown_of (w := WZ) (d := d) (os := os) (ltruth_t _))
  have Q1 := Lib.hid (fun d os => Calls.regrown_of (w := WZ) (d := d) (os := os) (ltruth_f _))
  have e0 := fun W => (val_eq 1 0 1 0 ⟨#[]⟩ ⟨#[]⟩ W).trans (by rw [veq_true rfl])
  have e1 := fun W => (val_eq 1 1 1 1 ⟨#[]⟩ ⟨#[]⟩ W).trans (by rw [veq_true rfl])
  refine wp_region_quiet_below (by kernel_rfl) (by kernel_rfl) ?_
  repeat (go_big_quiet_step (first | (go_at_call 32; with_reducible exact Q0.out _ _) | (go_at_call 32; with_reducible exact Q1.out _ _)))
  refine wpQuiet_nil ?_
  intro _ hw'
  obtain ⟨⟨dq, osq⟩, hw''⟩ := hw'
  subst hw''
  go_wp2_with fail
  go_ret
  exact ⟨rfl, below_step BB.out (below_regrown WZ dq osq)⟩
theorem exprRuns_walk (w : World) : Calls Try.prog 5 #[] w fun e w' => e = .returned (.bool true) ∧ Below w.heap.size w w' := eruns_any w
end Go.Proofs.Ytmpldpfgnakbkaa
/- Arguments that come in: a slice of bytes as Sl. -/
namespace Go.Proofs.Ytmpldpfgnakbkaa
set_option linter.unusedVariables false
open Go.RowKit Go.ChangeShapes Go.WideShapes

theorem cell_lt {w : World} {p : Addr} {v : Value} (h : w.cell? p = some v) : p.block < w.heap.size := by
  rcases Nat.lt_or_ge p.block w.heap.size with hlt | hge
  · exact hlt
  · simp [World.cell?, Array.getElem?_eq_none hge] at h

theorem open_bytes {H : Type} {enc : TypeId × Value → H} {P : Program} {w : World} {base n c : Nat} {spare : Nat → Bool} {held : Bool} {t e : TypeId} {A : Option Addr} {d : DataW H} {p : List MemPlace}
    (ht : P.underlying t = some (.slice e)) (he : P.underlying e = some (.int .u8)) (hc : P.cellsOf e = 1) (h : DataW.Trod enc P w base spare held t (.slice A n c) d p) : ∃ l, Sl w w.heap.size A n c (bv l) := by
  obtain ⟨fuel, hf⟩ := h
  rcases open_ints ht he hc hf with ⟨hcs, _⟩ | ⟨a, len, cap, zs, hcs, _, hl, hm, hz, _, hcell, hwz⟩
  · simp [Value.cells] at hcs
    obtain ⟨rfl, rfl, rfl⟩ := hcs
    exact ⟨[], Sl.nil_ w _⟩
  · simp [Value.cells] at hcs
    obtain ⟨rfl, rfl, rfl⟩ := hcs
    have hzl : n ≤ zs.length := by rw [hz]; split <;> omega
    have hb : ∀ z ∈ zs, ((UInt8.ofNat z.toNat).toNat : Int) = z := by
      intro z hz'
      have := hwz z hz'
      simp only [Lit.wf, Bool.and_eq_true, decide_eq_true_eq] at this
      have h1 : (0 : Int) ≤ z := this.1
      have h2 : z ≤ 255 := this.2
      simp
      omega
    refine ⟨(zs.take n).map fun z => UInt8.ofNat z.toNat, by simp [bv]; omega, hl, hm, ?_⟩
    by_cases h0 : n = 0
    · exact .inl h0
    · right
      obtain ⟨b, o, spot⟩ := a
      have h00 := hcell 0 (by omega)
      have hspot : spot = none := by simpa [Addr.add] using World.cell?_spot h00
      subst hspot
      refine ⟨b, o, rfl, by have := cell_lt h00; simpa [Addr.add] using this, fun j u hj => ?_⟩
      have hjn : j < n := by
        rcases Nat.lt_or_ge j n with hlt | hge
        · exact hlt
        · rw [List.getElem?_eq_none (by simp [bv]; omega)] at hj; cases hj
      have hcj := hcell j (by omega)
      have ha : (⟨b, o, none⟩ : Addr).add j = ⟨b, o + j, none⟩ := by
        by_cases hj0 : j = 0 <;> simp [Addr.add, hj0]
      rw [ha] at hcj
      rw [hcj, ← hj]
      simp only [bv, List.map_map, List.getElem?_map, List.getElem?_take, hjn, if_true]
      rw [List.getElem?_eq_getElem (by omega : j < zs.length)]
      simp only [Option.map_some, Function.comp, List.getD, List.getElem?_eq_getElem (by omega : j < zs.length), Option.getD_some]
      rw [hb _ (List.getElem_mem _)]

theorem own_empty (w : World) (base e : Nat) (hb : base ≤ w.heap.size) : (w.alloc (.cells #[] e)).ownsRow base e 1 (.slice (some ⟨w.heap.size, 0, none⟩) 0 0) 0 [] :=
  ⟨rfl, .inr ⟨w.heap.size, 0, #[], rfl, hb, heap_alloc_new w _, Nat.le_refl _, by simp [maxLen], rfl, rfl⟩⟩

/-- An append whose run is known, under a guard that says yes. -/
theorem wpList_append_want {P : Program} {w w' : World} {ops : Array Oper} {rest : List Oper} {o : Oper} {a : Act} {Q : Exit → Act → World → Prop} (hgd : Region.wanted o (yielded ops a.tmps) = true) (s x : Operand) (t u : TypeId)
    (ho : o.op = .call { callee := .builtin .append, args := #[s, x], argTypes := #[t, u] }) {sv xv v' : Value} (hs : a.eval s = sv) (hx : a.eval x = xv)
    (hrun : (Builtin.append_ #[t, u] o.type #[sv, xv]).run P w = .ok v' w') (h : wpList P ops Q rest (a.put o.dst v') w') : wpList P ops Q (o :: rest) a w := by
  refine BigFrame.wpList_want hgd fun K hK => ?_
  unfold Oper.wp execOp
  simp only [ho, resolve, invoke, builtin, Sem.run_bind, Sem.run_pure, Result.andThen_ok, List.map_toArray, List.map_cons, List.map_nil, hs, hx, hrun]
  exact hK _ _ h
end Go.Proofs.Ytmpldpfgnakbkaa
/- Rows of structs that come in: what any of them asks. -/
namespace Go.Proofs.Ytmpldpfgnakbkaa
set_option linter.unusedVariables false
open Go.RowKit Go.ChangeShapes Go.WideShapes

section
variable {H : Type} {enc : TypeId × Value → H} {w : World} {base : Nat} {spare : Nat → Bool} {held : Bool}

/-- A datum whose strings, slices are no greater than may be. -/
def Wt (P : Program) (t : TypeId) (d : DataW H) : Prop := (d.weights P t).all (fun x => decide (x ≤ reachBytes)) = true
theorem wt_all {P : Program} {e : TypeId} : ∀ {l : List (DataW H)}, (DataW.weightsAll P e l).all (fun x => decide (x ≤ reachBytes)) = true → ∀ d ∈ l, Wt P e d
  | [], _, d, hd => by cases hd
  | x :: l, h, d, hd => by
    rw [DataW.weightsAll, List.all_append, Bool.and_eq_true] at h
    rcases List.mem_cons.1 hd with rfl | hd
    · exact h.1
    · exact wt_all h.2 d hd
theorem wt_slice {P : Program} {t e : TypeId} {a b : List (DataW H)} (ht : P.underlying t = some (.slice e)) (h : Wt P t (.slice a b)) : (a.length + b.length) * P.bytesOf e ≤ reachBytes ∧ ∀ d ∈ a, Wt P e d := by
  unfold Wt at h
  rw [DataW.weights] at h
  simp only [ht] at h
  rw [List.all_cons, List.all_append, Bool.and_eq_true, Bool.and_eq_true] at h
  exact ⟨by simpa using h.1, wt_all h.2.1⟩
theorem wt_each {P : Program} : ∀ {ts : List TypeId} {ds : List (DataW H)}, (DataW.weightsEach P ts ds).all (fun x => decide (x ≤ reachBytes)) = true → ∀ (i : Nat) t d, ts[i]? = some t → ds[i]? = some d → Wt P t d
  | [], _, _, _, _, _, ht, _ => by simp at ht
  | _ :: _, [], _, _, _, _, _, hd => by simp at hd
  | t :: ts, d :: ds, h, 0, t', d', ht, hd => by
    rw [DataW.weightsEach, List.all_append, Bool.and_eq_true] at h
    simp at ht hd
    subst ht hd
    exact h.1
  | t :: ts, d :: ds, h, i + 1, t', d', ht, hd => by
    rw [DataW.weightsEach, List.all_append, Bool.and_eq_true] at h
    exact wt_each h.2 i t' d' (by simpa using ht) (by simpa using hd)
theorem wt_struct {P : Program} {t : TypeId} {fs : Array Field} {parts : List (DataW H)} (ht : P.underlying t = some (.struct fs)) (h : Wt P t (.agg parts)) (i : Nat) (f : Field) (d : DataW H) (hf : fs[i]? = some f) (hd : parts[i]? = some d) : Wt P f.type d := by
  unfold Wt at h
  rw [DataW.weights] at h
  simp only [ht] at h
  exact wt_each h i f.type d (by simp [hf]) hd
theorem open_rows {P : Program} {α : Type} [Inhabited α] {e t : TypeId} {k fuel n c : Nat} {A : Option Addr} {x : DataW H × List MemPlace} {Pn : List Value → α → Prop} (ht : P.underlying t = some (.slice e)) (hC : P.cellsOf e = k) (hk : 0 < k)
    (hby : 0 < P.bytesOf e) (hel : ∀ m cs y, m < fuel → cs.length = k → Wt P e y.1 → DataW.trod enc P w base spare held m e cs = some y → ∃ z, Pn cs z) (hwt : Wt P t x.1) (h : DataW.trod enc P w base spare held fuel t [.slice A n c] = some x) : ∃ l, Rw k Pn w (fun _ => True) A n c l := by
  rcases DataW.trod_slice ht h with ⟨hcs, _⟩ | ⟨a, len, cap, elems, rest, m, hfu, hcs, hxe, hb, hl, hm, hlen, hx, _⟩
  · simp at hcs
    obtain ⟨rfl, rfl, rfl⟩ := hcs
    exact ⟨[], Rw.nil_ _ _ _ _⟩
  · simp at hcs
    obtain ⟨rfl, rfl, rfl⟩ := hcs
    subst hxe
    obtain ⟨hw1, hw2⟩ := wt_slice ht hwt
    have hbig : n ≤ 140737488351232 := by
      rw [List.length_map, List.length_map, hlen] at hw1
      have e1 : n * 1 ≤ (n + rest.length) * P.bytesOf e := Nat.mul_le_mul (by omega) hby
      have e2 : reachBytes = 140737488351232 := rfl
      omega
    have hall : ∀ i, i < n → ∃ z : α, ∃ cs : List Value, cs.length = k ∧ (∀ j, j < k → w.cell? ((a.add (i * k)).add j) = cs[j]?) ∧ Pn cs z := fun i hin => by
      have hi := hx i hin
      rw [hC, List.getElem?_eq_getElem (by omega)] at hi
      obtain ⟨cs, hc, hy⟩ := Option.bind_eq_some_iff.1 hi
      obtain ⟨_, hcl, hat⟩ := World.cells?_some hc
      obtain ⟨z, hz⟩ := hel m cs _ (by omega) hcl (hw2 _ (List.mem_map.2 ⟨_, List.getElem_mem (by omega), rfl⟩)) hy
      exact ⟨z, cs, hcl, hat, hz⟩
    obtain ⟨V, hV⟩ := Go.Deep.choose_lt hall
    refine ⟨(List.range n).map V, by simp, hl, ⟨hm, hbig⟩, ?_⟩
    by_cases h0 : n = 0
    · exact .inl h0
    · right
      obtain ⟨b, o, spot⟩ := a
      obtain ⟨cs0, hl0, hat0, _⟩ := hV 0 (by omega)
      have h00 := hat0 0 hk
      rw [List.getElem?_eq_getElem (by omega)] at h00
      have hspot : spot = none := by simpa [Addr.add] using World.cell?_spot h00
      subst hspot
      refine ⟨b, o, rfl, trivial, by have := cell_lt h00; simpa [Addr.add] using this, fun j x hj => ?_⟩
      rw [List.getElem?_map, Option.map_eq_some_iff] at hj
      obtain ⟨i, hi', rfl⟩ := hj
      have hjn : j < n := by have := (List.getElem?_eq_some_iff.1 hi').1; simpa using this
      have hij : i = j := by rw [List.getElem?_range hjn] at hi'; exact (Option.some.inj hi').symm
      subst hij
      obtain ⟨cs, hcl, hat, hz⟩ := hV i hjn
      refine ⟨cs, hcl, fun q v hq => ?_, hz⟩
      have hqk : q < k := by have := (List.getElem?_eq_some_iff.1 hq).1; omega
      have add : ∀ i k : Nat, ((⟨b, o, none⟩ : Addr).add i).add k = ⟨b, o + i + k, none⟩ := by
        intro i k
        by_cases hi0 : i = 0 <;> by_cases hk0 : k = 0 <;> simp [Addr.add, hi0, hk0]
      have := hat q hqk
      rw [add] at this
      rw [this, hq]

theorem len3 {α : Type} {cs : List α} (h : cs.length = 3) : ∃ v0 v1 v2, cs = [v0, v1, v2] := by
  match cs, h with
  | [v0, v1, v2], _ => exact ⟨v0, v1, v2, rfl⟩
theorem len5 {α : Type} {cs : List α} (h : cs.length = 5) : ∃ v0 v1 v2 v3 v4, cs = [v0, v1, v2, v3, v4] := by
  match cs, h with
  | [v0, v1, v2, v3, v4], _ => exact ⟨v0, v1, v2, v3, v4, rfl⟩
theorem len7 {α : Type} {cs : List α} (h : cs.length = 7) : ∃ v0 v1 v2 v3 v4 v5 v6, cs = [v0, v1, v2, v3, v4, v5, v6] := by
  match cs, h with
  | [v0, v1, v2, v3, v4, v5, v6], _ => exact ⟨v0, v1, v2, v3, v4, v5, v6, rfl⟩
theorem fields3 {P : Program} {e : TypeId} {f0 f1 f2 : Field} {fuel : Nat} {cs : List Value} {x : DataW H × List MemPlace} (he : P.underlying e = some (.struct #[f0, f1, f2])) (hwt : Wt P e x.1) (h : DataW.trod enc P w base spare held fuel e cs = some x) :
    ∃ m, fuel = m + 1 ∧ cs.length = P.cellsOf e ∧ ∃ y0 y1 y2, (Wt P f0.type y0.1 ∧ Wt P f1.type y1.1 ∧ Wt P f2.type y2.1) ∧ DataW.trod enc P w base spare held m f0.type ((cs.drop f0.offset).take (P.cellsOf f0.type)) = some y0 ∧ DataW.trod enc P w base spare held m f1.type ((cs.drop f1.offset).take (P.cellsOf f1.type)) = some y1 ∧ DataW.trod enc P w base spare held m f2.type ((cs.drop f2.offset).take (P.cellsOf f2.type)) = some y2 := by
  obtain ⟨ys, n', hn', hy, hlen, hyl, hf⟩ := DataW.trod_struct he h
  subst hy
  have hw := fun i f d => wt_struct he hwt i f d
  have ysn : ys.length = 3 := hyl
  match ys, ysn with
  | [y0, y1, y2], _ => exact ⟨n', hn', hlen, y0, y1, y2, ⟨hw 0 _ _ rfl rfl, hw 1 _ _ rfl rfl, hw 2 _ _ rfl rfl⟩, hf 0 _ rfl, hf 1 _ rfl, hf 2 _ rfl⟩
theorem fields5 {P : Program} {e : TypeId} {f0 f1 f2 f3 f4 : Field} {fuel : Nat} {cs : List Value} {x : DataW H × List MemPlace} (he : P.underlying e = some (.struct #[f0, f1, f2, f3, f4])) (hwt : Wt P e x.1) (h : DataW.trod enc P w base spare held fuel e cs = some x) :
    ∃ m, fuel = m + 1 ∧ cs.length = P.cellsOf e ∧ ∃ y0 y1 y2 y3 y4, (Wt P f0.type y0.1 ∧ Wt P f1.type y1.1 ∧ Wt P f2.type y2.1 ∧ Wt P f3.type y3.1 ∧ Wt P f4.type y4.1) ∧ DataW.trod enc P w base spare held m f0.type ((cs.drop f0.offset).take (P.cellsOf f0.type)) = some y0 ∧ DataW.trod enc P w base spare held m f1.type ((cs.drop f1.offset).take (P.cellsOf f1.type)) = some y1 ∧ DataW.trod enc P w base spare held m f2.type ((cs.drop f2.offset).take (P.cellsOf f2.type)) = some y2 ∧ DataW.trod enc P w base spare held m f3.type ((cs.drop f3.offset).take (P.cellsOf f3.type)) = some y3 ∧ DataW.trod enc P w base spare held m f4.type ((cs.drop f4.offset).take (P.cellsOf f4.type)) = some y4 := by
  obtain ⟨ys, n', hn', hy, hlen, hyl, hf⟩ := DataW.trod_struct he h
  subst hy
  have hw := fun i f d => wt_struct he hwt i f d
  have ysn : ys.length = 5 := hyl
  match ys, ysn with
  | [y0, y1, y2, y3, y4], _ => exact ⟨n', hn', hlen, y0, y1, y2, y3, y4, ⟨hw 0 _ _ rfl rfl, hw 1 _ _ rfl rfl, hw 2 _ _ rfl rfl, hw 3 _ _ rfl rfl, hw 4 _ _ rfl rfl⟩, hf 0 _ rfl, hf 1 _ rfl, hf 2 _ rfl, hf 3 _ rfl, hf 4 _ rfl⟩
theorem fields7 {P : Program} {e : TypeId} {f0 f1 f2 f3 f4 f5 f6 : Field} {fuel : Nat} {cs : List Value} {x : DataW H × List MemPlace} (he : P.underlying e = some (.struct #[f0, f1, f2, f3, f4, f5, f6])) (hwt : Wt P e x.1) (h : DataW.trod enc P w base spare held fuel e cs = some x) :
    ∃ m, fuel = m + 1 ∧ cs.length = P.cellsOf e ∧ ∃ y0 y1 y2 y3 y4 y5 y6, (Wt P f0.type y0.1 ∧ Wt P f1.type y1.1 ∧ Wt P f2.type y2.1 ∧ Wt P f3.type y3.1 ∧ Wt P f4.type y4.1 ∧ Wt P f5.type y5.1 ∧ Wt P f6.type y6.1) ∧ DataW.trod enc P w base spare held m f0.type ((cs.drop f0.offset).take (P.cellsOf f0.type)) = some y0 ∧ DataW.trod enc P w base spare held m f1.type ((cs.drop f1.offset).take (P.cellsOf f1.type)) = some y1 ∧ DataW.trod enc P w base spare held m f2.type ((cs.drop f2.offset).take (P.cellsOf f2.type)) = some y2 ∧ DataW.trod enc P w base spare held m f3.type ((cs.drop f3.offset).take (P.cellsOf f3.type)) = some y3 ∧ DataW.trod enc P w base spare held m f4.type ((cs.drop f4.offset).take (P.cellsOf f4.type)) = some y4 ∧ DataW.trod enc P w base spare held m f5.type ((cs.drop f5.offset).take (P.cellsOf f5.type)) = some y5 ∧ DataW.trod enc P w base spare held m f6.type ((cs.drop f6.offset).take (P.cellsOf f6.type)) = some y6 := by
  obtain ⟨ys, n', hn', hy, hlen, hyl, hf⟩ := DataW.trod_struct he h
  subst hy
  have hw := fun i f d => wt_struct he hwt i f d
  have ysn : ys.length = 7 := hyl
  match ys, ysn with
  | [y0, y1, y2, y3, y4, y5, y6], _ => exact ⟨n', hn', hlen, y0, y1, y2, y3, y4, y5, y6, ⟨hw 0 _ _ rfl rfl, hw 1 _ _ rfl rfl, hw 2 _ _ rfl rfl, hw 3 _ _ rfl rfl, hw 4 _ _ rfl rfl, hw 5 _ _ rfl rfl, hw 6 _ _ rfl rfl⟩, hf 0 _ rfl, hf 1 _ rfl, hf 2 _ rfl, hf 3 _ rfl, hf 4 _ rfl, hf 5 _ rfl, hf 6 _ rfl⟩
theorem slice_cells {P : Program} {t e : TypeId} {m : Nat} {v : Value} {y : DataW H × List MemPlace} (ht : P.underlying t = some (.slice e)) (h : DataW.trod enc P w base spare held m t [v] = some y) : ∃ A n c, v = .slice A n c := by
  rcases DataW.trod_slice ht h with ⟨hcs, _⟩ | ⟨a, len, cap, elems, rest, m, hfu, hcs, _⟩
  · exact ⟨none, 0, 0, by simpa using hcs⟩
  · exact ⟨some a, len, cap, by simpa using hcs⟩
theorem open_struct {P : Program} {t : TypeId} {fs : Array Field} {r : Reach} {b0 : Nat} {v : Value} {d : DataW H} {p : List MemPlace} (hs : P.underlying t = some (.struct fs)) (hv : Value.okWide P w r b0 t v) (h : DataW.Trod enc P w base spare held t v d p) :
    ∃ (cs : List Value) (m : Nat), v = .agg cs.toArray ∧ DataW.trod enc P w base spare held m t cs = some (d, p) := by
  obtain ⟨cs, rfl, hsz⟩ := WideShapes.okWide_struct hs hv
  obtain ⟨m, hm⟩ := h
  exact ⟨cs.toList, m, by simp, hm⟩
end
end Go.Proofs.Ytmpldpfgnakbkaa
/- Values and attributes that come in. -/
namespace Go.Proofs.Ytmpldpfgnakbkaa
set_option linter.unusedVariables false
open Go.RowKit Go.ChangeShapes Go.WideShapes

instance : Inhabited Atr := ⟨zeroA⟩
section
variable {H : Type} {enc : TypeId × Value → H} {w : World} {base : Nat} {spare : Nat → Bool} {held : Bool}

theorem open_atr_cells {m : Nat} {cs : List Value} {y : DataW H × List MemPlace} (hwt : Wt Try.prog 24 y.1) (h : DataW.trod enc Try.prog w base spare held m 24 cs = some y) : ∃ a : Atr, cs = a.cells ∧ a.ok := by
  obtain ⟨m', _, hlen, y0, y1, y2, ⟨q0, q1, q2⟩, g0, g1, g2⟩ := fields3 Try.underlying24 hwt h
  obtain ⟨v0, v1, v2, rfl⟩ := len3 (hlen.trans (show Try.prog.cellsOf 24 = 3 by kernel_rfl))
  have g0 : DataW.trod enc Try.prog w base spare held m' 3 (([v0, v1, v2] : List Value).drop 0 |>.take (Try.prog.cellsOf 3)) = some y0 := g0
  rw [show Try.prog.cellsOf 3 = 1 by kernel_rfl] at g0
  have g1 : DataW.trod enc Try.prog w base spare held m' 9 (([v0, v1, v2] : List Value).drop 1 |>.take (Try.prog.cellsOf 9)) = some y1 := g1
  rw [show Try.prog.cellsOf 9 = 1 by kernel_rfl] at g1
  have g2 : DataW.trod enc Try.prog w base spare held m' 4 (([v0, v1, v2] : List Value).drop 2 |>.take (Try.prog.cellsOf 4)) = some y2 := g2
  rw [show Try.prog.cellsOf 4 = 1 by kernel_rfl] at g2
  obtain ⟨x0, e0, _, w0⟩ := DataW.trod_int Try.underlying3 (show DataW.trod enc Try.prog w base spare held m' 3 [v0] = some y0 from g0)
  obtain ⟨x1, e1, _, w1⟩ := DataW.trod_string Try.underlying9 (show DataW.trod enc Try.prog w base spare held m' 9 [v1] = some y1 from g1)
  obtain ⟨x2, e2, _⟩ := DataW.trod_bool Try.underlying4 (show DataW.trod enc Try.prog w base spare held m' 4 [v2] = some y2 from g2)
  injection e0 with e0
  injection e1 with e1
  injection e2 with e2
  subst e0 e1 e2
  exact ⟨⟨x0, x1, x2⟩, rfl, wf_bounds w0, w1⟩
theorem open_vl_cells {m : Nat} {cs : List Value} {y : DataW H × List MemPlace} (hwt : Wt Try.prog 42 y.1) (h : DataW.trod enc Try.prog w base spare held m 42 cs = some y) : ∃ a : Vl, cs = a.cells ∧ a.ok := by
  obtain ⟨m', _, hlen, y0, y1, y2, ⟨q0, q1, q2⟩, g0, g1, g2⟩ := fields3 Try.underlying42 hwt h
  obtain ⟨v0, v1, v2, rfl⟩ := len3 (hlen.trans (show Try.prog.cellsOf 42 = 3 by kernel_rfl))
  have g0 : DataW.trod enc Try.prog w base spare held m' 3 (([v0, v1, v2] : List Value).drop 0 |>.take (Try.prog.cellsOf 3)) = some y0 := g0
  rw [show Try.prog.cellsOf 3 = 1 by kernel_rfl] at g0
  have g1 : DataW.trod enc Try.prog w base spare held m' 3 (([v0, v1, v2] : List Value).drop 1 |>.take (Try.prog.cellsOf 3)) = some y1 := g1
  rw [show Try.prog.cellsOf 3 = 1 by kernel_rfl] at g1
  have g2 : DataW.trod enc Try.prog w base spare held m' 9 (([v0, v1, v2] : List Value).drop 2 |>.take (Try.prog.cellsOf 9)) = some y2 := g2
  rw [show Try.prog.cellsOf 9 = 1 by kernel_rfl] at g2
  obtain ⟨x0, e0, _, w0⟩ := DataW.trod_int Try.underlying3 (show DataW.trod enc Try.prog w base spare held m' 3 [v0] = some y0 from g0)
  obtain ⟨x1, e1, _, w1⟩ := DataW.trod_int Try.underlying3 (show DataW.trod enc Try.prog w base spare held m' 3 [v1] = some y1 from g1)
  obtain ⟨x2, e2, _, w2⟩ := DataW.trod_string Try.underlying9 (show DataW.trod enc Try.prog w base spare held m' 9 [v2] = some y2 from g2)
  injection e0 with e0
  injection e1 with e1
  injection e2 with e2
  subst e0 e1 e2
  exact ⟨⟨x0, x1, x2⟩, rfl, wf_bounds w0, wf_bounds w1, w2⟩
set_option maxRecDepth 100000 in
theorem open_atr {r : Reach} {b0 : Nat} {v : Value} {d : DataW H} {p : List MemPlace} (hv : Value.okWide Try.prog w r b0 24 v) (hwt : Wt Try.prog 24 d) (h : DataW.Trod enc Try.prog w base spare held 24 v d p) : ∃ a : Atr, v = .agg #[.int .i64 a.cat, .string a.name, .bool a.must] ∧ a.ok := by
  obtain ⟨cs, m, rfl, hm⟩ := open_struct Try.underlying24 hv h
  obtain ⟨a, rfl, hok⟩ := open_atr_cells hwt hm
  exact ⟨a, rfl, hok⟩
end
end Go.Proofs.Ytmpldpfgnakbkaa
/- Requests that come in. -/
namespace Go.Proofs.Ytmpldpfgnakbkaa
set_option linter.unusedVariables false
open Go.RowKit Go.ChangeShapes Go.WideShapes

instance : Inhabited Vl := ⟨⟨0, 0, ByteArray.empty⟩⟩
section
variable {H : Type} {enc : TypeId × Value → H} {w : World} {base : Nat} {spare : Nat → Bool} {held : Bool}
theorem bytes_val : Try.prog.bytesOf 42 = 32 := by kernel_rfl
theorem bytes_giv : Try.prog.bytesOf 27 = 48 := by kernel_rfl
theorem open_vls_f {m n c : Nat} {A : Option Addr} {x : DataW H × List MemPlace} (hwt : Wt Try.prog 25 x.1) (h : DataW.trod enc Try.prog w base spare held m 25 [.slice A n c] = some x) : ∃ l, Vls w (fun _ => True) A n c l :=
  open_rows Try.underlying25 (by kernel_rfl) (by omega) (by rw [bytes_val]; omega) (fun m cs y _ _ q h => open_vl_cells q h) hwt h
theorem open_giv_cells {m : Nat} {cs : List Value} {y : DataW H × List MemPlace} (hwt : Wt Try.prog 27 y.1) (h : DataW.trod enc Try.prog w base spare held m 27 cs = some y) : ∃ g : Giv, GivAt w (fun _ => True) cs g := by
  obtain ⟨m', _, hlen, y0, y1, y2, ⟨q0, q1, q2⟩, g0, g1, g2⟩ := fields3 Try.underlying27 hwt h
  obtain ⟨v0, v1, v2, rfl⟩ := len3 (hlen.trans (show Try.prog.cellsOf 27 = 3 by kernel_rfl))
  have g0 : DataW.trod enc Try.prog w base spare held m' 3 (([v0, v1, v2] : List Value).drop 0 |>.take (Try.prog.cellsOf 3)) = some y0 := g0
  rw [show Try.prog.cellsOf 3 = 1 by kernel_rfl] at g0
  have g1 : DataW.trod enc Try.prog w base spare held m' 9 (([v0, v1, v2] : List Value).drop 1 |>.take (Try.prog.cellsOf 9)) = some y1 := g1
  rw [show Try.prog.cellsOf 9 = 1 by kernel_rfl] at g1
  have g2 : DataW.trod enc Try.prog w base spare held m' 25 (([v0, v1, v2] : List Value).drop 2 |>.take (Try.prog.cellsOf 25)) = some y2 := g2
  rw [show Try.prog.cellsOf 25 = 1 by kernel_rfl] at g2
  obtain ⟨x0, e0, _, w0⟩ := DataW.trod_int Try.underlying3 (show DataW.trod enc Try.prog w base spare held m' 3 [v0] = some y0 from g0)
  obtain ⟨x1, e1, _, w1⟩ := DataW.trod_string Try.underlying9 (show DataW.trod enc Try.prog w base spare held m' 9 [v1] = some y1 from g1)
  injection e0 with e0
  injection e1 with e1
  subst e0 e1
  have g2 : DataW.trod enc Try.prog w base spare held m' 25 [v2] = some y2 := g2
  obtain ⟨A2, n2, c2, rfl⟩ := slice_cells Try.underlying25 g2
  obtain ⟨l2, h2⟩ := open_vls_f q2 g2
  exact ⟨⟨x0, x1, l2⟩, A2, n2, c2, rfl, ⟨wf_bounds w0, w1⟩, h2⟩
theorem open_givs_f {m n c : Nat} {A : Option Addr} {x : DataW H × List MemPlace} (hwt : Wt Try.prog 22 x.1) (h : DataW.trod enc Try.prog w base spare held m 22 [.slice A n c] = some x) : ∃ l, Gvs w (fun _ => True) A n c l :=
  open_rows Try.underlying22 (by kernel_rfl) (by omega) (by rw [bytes_giv]; omega) (fun m cs y _ _ q h => open_giv_cells q h) hwt h
theorem open_givs {n c : Nat} {A : Option Addr} {d : DataW H} {p : List MemPlace} (hwt : Wt Try.prog 22 d) (h : DataW.Trod enc Try.prog w base spare held 22 (.slice A n c) d p) : ∃ l, Gvs w (fun _ => True) A n c l := by
  obtain ⟨m, hm⟩ := h
  exact open_givs_f hwt hm
set_option maxRecDepth 100000 in
theorem open_giv {r : Reach} {b0 : Nat} {v : Value} {d : DataW H} {p : List MemPlace} (hv : Value.okWide Try.prog w r b0 27 v) (hwt : Wt Try.prog 27 d) (h : DataW.Trod enc Try.prog w base spare held 27 v d p) :
    ∃ (g : Giv) (A : Option Addr) (n c : Nat), v = .agg #[.int .i64 g.cat, .string g.name, .slice A n c] ∧ g.ok ∧ Vls w (fun _ => True) A n c g.bag := by
  obtain ⟨cs, m, rfl, hm⟩ := open_struct Try.underlying27 hv h
  obtain ⟨g, A, n, c, rfl, hok, hb⟩ := open_giv_cells hwt hm
  exact ⟨g, A, n, c, rfl, hok, hb⟩
end
end Go.Proofs.Ytmpldpfgnakbkaa
/- ExprTruths: the walk. -/
namespace Go.Proofs.Ytmpldpfgnakbkaa
set_option linter.unusedVariables false
open Go.RowKit Go.Sort

theorem pexpr_is {w : World} {R : Nat → Prop} {A : Option Addr} {n c : Nat} {l : List Nod} {r : Int} (hr : exprE l = r) (h : Nds w R A n c l) :
    Calls Try.prog 33 #[.slice A n c] w fun e w' => e = .returned (.int .i64 r) ∧ Below w.heap.size w w' := by
  have := expr_any w h
  rwa [hr] at this
theorem few_is {w : World} {R : Nat → Prop} {A : Option Addr} {n c : Nat} {l : List Giv} {b : Bool} (hb : decide (fewC l ≤ 1200) = b) (h : Gvs w R A n c l) :
    Calls Try.prog 12 #[.slice A n c] w fun e w' => e = .returned (.bool b) ∧ Below w.heap.size w w' := by
  have := few_any h
  rwa [hb] at this
theorem cond_is {ask : List Giv} {w : World} {R R2 : Nat → Prop} {A A2 : Option Addr} {n c n2 c2 : Nat} {l : List Nod} {r : Int} (hr : condP ask l = r) (h : Nds w R A n c l) (hA : Gvs w R2 A2 n2 c2 ask) (hG : ShortG ask) :
    Calls Try.prog 34 #[.slice A n c, .slice A2 n2 c2] w fun e w' => e = .returned (.int .i64 r) ∧ Below w.heap.size w w' := by
  have := econd_any h hA hG
  rwa [hr] at this
theorem condP_in (ask : List Giv) {l : List Nod} (hn : l ≠ []) : condP ask l = 0 ∨ condP ask l = 1 ∨ condP ask l = 2 := by
  rw [condP_val hn]
  rcases condV_cases (valP ask l).1 with ⟨_, h⟩ | ⟨_, h⟩ | ⟨_, h⟩ <;> rw [h] <;> simp
theorem run_min_at (x y : Int) (w : World) (ts : Array TypeId) (t : TypeId) (k k' : IntKind) : (Builtin.min_ ts t #[.int k x, .int k' y]).run Try.prog w = .ok (.int k (min x y)) w := Go.Lib.run_min_ints w ts t k k' x y
theorem run_max_at (x y : Int) (w : World) (ts : Array TypeId) (t : TypeId) (k k' : IntKind) : (Builtin.max_ ts t #[.int k x, .int k' y]).run Try.prog w = .ok (.int k (max x y)) w := Go.Lib.run_max_ints w ts t k k' x y
theorem opN_oks {f : Int} (h : 0 ≤ f ∧ f ≤ 100) : ∀ x ∈ [opN f], x.ok := fun x hx => by
  simp at hx
  subst hx
  exact opN_ok h

set_option maxRecDepth 100000 in
set_option maxHeartbeats 6400000 in
theorem exprTruths_walk (W : World) (A0 : Option Addr) (n0 c0 : Nat) (h0 : ∃ l, Nds W (fun _ => True) A0 n0 c0 l) (A1 : Option Addr) (n1 c1 : Nat) (h1 : ∃ l, Nds W (fun _ => True) A1 n1 c1 l) (A2 : Option Addr) (n2 c2 : Nat) (h2 : ∃ l, Gvs W (fun _ => True) A2 n2 c2 l) :
    Calls Try.prog 6 #[.slice A0 n0 c0, .slice A1 n1 c1, .slice A2 n2 c2] W fun e w' => e = .returned (.bool true) ∧ Below W.heap.size W w' := by
  obtain ⟨l0, h0⟩ := h0
  obtain ⟨l1, h1⟩ := h1
  obtain ⟨ask, h2⟩ := h2
  have b0 := Rw.le h0
  have b1 := Rw.le h1
  have m0 := Rw.cap h0
  have m1 := Rw.cap h1
  unfold maxLen at m0 m1
  have x0 : (0 : Int) ≤ min (n0 : Int) 15 := by omega
  have x1 : (0 : Int) ≤ min (n1 : Int) 15 := by omega
  have y0 : min (n0 : Int) 15 ≤ (c0 : Int) := by omega
  have y1 : min (n1 : Int) 15 ≤ (c1 : Int) := by omega
  have H0 := Lib.hid h0
  have H1 := Lib.hid h1
  have H2 := Lib.hid h2
  clear h0 h1 h2
  go_enter Try.func6, Try.ntmps6
  go_wp2_with fail
  go_quiet (fail)
  have T0 : Hid (Nds (W.drewN nq) (fun _ => True) A0 (min (n0 : Int) 15).toNat c0 (l0.take (min (n0 : Int) 15).toNat)) := (H0.out.keep ⟨Nat.le_refl _, fun _ _ _ => rfl⟩ (fun _ h _ => h)).take (by omega)
  have T1 : Hid (Nds (W.drewN nq) (fun _ => True) A1 (min (n1 : Int) 15).toNat c1 (l1.take (min (n1 : Int) 15).toNat)) := (H1.out.keep ⟨Nat.le_refl _, fun _ _ _ => rfl⟩ (fun _ h _ => h)).take (by omega)
  have T2 : Hid (Gvs (W.drewN nq) (fun _ => True) A2 n2 c2 ask) := H2.out.keep ⟨Nat.le_refl _, fun _ _ _ => rfl⟩ (fun _ h _ => h)
  have BW : Hid (Below W.heap.size W (W.drewN nq)) := below_drewN (Below.refl _ _) nq
  have S0 : Hid ((min (n0 : Int) 15).toNat ≤ 15 ∧ (min (n1 : Int) 15).toNat ≤ 15) := ⟨by omega, by omega⟩
  clear x0 x1 y0 y1 H0 H1 H2 b0 b1
  generalize min (n0 : Int) 15 = z0 at *
  generalize min (n1 : Int) 15 = z1 at *
  generalize z0.toNat = p0 at *
  generalize z1.toNat = p1 at *
  generalize l0.take p0 = L0 at *
  generalize l1.take p1 = L1 at *
  generalize W.drewN nq = w at *
  have LL : Hid (L0.length = p0 ∧ L1.length = p1) := ⟨Rw.len T0.out, Rw.len T1.out⟩
  by_cases e0 : p0 = 0
  · have g0 : ((p0 : Int) == 0) = true := by rw [beq_iff_eq]; omega
    clear e0
    go_wp2_with fail
    refine (eruns_any _).mono ?_
    rintro e w1 ⟨rfl, hb⟩
    have K := Lib.hid (hb)
    clear hb
    go_wp2_with fail
    go_ret
    exact ⟨rfl, below_step BW.out K.out⟩
  have g0 : ((p0 : Int) == 0) = false := by rw [beq_eq_false_iff_ne]; omega
  by_cases e1 : p1 = 0
  · have g1 : ((p1 : Int) == 0) = true := by rw [beq_iff_eq]; omega
    clear e0 e1
    go_wp2_with fail
    refine (eruns_any _).mono ?_
    rintro e w1 ⟨rfl, hb⟩
    have K := Lib.hid (hb)
    clear hb
    go_wp2_with fail
    go_ret
    exact ⟨rfl, below_step BW.out K.out⟩
  have g1 : ((p1 : Int) == 0) = false := by rw [beq_eq_false_iff_ne]; omega
  by_cases r0 : exprE L0 = 0
  rotate_left
  · obtain ⟨r, hr⟩ : ∃ r, r = exprE L0 := ⟨_, rfl⟩
    rw [← hr] at r0
    have f0 : (r != 0) = true := by rw [bne_iff_ne]; exact r0
    have HR := Lib.hid hr.symm
    clear e0 e1 r0 hr
    go_wp2_with fail
    refine (pexpr_is HR.out (T0.out.up (Below.refl (w).heap.size w))).mono ?_
    rintro e w1 ⟨rfl, hb⟩
    have K := Lib.hid (hb)
    clear hb
    go_wp2_with fail
    refine (eruns_any _).mono ?_
    rintro e w2 ⟨rfl, hb⟩
    have K := Lib.hid (below_step K.out hb)
    clear hb
    go_wp2_with fail
    go_ret
    exact ⟨rfl, below_step BW.out K.out⟩
  by_cases r1 : exprE L1 = 0
  rotate_left
  · obtain ⟨r, hr⟩ : ∃ r, r = exprE L1 := ⟨_, rfl⟩
    rw [← hr] at r1
    have f1 : (r != 0) = true := by rw [bne_iff_ne]; exact r1
    have HR := Lib.hid hr.symm
    have HR0 := Lib.hid r0
    clear e0 e1 r0 r1 hr
    go_wp2_with fail
    refine (pexpr_is HR0.out (T0.out.up (Below.refl (w).heap.size w))).mono ?_
    rintro e w1 ⟨rfl, hb⟩
    have K := Lib.hid (hb)
    clear hb
    go_wp2_with fail
    refine (pexpr_is HR.out (T1.out.up K.out)).mono ?_
    rintro e w2 ⟨rfl, hb⟩
    have K := Lib.hid (below_step K.out hb)
    clear hb
    go_wp2_with fail
    refine (eruns_any _).mono ?_
    rintro e w3 ⟨rfl, hb⟩
    have K := Lib.hid (below_step K.out hb)
    clear hb
    go_wp2_with fail
    go_ret
    exact ⟨rfl, below_step BW.out K.out⟩
  have HR0 := Lib.hid r0
  have HR1 := Lib.hid r1
  clear r0 r1
  by_cases hf : fewC ask ≤ 1200
  rotate_left
  · have HF := Lib.hid (decide_eq_false hf)
    clear e0 e1 hf
    go_wp2_with fail
    refine (pexpr_is HR0.out (T0.out.up (Below.refl (w).heap.size w))).mono ?_
    rintro e w1 ⟨rfl, hb⟩
    have K := Lib.hid (hb)
    clear hb
    go_wp2_with fail
    refine (pexpr_is HR1.out (T1.out.up K.out)).mono ?_
    rintro e w2 ⟨rfl, hb⟩
    have K := Lib.hid (below_step K.out hb)
    clear hb
    go_wp2_with fail
    refine (few_is HF.out (T2.out.up K.out)).mono ?_
    rintro e w3 ⟨rfl, hb⟩
    have K := Lib.hid (below_step K.out hb)
    clear hb
    go_wp2_with fail
    refine (eruns_any _).mono ?_
    rintro e w4 ⟨rfl, hb⟩
    have K := Lib.hid (below_step K.out hb)
    clear hb
    go_wp2_with fail
    go_ret
    exact ⟨rfl, below_step BW.out K.out⟩
  have HF := Lib.hid (decide_eq_true hf)
  have HG := Lib.hid (few_short hf)
  have hn0 : L0 ≠ [] := by rintro rfl; exact e0 LL.out.1.symm
  have hn1 : L1 ≠ [] := by rintro rfl; exact e1 LL.out.2.symm
  have hs0 := S0.out
  have hll := LL.out
  have CA := Lib.hid (cond_and (ask := ask) HR0.out HR1.out hn0 hn1 (by omega))
  have CO := Lib.hid (cond_or (ask := ask) HR0.out HR1.out hn0 hn1 (by omega))
  have CN := Lib.hid (cond_not (ask := ask) HR0.out hn0 (by omega))
  have IX := Lib.hid (condP_in ask hn0)
  have IY := Lib.hid (condP_in ask hn1)
  obtain ⟨x, hx⟩ : ∃ x, x = condP ask L0 := ⟨_, rfl⟩
  obtain ⟨y, hy⟩ : ∃ y, y = condP ask L1 := ⟨_, rfl⟩
  rw [← hx, ← hy] at CA CO
  rw [← hx] at CN IX
  rw [← hy] at IY
  obtain ⟨va, hva⟩ : ∃ va, va = min x y := ⟨_, rfl⟩
  obtain ⟨vo, hvo⟩ : ∃ vo, vo = max x y := ⟨_, rfl⟩
  obtain ⟨vn, hvn⟩ : ∃ vn, vn = 2 - x := ⟨_, rfl⟩
  rw [← hva] at CA
  rw [← hvo] at CO
  rw [← hvn] at CN
  have HVA := Lib.hid hva
  have HVO := Lib.hid hvo
  have HVN := Lib.hid hvn
  clear hva hvo hvn
  have HX := Lib.hid hx.symm
  have HY := Lib.hid hy.symm
  have PP : Hid (p0 + p1 ≤ 30 ∧ p0 ≤ 15) := ⟨by omega, by omega⟩
  obtain ⟨q, hq⟩ : ∃ q, q = p0 + p1 := ⟨_, rfl⟩
  have HQ := Lib.hid hq
  clear hf e0 e1 hn0 hn1 hx hy hs0 hll hq
  go_wp2_with fail
  refine (pexpr_is HR0.out (T0.out.up (Below.refl (w).heap.size w))).mono ?_
  rintro e w1 ⟨rfl, hb⟩
  have K := Lib.hid (hb)
  clear hb
  go_wp2_with fail
  refine (pexpr_is HR1.out (T1.out.up K.out)).mono ?_
  rintro e w2 ⟨rfl, hb⟩
  have K := Lib.hid (below_step K.out hb)
  clear hb
  go_wp2_with fail
  refine (few_is HF.out (T2.out.up K.out)).mono ?_
  rintro e w3 ⟨rfl, hb⟩
  have K := Lib.hid (below_step K.out hb)
  clear hb
  go_wp2_with fail
  refine (cond_is HX.out (T0.out.up K.out) (T2.out.up K.out) HG.out).mono ?_
  rintro e w4 ⟨rfl, hb⟩
  have K := Lib.hid (below_step K.out hb)
  clear hb
  go_wp2_with fail
  refine (cond_is HY.out (T1.out.up K.out) (T2.out.up K.out) HG.out).mono ?_
  rintro e w5 ⟨rfl, hb⟩
  have K := Lib.hid (below_step K.out hb)
  clear hb
  obtain ⟨A5, c5, wa, A6, c6, wb, ra, rb, hb, n9, _⟩ := both_nds (q := q) (T0.out.up K.out) (T1.out.up K.out) (by have := PP.out; omega) HQ.out
  have RR55 := Lib.hid (ra)
  have RR57 := Lib.hid (rb)
  have N9 := Lib.hid n9
  have K := Lib.hid (below_step K.out hb)
  clear ra rb hb n9
  have LO12 := Lib.hid (K.out).size
  have LO912 := Lib.hid ((Below.refl (wb).heap.size wb)).size
  obtain ⟨Ac12, cc12, w6, r, hb, oc⟩ := nds_copy (N9.out.up (Below.refl (wb).heap.size wb)) (by have := PP.out; have := HQ.out; omega)
  have RR60 := Lib.hid (r)
  have O12 := Lib.hid (oc)
  have S12 := Lib.hid (hb.size)
  have K := Lib.hid (below_step K.out hb)
  have K9 := Lib.hid (hb)
  clear hb r
  clear oc
  go_wp2_with (first | (at_builtin; refine wpList_append_run (o := ⟨some 55, _, _, _, _, _⟩) rfl _ _ _ _ rfl rfl rfl RR55.out ?_) | (at_builtin; refine wpList_append_run (o := ⟨some 57, _, _, _, _, _⟩) rfl _ _ _ _ rfl rfl rfl RR57.out ?_) | (at_builtin; refine wpList_append_run (o := ⟨some 60, _, _, _, _, _⟩) rfl _ _ _ _ rfl rfl rfl RR60.out ?_))
  refine (lop_any 12 _).mono ?_
  rintro e w7 ⟨rfl, hb⟩
  have K := Lib.hid (below_step K.out hb)
  have K9 := Lib.hid (below_step K9.out hb)
  have KO12 := Lib.hid (hb)
  clear hb
  obtain ⟨Ad12, cd12, w8, r, hb, nd⟩ := nds_more (w := w7) O12.out S12.out KO12.out (Rw.len N9.out) (Rw.all N9.out) [opN 12] (opN_oks (by decide)) (by show q + 1 ≤ 1000; have := PP.out; have := HQ.out; omega)
  have RR63 := Lib.hid (r)
  have ND12 := Lib.hid (nd)
  have K := Lib.hid (K.out.trans (hb.mono LO12.out))
  have K9 := Lib.hid (K9.out.trans (hb.mono LO912.out))
  clear hb r
  clear nd
  go_wp2_with (at_builtin; refine wpList_append_run (o := ⟨some 63, _, _, _, _, _⟩) rfl _ _ _ _ rfl rfl rfl RR63.out ?_)
  refine (cond_is CA.out ND12.out (T2.out.up K.out) HG.out).mono ?_
  rintro e w9 ⟨rfl, hb⟩
  have K := Lib.hid (below_step K.out hb)
  have K9 := Lib.hid (below_step K9.out hb)
  clear hb
  have LO13 := Lib.hid (K.out).size
  have LO913 := Lib.hid (K9.out).size
  obtain ⟨Ac13, cc13, w10, r, hb, oc⟩ := nds_copy (N9.out.up K9.out) (by have := PP.out; have := HQ.out; omega)
  have RR68 := Lib.hid (r)
  have O13 := Lib.hid (oc)
  have S13 := Lib.hid (hb.size)
  have K := Lib.hid (below_step K.out hb)
  have K9 := Lib.hid (below_step K9.out hb)
  clear hb r
  clear oc
  go_wp2_with (at_builtin; refine wpList_append_run (o := ⟨some 68, _, _, _, _, _⟩) rfl _ _ _ _ rfl rfl rfl RR68.out ?_)
  refine (lop_any 13 _).mono ?_
  rintro e w11 ⟨rfl, hb⟩
  have K := Lib.hid (below_step K.out hb)
  have K9 := Lib.hid (below_step K9.out hb)
  have KO13 := Lib.hid (hb)
  clear hb
  obtain ⟨Ad13, cd13, w12, r, hb, nd⟩ := nds_more (w := w11) O13.out S13.out KO13.out (Rw.len N9.out) (Rw.all N9.out) [opN 13] (opN_oks (by decide)) (by show q + 1 ≤ 1000; have := PP.out; have := HQ.out; omega)
  have RR71 := Lib.hid (r)
  have ND13 := Lib.hid (nd)
  have K := Lib.hid (K.out.trans (hb.mono LO13.out))
  have K9 := Lib.hid (K9.out.trans (hb.mono LO913.out))
  clear hb r
  clear nd
  go_wp2_with (at_builtin; refine wpList_append_run (o := ⟨some 71, _, _, _, _, _⟩) rfl _ _ _ _ rfl rfl rfl RR71.out ?_)
  refine (cond_is CO.out ND13.out (T2.out.up K.out) HG.out).mono ?_
  rintro e w13 ⟨rfl, hb⟩
  have K := Lib.hid (below_step K.out hb)
  have K9 := Lib.hid (below_step K9.out hb)
  clear hb
  have LO11 := Lib.hid (K.out).size
  obtain ⟨Ac11, cc11, w14, r, hb, oc⟩ := nds_copy (T0.out.up K.out) (by have := PP.out; have := HQ.out; omega)
  have RR76 := Lib.hid (r)
  have O11 := Lib.hid (oc)
  have S11 := Lib.hid (hb.size)
  have K := Lib.hid (below_step K.out hb)
  have K9 := Lib.hid (below_step K9.out hb)
  clear hb r
  clear oc
  go_wp2_with (at_builtin; refine wpList_append_run (o := ⟨some 76, _, _, _, _, _⟩) rfl _ _ _ _ rfl rfl rfl RR76.out ?_)
  refine (lop_any 11 _).mono ?_
  rintro e w15 ⟨rfl, hb⟩
  have K := Lib.hid (below_step K.out hb)
  have K9 := Lib.hid (below_step K9.out hb)
  have KO11 := Lib.hid (hb)
  clear hb
  obtain ⟨Ad11, cd11, w16, r, hb, nd⟩ := nds_more (w := w15) O11.out S11.out KO11.out (Rw.len T0.out) (Rw.all T0.out) [opN 11] (opN_oks (by decide)) (by show p0 + 1 ≤ 1000; have := PP.out; have := HQ.out; omega)
  have RR79 := Lib.hid (r)
  have ND11 := Lib.hid (nd)
  have K := Lib.hid (K.out.trans (hb.mono LO11.out))
  clear hb r
  clear nd
  go_wp2_with (at_builtin; refine wpList_append_run (o := ⟨some 79, _, _, _, _, _⟩) rfl _ _ _ _ rfl rfl rfl RR79.out ?_)
  refine (cond_is CN.out ND11.out (T2.out.up K.out) HG.out).mono ?_
  rintro e w17 ⟨rfl, hb⟩
  have K := Lib.hid (below_step K.out hb)
  clear hb
  have KK := Lib.hid (K.out)
  have hx := IX.out
  have hy := IY.out
  rcases hx with hx | hx | hx <;> rcases hy with hy | hy | hy
  · obtain rfl : va = 0 := by have := HVA.out; omega
    obtain rfl : vo = 0 := by have := HVO.out; omega
    obtain rfl : vn = 2 := by have := HVN.out; omega
    subst hx hy
    have hmn := run_min_at 0 0
    have hmx := run_max_at 0 0
    simp only [show min (0 : Int) 0 = 0 from rfl] at hmn
    simp only [show max (0 : Int) 0 = 0 from rfl] at hmx
    go_wp2_with (go_at_call 5; refine (eruns_any _).mono ?_; rintro e wz ⟨rfl, hb⟩; have BZ := Lib.hid (below_step BW.out (below_step KK.out hb)); clear hb)
    go_ret
    exact ⟨rfl, BZ.out⟩
  · obtain rfl : va = 0 := by have := HVA.out; omega
    obtain rfl : vo = 1 := by have := HVO.out; omega
    obtain rfl : vn = 2 := by have := HVN.out; omega
    subst hx hy
    have hmn := run_min_at 0 1
    have hmx := run_max_at 0 1
    simp only [show min (0 : Int) 1 = 0 from rfl] at hmn
    simp only [show max (0 : Int) 1 = 1 from rfl] at hmx
    go_wp2_with (go_at_call 5; refine (eruns_any _).mono ?_; rintro e wz ⟨rfl, hb⟩; have BZ := Lib.hid (below_step BW.out (below_step KK.out hb)); clear hb)
    go_ret
    exact ⟨rfl, BZ.out⟩
  · obtain rfl : va = 0 := by have := HVA.out; omega
    obtain rfl : vo = 2 := by have := HVO.out; omega
    obtain rfl : vn = 2 := by have := HVN.out; omega
    subst hx hy
    have hmn := run_min_at 0 2
    have hmx := run_max_at 0 2
    simp only [show min (0 : Int) 2 = 0 from rfl] at hmn
    simp only [show max (0 : Int) 2 = 2 from rfl] at hmx
    go_wp2_with (go_at_call 5; refine (eruns_any _).mono ?_; rintro e wz ⟨rfl, hb⟩; have BZ := Lib.hid (below_step BW.out (below_step KK.out hb)); clear hb)
    go_ret
    exact ⟨rfl, BZ.out⟩
  · obtain rfl : va = 0 := by have := HVA.out; omega
    obtain rfl : vo = 1 := by have := HVO.out; omega
    obtain rfl : vn = 1 := by have := HVN.out; omega
    subst hx hy
    have hmn := run_min_at 1 0
    have hmx := run_max_at 1 0
    simp only [show min (1 : Int) 0 = 0 from rfl] at hmn
    simp only [show max (1 : Int) 0 = 1 from rfl] at hmx
    go_wp2_with (go_at_call 5; refine (eruns_any _).mono ?_; rintro e wz ⟨rfl, hb⟩; have BZ := Lib.hid (below_step BW.out (below_step KK.out hb)); clear hb)
    go_ret
    exact ⟨rfl, BZ.out⟩
  · obtain rfl : va = 1 := by have := HVA.out; omega
    obtain rfl : vo = 1 := by have := HVO.out; omega
    obtain rfl : vn = 1 := by have := HVN.out; omega
    subst hx hy
    have hmn := run_min_at 1 1
    have hmx := run_max_at 1 1
    simp only [show min (1 : Int) 1 = 1 from rfl] at hmn
    simp only [show max (1 : Int) 1 = 1 from rfl] at hmx
    go_wp2_with (go_at_call 5; refine (eruns_any _).mono ?_; rintro e wz ⟨rfl, hb⟩; have BZ := Lib.hid (below_step BW.out (below_step KK.out hb)); clear hb)
    go_ret
    exact ⟨rfl, BZ.out⟩
  · obtain rfl : va = 1 := by have := HVA.out; omega
    obtain rfl : vo = 2 := by have := HVO.out; omega
    obtain rfl : vn = 1 := by have := HVN.out; omega
    subst hx hy
    have hmn := run_min_at 1 2
    have hmx := run_max_at 1 2
    simp only [show min (1 : Int) 2 = 1 from rfl] at hmn
    simp only [show max (1 : Int) 2 = 2 from rfl] at hmx
    go_wp2_with (go_at_call 5; refine (eruns_any _).mono ?_; rintro e wz ⟨rfl, hb⟩; have BZ := Lib.hid (below_step BW.out (below_step KK.out hb)); clear hb)
    go_ret
    exact ⟨rfl, BZ.out⟩
  · obtain rfl : va = 0 := by have := HVA.out; omega
    obtain rfl : vo = 2 := by have := HVO.out; omega
    obtain rfl : vn = 0 := by have := HVN.out; omega
    subst hx hy
    have hmn := run_min_at 2 0
    have hmx := run_max_at 2 0
    simp only [show min (2 : Int) 0 = 0 from rfl] at hmn
    simp only [show max (2 : Int) 0 = 2 from rfl] at hmx
    go_wp2_with (go_at_call 5; refine (eruns_any _).mono ?_; rintro e wz ⟨rfl, hb⟩; have BZ := Lib.hid (below_step BW.out (below_step KK.out hb)); clear hb)
    go_ret
    exact ⟨rfl, BZ.out⟩
  · obtain rfl : va = 1 := by have := HVA.out; omega
    obtain rfl : vo = 2 := by have := HVO.out; omega
    obtain rfl : vn = 0 := by have := HVN.out; omega
    subst hx hy
    have hmn := run_min_at 2 1
    have hmx := run_max_at 2 1
    simp only [show min (2 : Int) 1 = 1 from rfl] at hmn
    simp only [show max (2 : Int) 1 = 2 from rfl] at hmx
    go_wp2_with (go_at_call 5; refine (eruns_any _).mono ?_; rintro e wz ⟨rfl, hb⟩; have BZ := Lib.hid (below_step BW.out (below_step KK.out hb)); clear hb)
    go_ret
    exact ⟨rfl, BZ.out⟩
  · obtain rfl : va = 2 := by have := HVA.out; omega
    obtain rfl : vo = 2 := by have := HVO.out; omega
    obtain rfl : vn = 0 := by have := HVN.out; omega
    subst hx hy
    have hmn := run_min_at 2 2
    have hmx := run_max_at 2 2
    simp only [show min (2 : Int) 2 = 2 from rfl] at hmn
    simp only [show max (2 : Int) 2 = 2 from rfl] at hmx
    go_wp2_with (go_at_call 5; refine (eruns_any _).mono ?_; rintro e wz ⟨rfl, hb⟩; have BZ := Lib.hid (below_step BW.out (below_step KK.out hb)); clear hb)
    go_ret
    exact ⟨rfl, BZ.out⟩
end Go.Proofs.Ytmpldpfgnakbkaa
/- bailiffbook.Within: a number brought between two bounds. -/
namespace Go.Proofs.Ytmpldpfgnakbkaa
open Go.RowKit

def withinOf (n lo hi : Int) : Int := lo + n % (hi - lo + 1)
theorem within_le {n lo hi : Int} (h : lo ≤ hi) : lo ≤ withinOf n lo hi ∧ withinOf n lo hi ≤ hi := by
  unfold withinOf
  have h1 := Int.emod_nonneg n (b := hi - lo + 1) (by omega)
  have h2 := Int.emod_lt_of_pos n (b := hi - lo + 1) (by omega)
  omega

theorem tmod_emod {n m : Int} (hm : 0 < m) : -m ≤ n.tmod m ∧ n.tmod m < m ∧ ((n.tmod m < 0 ∧ n % m = n.tmod m + m) ∨ (0 ≤ n.tmod m ∧ n % m = n.tmod m)) := by
  have h1 := Int.emod_nonneg n (b := m) (by omega)
  have h2 := Int.emod_lt_of_pos n hm
  have e := Int.tmod_eq_emod (a := n) (b := m)
  split at e
  · omega
  · rw [Int.natAbs_of_nonneg (by omega)] at e
    omega

set_option maxHeartbeats 800000 in
theorem within_any {n lo hi : Int} {w : World} (h0 : 0 ≤ lo) (h1 : lo ≤ hi) (h2 : hi ≤ 4611686018427387904) :
    Calls Try.prog 26 #[.int .i64 n, .int .i64 lo, .int .i64 hi] w fun e w' => e = .returned (.int .i64 (withinOf n lo hi)) ∧ w = w' := by
  have hm := tmod_emod (n := n) (m := hi - lo + 1) (by omega)
  obtain ⟨hl, hb, hm⟩ := hm
  have HM := Lib.hid hm
  clear hm
  by_cases hneg : n.tmod (hi - lo + 1) < 0
  all_goals
    go_enter Try.func26, Try.ntmps26
    go_wp2_with fail
    go_ret
    refine ⟨ret_int ?_, rfl⟩
    have := HM.out
    unfold withinOf
    omega
end Go.Proofs.Ytmpldpfgnakbkaa
/- wrong, Right: the first thing that is wrong with a request. -/
namespace Go.Proofs.Ytmpldpfgnakbkaa
set_option linter.unusedVariables false
open Go.RowKit Go.Sort

set_option maxHeartbeats 800000 in
theorem wrong_any {w : World} {R R1 : Nat → Prop} {A A1 : Option Addr} {n c n1 c1 : Nat} {l : List Giv} (g : Giv) (hok : g.ok) (h : Gvs w R A n c l) (hb : Vls w R1 A1 n1 c1 g.bag) :
    Calls Try.prog 52 #[.slice A n c, .agg #[.int .i64 g.cat, .string g.name, .slice A1 n1 c1]] w fun e w' => e = .returned (.int .i64 (wrongA l g)) ∧ Below w.heap.size w w' := by
  obtain ⟨gc, gn, gb⟩ := g
  have HA := Lib.hid (attr_any ⟨gc, gn, false⟩ ⟨hok.1, hok.2⟩)
  have HP := Lib.hid (fun W (hW : Below w.heap.size w W) => place_any gc gn (h.keep (Kept.all hW R) (fun _ h _ => h)))
  have HV := Lib.hid (fun W (hW : Below w.heap.size w W) => vbag_any (hb.keep (Kept.all hW R1) (fun _ h _ => h)).vs (Nat.le_refl _))
  have HE : Hid (wrongA l ⟨gc, gn, gb⟩ = if attrB ⟨gc, gn, false⟩ = true ∧ bagB gb = true then (if idxA l gc gn < l.length then 11 else 0) else 1) := rfl
  have HI : Hid (placeI l gc gn = if idxA l gc gn < l.length then (idxA l gc gn : Int) else -1) := rfl
  clear h hb hok
  simp only at HA HP HV HE HI ⊢
  generalize wrongA l ⟨gc, gn, gb⟩ = r at *
  generalize attrB ⟨gc, gn, false⟩ = ab at *
  generalize bagB gb = bb at *
  generalize hpi : placeI l gc gn = pi at *
  clear hpi
  have HB0 := Lib.hid ((Below.refl w.heap.size w).alloc (Nat.le_refl _) (.cells #[.int .i64 gc, .string gn, .slice A1 n1 c1] 27))
  cases ab
  · go_enter Try.func52, Try.ntmps52
    go_wp2_with (go_at_call 71; refine (HA.out _).mono ?_; rintro e w1 ⟨rfl, hb1⟩; have B1 := Lib.hid (Below.lit hb1))
    go_ret
    exact ⟨ret_int (by rw [HE.out]; simp), B1.out⟩
  cases bb
  · go_enter Try.func52, Try.ntmps52
    go_wp2_with (first
      | (go_at_call 71; refine (HA.out _).mono ?_; rintro e w1 ⟨rfl, hb1⟩; have B1 := Lib.hid (Below.lit hb1); have c1 := (Ob.below (Ob.made _ _ _) hb1 (by simp)).cell 2)
      | (go_at_call 35; refine (HV.out _ B1.out).mono ?_; rintro e w2 ⟨rfl, hb2⟩; have B2 := Lib.hid (below_step B1.out hb2)))
    go_ret
    exact ⟨ret_int (by rw [HE.out]; simp), B2.out⟩
  by_cases hi : idxA l gc gn < l.length
  · have hpi : ((pi : Int) ≥ 0) := by rw [HI.out, if_pos hi]; omega
    have HE2 : Hid (r = 11) := by show r = 11; rw [HE.out, if_pos ⟨rfl, rfl⟩, if_pos hi]
    clear HE HI hi
    go_enter Try.func52, Try.ntmps52
    go_wp2_with (first
      | (go_at_call 71; refine (HA.out _).mono ?_; rintro e w1 ⟨rfl, hb1⟩; have B1 := Lib.hid (Below.lit hb1); have OB := Lib.hid (Ob.below (Ob.made _ _ _) hb1 (by simp)); have c1 := OB.out.cell 2)
      | (go_at_call 35; refine (HV.out _ B1.out).mono ?_; rintro e w2 ⟨rfl, hb2⟩; have B2 := Lib.hid (below_step B1.out hb2); have OB2 := Lib.hid (Ob.below OB.out hb2 (Ob.lt OB.out)); have c2 := OB2.out.cell 0; have c3 := OB2.out.cell 1)
      | (go_at_call 41; refine (HP.out _ B2.out).mono ?_; rintro e w3 ⟨rfl, hb3⟩; have B3 := Lib.hid (below_step B2.out hb3)))
    go_ret
    exact ⟨ret_int HE2.out.symm, B3.out⟩
  · have hpi : ¬ ((pi : Int) ≥ 0) := by rw [HI.out, if_neg hi]; omega
    have HE2 : Hid (r = 0) := by show r = 0; rw [HE.out, if_pos ⟨rfl, rfl⟩, if_neg hi]
    clear HE HI hi
    go_enter Try.func52, Try.ntmps52
    go_wp2_with (first
      | (go_at_call 71; refine (HA.out _).mono ?_; rintro e w1 ⟨rfl, hb1⟩; have B1 := Lib.hid (Below.lit hb1); have OB := Lib.hid (Ob.below (Ob.made _ _ _) hb1 (by simp)); have c1 := OB.out.cell 2)
      | (go_at_call 35; refine (HV.out _ B1.out).mono ?_; rintro e w2 ⟨rfl, hb2⟩; have B2 := Lib.hid (below_step B1.out hb2); have OB2 := Lib.hid (Ob.below OB.out hb2 (Ob.lt OB.out)); have c2 := OB2.out.cell 0; have c3 := OB2.out.cell 1)
      | (go_at_call 41; refine (HP.out _ B2.out).mono ?_; rintro e w3 ⟨rfl, hb3⟩; have B3 := Lib.hid (below_step B2.out hb3)))
    go_ret
    exact ⟨ret_int HE2.out.symm, B3.out⟩

theorem Ob.grown3 {w : World} {g : Nat} {t : TypeId} {a b c : Value} (h : Ob w g t #[a, b, c]) : (∀ d os, (grow (redrawn w d) os).cell? ⟨g, 0, none⟩ = some a) ∧ (∀ d os, (grow (redrawn w d) os).cell? ⟨g, 1, none⟩ = some b) ∧ ∀ d os, (grow (redrawn w d) os).cell? ⟨g, 2, none⟩ = some c :=
  ⟨fun d os => cell_regrown (h.cell 0) d os, fun d os => cell_regrown (h.cell 1) d os, fun d os => cell_regrown (h.cell 2) d os⟩
set_option maxHeartbeats 1600000 in
theorem aright_any {w : World} {R : Nat → Prop} {A : Option Addr} {n c : Nat} {l : List Giv} (h : Gvs w R A n c l) :
    Calls Try.prog 22 #[.slice A n c] w fun e w' => e = .returned (.int .i64 (rightA l)) ∧ Below w.heap.size w w' := by
  have hle := Rw.le h
  have hcap := Rw.cap h
  have HL := Lib.hid (Rw.len h)
  unfold maxLen at hcap
  have H := Lib.hid h
  clear h
  by_cases h64 : 64 < n
  · have h64' : (64 : Int) < (n : Int) := by omega
    have HE : Hid (rightA l = 6) := by show rightA l = 6; unfold rightA; rw [if_pos (by have := HL.out; omega)]
    clear h64
    go_enter Try.func22, Try.ntmps22
    go_wp2_with fail
    go_ret
    exact ⟨ret_int HE.out.symm, Below.refl _ _⟩
  have h64' : ¬ (64 : Int) < (n : Int) := by omega
  have HE : Hid (rightA l = rightL [] l) := by show rightA l = _; unfold rightA; rw [if_neg (by have := HL.out; omega)]
  generalize rightA l = r at *
  go_enter Try.func22, Try.ntmps22
  go_wp2_with fail
  go_loopw [11] (fun i wr => ∃ k : Nat, k ≤ n ∧ i = .int .i64 k ∧ rightL [] l = rightL (l.take k) (l.drop k) ∧ Below w.heap.size w wr) (fun i _ => n - (intOf i).toNat)
  case atStart => exact ⟨0, Nat.zero_le _, rfl, by simp, Below.refl _ _⟩
  case round =>
    obtain ⟨k, hk, rfl, hf, hb⟩ := hrel
    have HF := Lib.hid hf
    have HB := Lib.hid hb
    have hb' := hb
    clear hf hb
    by_cases hlt : k < n
    · have HGV := Lib.hid (H.out.keep (Kept.all HB.out R) (fun _ h _ => h))
      obtain ⟨b, o, x, A', n', c', rfl, hRb, hbl, hx, hok, ⟨c0, c1, c2⟩, hin⟩ := HGV.out.at_ hlt
      have HX := Lib.hid (rightL_step hx)
      have hal := (Below.refl wr.heap.size wr).alloc (Nat.le_refl _) (.cells #[.int .i64 x.cat, .string x.name, .slice A' n' c'] 27)
      have qr := fun W (hW : Below wr.heap.size wr W) => wrong_any x hok (Rw.take (HGV.out.keep (Kept.all hW R) (fun _ h _ => h)) (Nat.le_of_lt hlt)) (hin.keep (Kept.all hW R) (fun _ h _ => h))
      have HAL := Lib.hid hal
      have hbx := Ob.made wr 27 #[.int .i64 x.cat, .string x.name, .slice A' n' c']
      have D1 := Lib.hid (hb'.alloc hb'.size (.cells #[.int .i64 x.cat, .string x.name, .slice A' n' c'] 27))
      have hk0 : (0 : Int) ≤ (k : Int) := by omega
      have hkc : (k : Int) ≤ (c : Int) := by omega
      have hw : ∀ W d os, Below wr.heap.size wr W → Calls Try.prog 52 #[.slice (some ⟨b, o, none⟩) k c, .agg #[.int .i64 x.cat, .string x.name, .slice A' n' c']] (grow (redrawn W d) os) fun e w' => e = .returned (.int .i64 (wrongA (l.take k) x)) ∧ ∃ p : Regrown, w' = grow (redrawn W p.d) p.os := fun W d os hW => Calls.regrown_of (w := W) (d := d) (os := os) (qr _ (hW.trans ((below_regrown W d os).mono hW.size)))
      clear hx hok hin qr hal
      go_wp2_with fail
      have hW1 := HAL.out
      generalize wr.alloc (.cells #[.int .i64 x.cat, .string x.name, .slice A' n' c'] 27) = W1 at *
      obtain ⟨g0, g1, g2⟩ := Ob.grown3 hbx
      have QR := Lib.hid (fun d os => hw W1 d os hW1)
      clear hw hW1
      by_cases hz : wrongA (l.take k) x = 0
      · rw [hz] at QR
        have HZ := Lib.hid hz
        clear hz
        refine wp_region_quiet_below (by kernel_rfl) (by kernel_rfl) ?_
        repeat (go_big_quiet_step ((go_at_call 52; exact QR.out _ _)))
        refine wpQuiet_nil ?_
        intro _ hw'
        obtain ⟨⟨dq, osq⟩, hw''⟩ := hw'
        subst hw''
        have D2 := Lib.hid (below_step D1.out (below_regrown W1 dq osq))
        clear g0 g1 g2
        generalize grow (redrawn W1 dq) osq = W2 at *
        go_wp2_with fail
        go_roundw
        case rel => exact ⟨k + 1, by omega, by go_num, by rw [HF.out, HX.out, if_neg (by rw [HZ.out]; simp)], D2.out⟩
        case measure => simp [intOf]; omega
      · have HZ := Lib.hid hz
        obtain ⟨ee, he⟩ : ∃ ee, ee = wrongA (l.take k) x := ⟨_, rfl⟩
        have HEE := Lib.hid he
        rw [← he] at hz QR
        have hne : (ee != 0) = true := by simpa using hz
        clear he
        refine wp_region_quiet_below (by kernel_rfl) (by kernel_rfl) ?_
        repeat (go_big_quiet_step ((go_at_call 52; exact QR.out _ _)))
        refine wpQuiet_nil ?_
        intro _ hw'
        obtain ⟨⟨dq, osq⟩, hw''⟩ := hw'
        subst hw''
        have D2 := Lib.hid (below_step D1.out (below_regrown W1 dq osq))
        clear g0 g1 g2
        generalize grow (redrawn W1 dq) osq = W2 at *
        go_wp2_with fail
        go_ret
        exact ⟨ret_int (by rw [HE.out, HF.out, HX.out, if_pos HZ.out]; exact HEE.out), D2.out⟩
    · obtain rfl : k = n := by omega
      go_wp2
      go_ret
      exact ⟨ret_int (by rw [HE.out, HF.out]; exact (rightL_end (by have := HL.out; omega)).symm), HB.out⟩
end Go.Proofs.Ytmpldpfgnakbkaa
/- Policies, and what they are of, that come in. -/
namespace Go.Proofs.Ytmpldpfgnakbkaa
set_option linter.unusedVariables false
open Go.RowKit Go.ChangeShapes Go.WideShapes

instance : Inhabited Mat := ⟨⟨zeroA, 0, zeroV⟩⟩
instance : Inhabited Nod := ⟨⟨0, zeroV, zeroA⟩⟩
instance : Inhabited Dut := ⟨⟨0, 0, ByteArray.empty⟩⟩
instance : Inhabited Rul := ⟨⟨ByteArray.empty, false, [], [], []⟩⟩
instance : Inhabited Pol := ⟨.mk ByteArray.empty false 0 [] [] [] []⟩

section
variable {H : Type} {enc : TypeId × Value → H} {w : World} {base : Nat} {spare : Nat → Bool} {held : Bool}

theorem bytes_nod : Try.prog.bytesOf 51 = 72 := by kernel_rfl
theorem open_nod_cells {m : Nat} {cs : List Value} {y : DataW H × List MemPlace} (hwt : Wt Try.prog 51 y.1) (h : DataW.trod enc Try.prog w base spare held m 51 cs = some y) : ∃ a : Nod, cs = a.cells ∧ a.ok := by
  obtain ⟨m', _, hlen, y0, y1, y2, ⟨q0, q1, q2⟩, g0, g1, g2⟩ := fields3 Try.underlying51 hwt h
  obtain ⟨v0, v1, v2, v3, v4, v5, v6, rfl⟩ := len7 (hlen.trans (show Try.prog.cellsOf 51 = 7 by kernel_rfl))
  have g0 : DataW.trod enc Try.prog w base spare held m' 3 (([v0, v1, v2, v3, v4, v5, v6] : List Value).drop 0 |>.take (Try.prog.cellsOf 3)) = some y0 := g0
  rw [show Try.prog.cellsOf 3 = 1 by kernel_rfl] at g0
  obtain ⟨x0, e0, _, w0⟩ := DataW.trod_int Try.underlying3 (show DataW.trod enc Try.prog w base spare held m' 3 [v0] = some y0 from g0)
  injection e0 with e0
  have g1 : DataW.trod enc Try.prog w base spare held m' 42 (([v0, v1, v2, v3, v4, v5, v6] : List Value).drop 1 |>.take (Try.prog.cellsOf 42)) = some y1 := g1
  rw [show Try.prog.cellsOf 42 = 3 by kernel_rfl] at g1
  obtain ⟨x1, e1, w1⟩ := open_vl_cells q1 (show DataW.trod enc Try.prog w base spare held m' 42 [v1, v2, v3] = some y1 from g1)
  simp [Vl.cells] at e1
  have g2 : DataW.trod enc Try.prog w base spare held m' 24 (([v0, v1, v2, v3, v4, v5, v6] : List Value).drop 4 |>.take (Try.prog.cellsOf 24)) = some y2 := g2
  rw [show Try.prog.cellsOf 24 = 3 by kernel_rfl] at g2
  obtain ⟨x2, e2, w2⟩ := open_atr_cells q2 (show DataW.trod enc Try.prog w base spare held m' 24 [v4, v5, v6] = some y2 from g2)
  simp [Atr.cells] at e2
  subst e0
  obtain ⟨rfl, rfl, rfl⟩ := e1
  obtain ⟨rfl, rfl, rfl⟩ := e2
  exact ⟨⟨x0, x1, x2⟩, rfl, wf_bounds w0, w1, w2⟩

theorem open_nods_f {m n c : Nat} {A : Option Addr} {x : DataW H × List MemPlace} (hwt : Wt Try.prog 56 x.1) (h : DataW.trod enc Try.prog w base spare held m 56 [.slice A n c] = some x) : ∃ l, Nds w (fun _ => True) A n c l :=
  open_rows Try.underlying56 (by kernel_rfl) (by omega) (by rw [bytes_nod]; omega) (fun m cs y _ _ q h => open_nod_cells q h) hwt h
theorem open_nods {n c : Nat} {A : Option Addr} {d : DataW H} {p : List MemPlace} (hwt : Wt Try.prog 56 d) (h : DataW.Trod enc Try.prog w base spare held 56 (.slice A n c) d p) : ∃ l, Nds w (fun _ => True) A n c l := by
  obtain ⟨m, hm⟩ := h
  exact open_nods_f hwt hm
end
end Go.Proofs.Ytmpldpfgnakbkaa
