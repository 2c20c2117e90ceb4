/- Several texts in one: AskCopied, AskPlace, AskGet, Same, AskNil, AskPutA, StableU, KeepLeft, AskFew, AskBytesM, AskPutE, FunMath, FunSpec, PolicyExprsM, ExprMath, ExprMem, AskAsks, AskApart, AskPut, AskWithA, AskShort, AskTurn, AskMixT, AskBytesN, AskRight, AskBag, OperApp, VSame, AskSame, Nums, Within, Open, OpenNums. -/
import Derived.Test.YtjpkemamfccfdaaAskB
import Derived.Test.YtjpkemamfccfdaaAskA
import Derived.Deep.LoopGhost
import Derived.Deep.CutRange
import Derived.Lib.QuietBelow
import Derived.OpenShut
import Derived.ChangeSlices
import Derived.ProofKit
import Derived.ChangeOld
/- copied: a bag in memory of its own, its texts too. -/
namespace Go.Proofs.Ytjpkemamfccfdaa
set_option linter.unusedVariables false
open Go.RowKit

/-- Texts that aren't long. -/
def Shorts (l : List Vl) : Prop := ∀ v ∈ l, v.s.size ≤ 1000000

theorem take_one {α : Type} {l : List α} {k : Nat} {x : α} (h : l[k]? = some x) : l.take (k + 1) = l.take k ++ [x] := by
  obtain ⟨hk, rfl⟩ := List.getElem?_eq_some_iff.1 h
  rw [List.take_succ_eq_append_getElem hk]
theorem cells3_flat : ∀ l : List Vl, cells3 l = l.flatMap Vl.cells
  | [] => rfl
  | v :: r => by simp [cells3, Vl.cells, cells3_flat r]
/-- One more value behind a row of the call's own. -/
theorem push_val {w : World} {base n c : Nat} {A : Option Addr} {l : List Vl} {v : Vl} (h : w.ownsRow base 25 3 (.slice A n c) n (cells3 l)) (hb : base ≤ w.heap.size) (hv : v.ok) (hn : n < 1000000) :
    ∃ A' c' w', (Builtin.append_ #[45, 45] 45 #[.slice A n c, .slice (some ⟨w.heap.size, 0, none⟩) 1 1]).run Try.prog (w.alloc (.cells #[.int .i64 v.k, .int .i64 v.n, .string v.s] 25)) = .ok (.slice A' (n + 1) c') w' ∧
      w'.ownsRow base 25 3 (.slice A' (n + 1) c') (n + 1) (cells3 (l ++ [v])) ∧ Below base w w' := by
  have e1 : Below w.heap.size w (w.alloc (.cells #[.int .i64 v.k, .int .i64 v.n, .string v.s] 25)) := (Below.refl _ _).alloc (Nat.le_refl _) _
  obtain ⟨A', c', w', r, o, b, _⟩ := append_vals (ty := 45) (h.alloc (.cells #[.int .i64 v.k, .int .i64 v.n, .string v.s] 25)) (Vs.lit1 w v hv) (by omega) (by rw [size_al]; omega)
  exact ⟨A', c', w', r, o, (e1.mono hb).trans b⟩

set_option maxHeartbeats 1600000 in
theorem copied_any {w : World} {R : Nat → Prop} {A : Option Addr} {n c : Nat} {l : List Vl} (h : Vls w R A n c l) (hs : Shorts l) (hn : n ≤ 100000) :
    Calls Try.prog 44 #[.slice A n c] w fun e w' => ∃ A' c', e = .returned (.slice A' n c') ∧ Below w.heap.size w w' ∧ Vls w' (fun b => w.heap.size ≤ b) A' n c' l := by
  have hle := Rw.le h
  have hcap := Rw.cap h
  have HL := Lib.hid (Rw.len h)
  have HOK := Lib.hid h.oks
  unfold maxLen at hcap
  have H := Lib.hid h
  have HS := Lib.hid hs
  clear h hs
  go_enter Try.func44, Try.ntmps44
  go_wp2
  go_loopw [3, 8] (fun out i wr => ∃ (k : Nat) (A' : Option Addr) (c' : Nat), k ≤ n ∧ i = .int .i64 k ∧ out = .slice A' k c' ∧ wr.ownsRow w.heap.size 25 3 (.slice A' k c') k (cells3 (l.take k)) ∧ Below w.heap.size w wr) (fun out i _ => n - (intOf i).toNat)
  case atStart => exact ⟨0, none, 0, Nat.zero_le _, rfl, rfl, World.ownsRow_nil w w.heap.size 25 3, Below.refl _ _⟩
  case round =>
    obtain ⟨k, A', c', hk, rfl, rfl, ho, hb⟩ := hrel
    have HO := Lib.hid ho
    have HB := Lib.hid hb
    clear ho hb
    by_cases hlt : k < n
    · obtain ⟨b, o, x, rfl, hRb, hbl, hx, hok, ⟨x0, x1, x2⟩⟩ := (H.out.keep (Kept.all HB.out R) (fun _ h _ => h)).at_ hlt
      have HX := Lib.hid hx
      have HK := Lib.hid hok
      have hlim := HS.out x (List.mem_of_getElem? hx)
      have HCL := Lib.hid (fun W => clone_any x.s W hlim)
      obtain ⟨xk, xn, xs⟩ := x
      simp only at x0 x1 x2 HCL hlim
      clear hx hok
      have hbx := Bx.made wr xk xn xs
      have D0 := Lib.hid ((Below.refl wr.heap.size wr).alloc (Nat.le_refl _) (.cells #[.int .i64 xk, .int .i64 xn, .string xs] 25))
      go_wp2_with (first
        | (go_at_call 60; refine (HCL.out _).mono ?_; rintro e w1 ⟨rfl, hb1⟩
           have q1 := hbx.then_ hb1
           have qs := q1.setS xs
           have q3 := q1.c3
           have q4 := q1.fz 2
           have d1 : Below wr.heap.size wr (w1.setCell ⟨wr.heap.size, 2, none⟩ (.string xs)) := (Below.lit hb1).setCell (Nat.le_refl _) _
           obtain ⟨A2, c2, w2, r2, o2, b2⟩ := push_val (v := ⟨xk, xn, xs⟩) (own_then HO.out d1) (Nat.le_trans HB.out.size d1.size) HK.out (by omega)
           have hz : (w1.setCell ⟨wr.heap.size, 2, none⟩ (.string xs)).heap.size = w1.heap.size := by simp [World.setCell]
           rw [hz] at r2
           simp only at r2
           have R2 := Lib.hid r2
           have O2 := Lib.hid o2
           have B2 := Lib.hid (HB.out.trans ((d1.mono HB.out.size).trans b2))
           have Q1 := Lib.hid q1
           clear hz r2 o2 b2 hb1 q1 qs d1)
        | (at_builtin; refine wpList_append_run rfl _ _ _ _ rfl rfl rfl R2.out ?_))
      go_roundw
      case rel => exact ⟨k + 1, A2, c2, by omega, by go_num, rfl, by rw [take_one HX.out]; exact O2.out, B2.out⟩
      case measure => simp [intOf]; omega
    · obtain rfl : k = n := by omega
      go_wp2
      go_ret
      refine ⟨A', c', rfl, HB.out, ?_⟩
      have ho := HO.out
      rw [List.take_of_length_le (by have := HL.out; omega), cells3_flat] at ho
      exact Rw.flat_own ho (by omega) HL.out (fun _ => rfl) HOK.out (fun _ _ h => h)
end Go.Proofs.Ytjpkemamfccfdaa
/- place: the first of a category and a name (by slices.IndexFunc). -/
namespace Go.Proofs.Ytjpkemamfccfdaa
set_option linter.unusedVariables false
open Go.RowKit

theorem isg_any {w : World} {h4 h5 : Nat} {c : Int} {s : ByteArray} (g : Giv) {A : Option Addr} {n k : Nat} (hp : Ob w h4 3 #[.int .i64 c]) (hi : Ob w h5 9 #[.string s]) :
    Calls Try.prog 62 #[.agg #[.int .i64 g.cat, .string g.name, .slice A n k], .pointer (some ⟨h4, 0, none⟩), .pointer (some ⟨h5, 0, none⟩)] w fun e w' => e = .returned (.bool (isG c s g)) ∧ Below w.heap.size w w' := by
  have c4 := hp.cell 0
  have c5 := hi.cell 0
  have l4 := hp.lt
  have l5 := hi.lt
  have HE : Hid (isG c s g = (decide (g.cat = c) && (g.name.toList == s.toList))) := by
    show isG c s g = _
    unfold isG
    rw [Bool.eq_iff_iff]
    simp only [Bool.and_eq_true, decide_eq_true_eq, beq_iff_eq]
    rw [show (g.name.toList = s.toList) = (g.name = s) from propext ⟨fun e => text_eq (by show g.name.data.toList = s.data.toList; rw [← ByteArray.toList_eq, ← ByteArray.toList_eq]; exact e), fun e => by rw [e]⟩]
  generalize isG c s g = r at *
  obtain ⟨gc, gn, gb⟩ := g
  simp only at HE ⊢
  clear hp hi
  by_cases h : gc = c
  · have h' : (gc == c) = true := by simpa using h
    have H := Lib.hid h
    clear h
    go_enter Try.func62, Try.ntmps62
    go_wp2_with fail
    all_goals
      go_ret
      exact ⟨ret_bool (by rw [HE.out, decide_eq_true H.out, Bool.true_and]), (Below.refl _ _).alloc (Nat.le_refl _) _⟩
  · have h' : (gc == c) = false := by simpa using h
    have H := Lib.hid h
    clear h
    go_enter Try.func62, Try.ntmps62
    go_wp2_with fail
    all_goals
      go_ret
      exact ⟨ret_bool (by rw [HE.out, decide_eq_false H.out, Bool.false_and]), (Below.refl _ _).alloc (Nat.le_refl _) _⟩

set_option maxHeartbeats 800000 in
theorem index_any {w : World} {R : Nat → Prop} {A : Option Addr} {n c : Nat} {l : List Giv} {h4 h5 : Nat} {q : Int} {s : ByteArray} (h : Gvs w R A n c l) (hp : Ob w h4 3 #[.int .i64 q]) (hi : Ob w h5 9 #[.string s]) :
    Calls Try.prog 61 #[.slice A n c, .func (.func 62) #[] #[.pointer (some ⟨h4, 0, none⟩), .pointer (some ⟨h5, 0, none⟩)]] w fun e w' => e = .returned (.int .i64 (placeI l q s)) ∧ Below w.heap.size w w' := by
  have hle := Rw.le h
  have hcap := Rw.cap h
  have HL := Lib.hid (Rw.len h)
  unfold maxLen at hcap
  have H := Lib.hid h
  have HP := Lib.hid hp
  have HI := Lib.hid hi
  clear h hp hi
  go_enter Try.func61, Try.ntmps61
  go_wp2
  go_loopw [8] (fun i wr => ∃ k : Nat, k ≤ n ∧ i = .int .i64 k ∧ (∀ (j : Nat) (x : Giv), l[j]? = some x → j < k → isG q s x = false) ∧ Below w.heap.size w wr) (fun i _ => n - (intOf i).toNat)
  case atStart => exact ⟨0, Nat.zero_le _, rfl, fun _ _ _ h => absurd h (Nat.not_lt_zero _), Below.refl _ _⟩
  case round =>
    obtain ⟨k, hk, rfl, hf, hb⟩ := hrel
    have HF := Lib.hid hf
    have HB := Lib.hid hb
    clear hf hb
    by_cases hlt : k < n
    · obtain ⟨b, o, x, A', n', c', rfl, hRb, hbl, hx, hok, ⟨c0, c1, c2⟩, hin⟩ := (H.out.keep (Kept.all HB.out R) (fun _ h _ => h)).at_ hlt
      have HX := Lib.hid hx
      have HC := Lib.hid (isg_any x (A := A') (n := n') (k := c') (HP.out.below HB.out HP.out.lt) (HI.out.below HB.out HI.out.lt))
      clear hx
      cases hz : isG q s x
      · have HZ := Lib.hid hz
        rw [hz] at HC
        clear hz
        go_wp2_with (go_at_call 62; refine HC.out.mono ?_; rintro e w1 ⟨rfl, hb1⟩; have B1 := Lib.hid hb1)
        go_roundw
        case rel => exact ⟨k + 1, by omega, by go_num, fun j y hy hj => by
          by_cases e : j = k
          · subst e; rw [HX.out] at hy; injection hy with hy; subst hy; exact HZ.out
          · exact HF.out j y hy (by omega), below_step HB.out B1.out⟩
        case measure => simp [intOf]; omega
      · have HZ := Lib.hid hz
        rw [hz] at HC
        clear hz
        go_wp2_with (go_at_call 62; refine HC.out.mono ?_; rintro e w1 ⟨rfl, hb1⟩; have B1 := Lib.hid hb1)
        go_ret
        exact ⟨ret_int (place_at HX.out HZ.out HF.out).symm, below_step HB.out B1.out⟩
    · obtain rfl : k = n := by omega
      go_wp2
      go_ret
      exact ⟨ret_int (place_none (fun j x hx => HF.out j x hx (by have := (List.getElem?_eq_some_iff.1 hx).1; have := HL.out; omega))).symm, HB.out⟩

theorem place_any {w : World} {R : Nat → Prop} {A : Option Addr} {n c : Nat} {l : List Giv} (q : Int) (s : ByteArray) (h : Gvs w R A n c l) :
    Calls Try.prog 43 #[.slice A n c, .int .i64 q, .string s] w fun e w' => e = .returned (.int .i64 (placeI l q s)) ∧ Below w.heap.size w w' := by
  have e1 : Below w.heap.size w ((w.alloc (.cells #[.int .i64 q] 3)).alloc (.cells #[.string s] 9)) := ((Below.refl _ _).alloc (Nat.le_refl _) _).alloc (by rw [size_al]; omega) _
  have hp : Ob ((w.alloc (.cells #[.int .i64 q] 3)).alloc (.cells #[.string s] 9)) w.heap.size 3 #[.int .i64 q] := (Ob.made w 3 #[.int .i64 q]).keep (Below.heap_alloc (w.alloc (.cells #[.int .i64 q] 3)) _ w.heap.size (by rw [size_al]; omega))
  have hi : Ob ((w.alloc (.cells #[.int .i64 q] 3)).alloc (.cells #[.string s] 9)) (w.heap.size + 1) 9 #[.string s] := by
    have := Ob.made (w.alloc (.cells #[.int .i64 q] 3)) 9 #[.string s]
    rwa [size_al] at this
  have HC := Lib.hid (index_any (h.keep (Kept.all e1 R) (fun _ h _ => h)) hp hi)
  have HE := Lib.hid e1
  clear h hp hi e1
  go_enter Try.func43, Try.ntmps43
  go_wp2_with (go_at_call 61; refine HC.out.mono ?_; rintro e w1 ⟨rfl, hb1⟩)
  go_ret
  exact ⟨rfl, HE.out.trans (hb1.mono HE.out.size)⟩
end Go.Proofs.Ytjpkemamfccfdaa
/- Get: what is there, in new memory. -/
namespace Go.Proofs.Ytjpkemamfccfdaa
set_option linter.unusedVariables false
open Go.RowKit

/-- Requests whose texts aren't long, and whose bags aren't, neither. -/
def ShortG (l : List Giv) : Prop := ∀ g ∈ l, Shorts g.bag ∧ g.bag.length ≤ 100000
/-- What Get answers: a bag and an error. -/
theorem aget_any {w : World} {R : Nat → Prop} {A : Option Addr} {n c : Nat} {l : List Giv} (a : Atr) (h : Gvs w R A n c l) (hs : ShortG l) :
    Calls Try.prog 25 #[.slice A n c, .agg #[.int .i64 a.cat, .string a.name, .bool a.must]] w fun e w' => ∃ A' n' c', e = .returned (.tuple #[.slice A' n' c', .int .i64 (getE l a)]) ∧ Below w.heap.size w w' ∧ Vls w' (fun b => w.heap.size ≤ b) A' n' c' (getR l a) := by
  obtain ⟨ac, an, am⟩ := a
  have hle := Rw.le h
  have hcap := Rw.cap h
  have HL := Lib.hid (Rw.len h)
  unfold maxLen at hcap
  have H := Lib.hid h
  have HS := Lib.hid hs
  have HP := Lib.hid (fun W (hW : Below w.heap.size w W) => place_any ac an (h.keep (Kept.all hW R) (fun _ h _ => h)))
  clear h hs
  by_cases hi : idxA l ac an < l.length
  · obtain ⟨g, hg, hgg, hb⟩ := idx_hit hi
    have hp : placeI l ac an = (idxA l ac an : Int) := place_pos hi
    rw [hp] at HP
    have hin : idxA l ac an < n := by have := HL.out; omega
    have HB : Hid (getB l ⟨ac, an, am⟩ = g.bag) := hb
    have HG := Lib.hid hg
    generalize idxA l ac an = k at *
    obtain ⟨hsh, hln⟩ := HS.out g (List.mem_of_getElem? hg)
    have HSH := Lib.hid hsh
    have HLN := Lib.hid hln
    clear hi hp hg hgg hb hsh hln
    have atW := fun W (hW : Below w.heap.size w W) => (H.out.keep (Kept.all hW R) (fun _ h _ => h)).at_ hin
    have AW := Lib.hid atW
    clear atW
    obtain ⟨b, o, g0, A', n', c', rfl, _, hbl, hx, _, ⟨_, _, c2⟩, hin0⟩ := AW.out w (Below.refl _ _)
    have hgx := HG.out
    rw [hx] at hgx
    injection hgx with hgx
    subst hgx
    have HIN := Lib.hid hin0
    have hn' : n' ≤ 100000 := by have := Rw.len hin0; have := HLN.out; omega
    have hlen' : g0.bag.length = n' := Rw.len hin0
    have C2 := Lib.hid c2
    have HBL := Lib.hid hbl
    have HE : Hid (getE l ⟨ac, an, am⟩ = if am = true ∧ n' = 0 then 4 else 0) := by
      show getE l ⟨ac, an, am⟩ = _
      unfold getE
      have e0 : (g0.bag = []) = (n' = 0) := by rw [← hlen', List.length_eq_zero_iff]
      rw [HB.out]
      simp only [e0]
    have HR : Hid (getR l ⟨ac, an, am⟩ = if am = true ∧ n' = 0 then [] else g0.bag) := by
      show getR l ⟨ac, an, am⟩ = _
      unfold getR
      rw [HB.out, HE.out]
      by_cases e : am = true ∧ n' = 0 <;> simp [e]
    have HNN := Lib.hid hlen'
    clear hx c2 hin0 hbl AW hlen'
    generalize getE l ⟨ac, an, am⟩ = ee at *
    generalize getR l ⟨ac, an, am⟩ = rr at *
    rcases Nat.eq_zero_or_pos n' with rfl | hpos
    · cases am
      · have HE2 : Hid (ee = 0) := by show ee = 0; rw [HE.out]; simp
        have HR2 : Hid (rr = g0.bag) := by show rr = _; rw [HR.out]; simp
        clear HE HR
        go_enter Try.func25, Try.ntmps25
        go_wp2_with (first
          | (go_at_call 43; refine (HP.out _ ((Below.refl _ _).alloc (Nat.le_refl _) _)).mono ?_; rintro e w1 ⟨rfl, hb1⟩
             have OB1 := Lib.hid (Ob.below (Ob.made _ _ _) hb1 (by simp))
             have B1 := Lib.hid (Below.lit hb1)
             have q2 := (World.cell?_of_block (B1.out.block _ HBL.out)).trans C2.out
             have CP := Lib.hid (copied_any (HIN.out.keep (Kept.all B1.out R) (fun _ h _ => h)) HSH.out hn')
             clear hb1)
          | (go_at_call 44; refine CP.out.mono ?_; rintro e w2 ⟨A2, k2, rfl, hb2, hi2⟩
             have c9 := (Ob.below OB1.out hb2 (Ob.lt OB1.out)).cell 2
             have B2 := Lib.hid (below_step B1.out hb2)
             have I2 := Lib.hid (hi2.keep (Kept.refl _ _) (R' := fun b => w.heap.size ≤ b) (fun b h _ => Nat.le_trans B1.out.size h))
             clear hb2 hi2))
        go_ret2
        exact ⟨A2, 0, k2, by rw [HE2.out]; rfl, B2.out, by rw [HR2.out]; exact I2.out⟩
      · have HE2 : Hid (ee = 4) := by show ee = 4; rw [HE.out]; simp
        have HR2 : Hid (rr = []) := by show rr = _; rw [HR.out]; simp
        clear HE HR
        go_enter Try.func25, Try.ntmps25
        go_wp2_with (first
          | (go_at_call 43; refine (HP.out _ ((Below.refl _ _).alloc (Nat.le_refl _) _)).mono ?_; rintro e w1 ⟨rfl, hb1⟩
             have OB1 := Lib.hid (Ob.below (Ob.made _ _ _) hb1 (by simp))
             have B1 := Lib.hid (Below.lit hb1)
             have q2 := (World.cell?_of_block (B1.out.block _ HBL.out)).trans C2.out
             have CP := Lib.hid (copied_any (HIN.out.keep (Kept.all B1.out R) (fun _ h _ => h)) HSH.out hn')
             clear hb1)
          | (go_at_call 44; refine CP.out.mono ?_; rintro e w2 ⟨A2, k2, rfl, hb2, hi2⟩
             have c9 := (Ob.below OB1.out hb2 (Ob.lt OB1.out)).cell 2
             have B2 := Lib.hid (below_step B1.out hb2)
             have I2 := Lib.hid (hi2.keep (Kept.refl _ _) (R' := fun b => w.heap.size ≤ b) (fun b h _ => Nat.le_trans B1.out.size h))
             clear hb2 hi2))
        go_ret2
        exact ⟨none, 0, 0, by rw [HE2.out]; rfl, B2.out, by rw [HR2.out]; exact Rw.nil_ _ _ _ _⟩
    · have hne : ¬ (n' : Int) = 0 := by omega
      have hne2 : ((n' : Int) == 0) = false := by simpa using hne
      have HE2 : Hid (ee = 0) := by show ee = 0; rw [HE.out, if_neg (by omega)]
      have HR2 : Hid (rr = g0.bag) := by show rr = _; rw [HR.out, if_neg (by omega)]
      clear HE HR
      cases am
      all_goals
        go_enter Try.func25, Try.ntmps25
        go_wp2_with (first
          | (go_at_call 43; refine (HP.out _ ((Below.refl _ _).alloc (Nat.le_refl _) _)).mono ?_; rintro e w1 ⟨rfl, hb1⟩
             have OB1 := Lib.hid (Ob.below (Ob.made _ _ _) hb1 (by simp))
             have B1 := Lib.hid (Below.lit hb1)
             have q2 := (World.cell?_of_block (B1.out.block _ HBL.out)).trans C2.out
             have CP := Lib.hid (copied_any (HIN.out.keep (Kept.all B1.out R) (fun _ h _ => h)) HSH.out hn')
             clear hb1)
          | (go_at_call 44; refine CP.out.mono ?_; rintro e w2 ⟨A2, k2, rfl, hb2, hi2⟩
             have c9 := (Ob.below OB1.out hb2 (Ob.lt OB1.out)).cell 2
             have B2 := Lib.hid (below_step B1.out hb2)
             have I2 := Lib.hid (hi2.keep (Kept.refl _ _) (R' := fun b => w.heap.size ≤ b) (fun b h _ => Nat.le_trans B1.out.size h))
             clear hb2 hi2))
        go_ret2
        exact ⟨A2, n', k2, by rw [HE2.out]; rfl, B2.out, by rw [HR2.out]; exact I2.out⟩
  · have HB : Hid (getB l ⟨ac, an, am⟩ = []) := bag_none hi
    have hp : placeI l ac an = -1 := place_neg hi
    rw [hp] at HP
    clear hp hi
    have HE : Hid (getE l ⟨ac, an, am⟩ = if am = true then 4 else 0) := by show getE l ⟨ac, an, am⟩ = _; unfold getE; rw [HB.out]; simp
    have HR : Hid (getR l ⟨ac, an, am⟩ = []) := by show getR l ⟨ac, an, am⟩ = _; unfold getR; rw [HB.out]; simp
    generalize getE l ⟨ac, an, am⟩ = ee at *
    generalize getR l ⟨ac, an, am⟩ = rr at *
    cases am
    all_goals
      go_enter Try.func25, Try.ntmps25
      go_wp2_with (go_at_call 43; refine (HP.out _ ((Below.refl _ _).alloc (Nat.le_refl _) _)).mono ?_; rintro e w1 ⟨rfl, hb1⟩; have c0 := (Ob.below (Ob.made _ _ _) hb1 (by simp)).cell 2)
      go_ret2
      refine ⟨none, 0, 0, by rw [HE.out]; rfl, Below.lit hb1, by rw [HR.out]; exact Rw.nil_ _ _ _ _⟩
end Go.Proofs.Ytjpkemamfccfdaa
/- bailiffbook.Same over bytes: so just if the two rows are the same; nothing but draws. -/
namespace Go.Proofs.Ytjpkemamfccfdaa
open Go.RowKit

theorem take_step {α : Type} [DecidableEq α] {l m : List α} {k : Nat} (h1 : k < l.length) (h2 : k < m.length) (h : l.take k = m.take k) (he : l[k] = m[k]) : l.take (k + 1) = m.take (k + 1) := by
  rw [List.take_succ_eq_append_getElem h1, List.take_succ_eq_append_getElem h2, h, he]

set_option maxHeartbeats 800000 in
theorem same_any {w : World} {B B' n c n' c' : Nat} {A A' : Option Addr} {l m : List UInt8} (h : Sl w B A n c (bv l)) (h' : Sl w B' A' n' c' (bv m)) :
    Calls Try.prog 28 #[.slice A n c, .slice A' n' c'] w fun e w' => e = .returned (.bool (decide (l = m))) ∧ ∃ k, w' = w.drewN k := by
  have hl : l.length = n := by rw [← bv_len]; exact h.1
  have hm : m.length = n' := by rw [← bv_len]; exact h'.1
  have hcap := h.cap
  have hle := h.le
  unfold maxLen at hcap
  by_cases hn : n = n'
  · subst hn
    have H := Lib.hid h
    have H' := Lib.hid h'
    clear h h'
    have HL := Lib.hid hl
    have HM := Lib.hid hm
    clear hl hm
    go_enter Try.func28, Try.ntmps28
    go_wp2
    go_loopw [5] (fun i wr => ∃ k : Nat, k ≤ n ∧ i = .int .i64 k ∧ l.take k = m.take k ∧ ∃ q, wr = w.drewN q) (fun i _ => n - (intOf i).toNat)
    case atStart => exact ⟨0, Nat.zero_le _, rfl, rfl, 0, rfl⟩
    case round =>
      obtain ⟨k, hk, rfl, ht, q, rfl⟩ := hrel
      have HT := Lib.hid ht
      clear ht
      by_cases hlt : k < n
      · obtain ⟨b, o, rfl, _, hkl, hc⟩ := H.out.byte hlt
        obtain ⟨b', o', rfl, _, hkm, hc'⟩ := H'.out.byte hlt
        by_cases he : l[k] = m[k]
        · have hne : ((l[k].toNat : Int) != (m[k].toNat : Int)) = false := by rw [bytes_ne, he]; simp
          have HE := Lib.hid he
          clear he
          go_wp2_with fail
          go_quiet (fail)
          go_wp2
          go_roundw
          case rel => exact ⟨k + 1, by omega, by go_num, take_step hkl hkm HT.out HE.out, _, rfl⟩
          case measure => simp [intOf]; omega
        · have hne : ((l[k].toNat : Int) != (m[k].toNat : Int)) = true := by rw [bytes_ne]; simpa using he
          have HE := Lib.hid he
          clear he
          go_wp2_with fail
          go_quiet (fail)
          go_wp2
          go_ret
          refine ⟨ret_bool ?_, _, World.drewN_drewN ..⟩
          symm
          rw [decide_eq_false_iff_not]
          rintro rfl
          exact HE.out rfl
      · obtain rfl : k = n := by omega
        go_wp2
        go_ret
        refine ⟨ret_bool ?_, _, rfl⟩
        symm
        rw [decide_eq_true_iff]
        have := HT.out
        rwa [List.take_of_length_le (by rw [HL.out]; omega), List.take_of_length_le (by rw [HM.out]; omega)] at this
  · have hne : ((n : Int) != (n' : Int)) = true := by rw [bne_iff_ne]; omega
    have HL := Lib.hid hl
    have HM := Lib.hid hm
    clear hl hm h h'
    go_enter Try.func28, Try.ntmps28
    go_wp2
    go_ret
    refine ⟨ret_bool ?_, 0, rfl⟩
    symm
    rw [decide_eq_false_iff_not]
    rintro rfl
    exact hn (HL.out.symm.trans HM.out)

theorem same_true {w : World} {B B' n c n' c' : Nat} {A A' : Option Addr} {l m : List UInt8} (h : Sl w B A n c (bv l)) (h' : Sl w B' A' n' c' (bv m)) (e : l = m) :
    Calls Try.prog 28 #[.slice A n c, .slice A' n' c'] w fun e w' => e = .returned (.bool true) ∧ Below w.heap.size w w' :=
  (same_any h h').mono fun _ _ hh => ⟨by rw [hh.1, decide_eq_true e], by obtain ⟨k, hk⟩ := hh.2; rw [hk]; exact below_drewN (Below.refl _ _) k⟩

end Go.Proofs.Ytjpkemamfccfdaa
/- AskRuns, in any world: Get and Put of no request. -/
namespace Go.Proofs.Ytjpkemamfccfdaa
set_option linter.unusedVariables false
open Go.RowKit

set_option maxHeartbeats 800000 in
theorem insert_nil {c : Nat} (f : Value) (w : World) :
    Calls Try.prog 79 #[.slice none 0 0, .int .i64 0, .int .i64 0, f] w fun e w' => e = .returned (.tuple #[]) ∧ w' = w := by
  go_enter Try.func79, Try.ntmps79
  go_wp2
  go_loop [8] (fun i => i = .int .i64 1) (fun i => 0)
  case atStart => rfl
  case round =>
    obtain rfl := hrel
    go_wp2
    go_end0
    exact ⟨rfl, rfl⟩
set_option maxHeartbeats 800000 in
theorem stable_nil (f : Value) (w : World) :
    Calls Try.prog 76 #[.slice none 0 0, .int .i64 0, f] w fun e w' => e = .returned (.tuple #[]) ∧ w' = w := by
  go_enter Try.func76, Try.ntmps76
  go_wp2
  go_loop [7, 8] (fun i j => i = .int .i64 0 ∧ j = .int .i64 20) (fun i j => 0)
  case atStart => exact ⟨rfl, rfl⟩
  case round =>
    obtain ⟨rfl, rfl⟩ := hrel
    go_wp2_with (go_at_call 79; refine (insert_nil (c := 0) f w).mono ?_; rintro e w1 ⟨rfl, rfl⟩)
    go_loop [6] (fun i => i = .int .i64 20) (fun i => 0)
    case atStart => rfl
    case round =>
      obtain rfl := hrel
      go_wp2
      go_end0
      exact ⟨rfl, rfl⟩
theorem sorts_nil (f : Value) (w : World) :
    Calls Try.prog 63 #[.slice none 0 0, f] w fun e w' => e = .returned (.tuple #[]) ∧ w' = w := by
  go_enter Try.func63, Try.ntmps63
  go_wp2_with (go_at_call 76; refine (stable_nil f w).mono ?_; rintro e w1 ⟨rfl, rfl⟩)
  go_end0
  exact ⟨rfl, rfl⟩
theorem ordered_nil (w : World) :
    Calls Try.prog 48 #[.slice none 0 0] w fun e w' => e = .returned (.slice none 0 0) ∧ w' = w := by
  obtain ⟨i, hi, _, _, _⟩ := info_of givinfo
  have HR := Lib.hid (append_nil_src (ty := 30) (c := 0) Try.underlying30 hi (w := w) (World.ownsRow_nil w w.heap.size 48 3))
  clear hi
  go_enter Try.func48, Try.ntmps48
  go_wp2_with (first
    | (at_builtin; refine wpList_append_run rfl _ _ _ _ rfl rfl rfl HR.out ?_)
    | (go_at_call 63; refine (sorts_nil _ w).mono ?_; rintro e w1 ⟨rfl, rfl⟩))
  go_ret
  exact ⟨rfl, rfl⟩
set_option maxHeartbeats 800000 in
theorem put_nil (w : World) :
    Calls Try.prog 29 #[.slice none 0 0] w fun e w' => ∃ A n c, e = .returned (.slice A n c) ∧ Below w.heap.size w w' ∧ Sl w' w'.heap.size A n c (bv [0]) := by
  have HN := Lib.hid (num_nil w 0 (by omega) (by omega))
  go_enter Try.func29, Try.ntmps29
  go_wp2_with (first
    | (go_at_call 47; refine HN.out.mono ?_; rintro e w1 ⟨A, n, c, rfl, ho, hb⟩; have HO := Lib.hid ho; have HB := Lib.hid hb; clear ho hb)
    | (go_at_call 48; refine (ordered_nil _).mono ?_; rintro e w2 ⟨rfl, rfl⟩))
  go_loop [3, 14] (fun o i => o = .slice A n c ∧ i = .int .i64 0) (fun o i => 0)
  case atStart => exact ⟨rfl, rfl⟩
  case round =>
    obtain ⟨rfl, rfl⟩ := hrel
    go_wp2
    go_ret
    have e0 : numB 0 = [0] := by decide +kernel
    exact ⟨A, n, c, rfl, HB.out, Sl.of_own (by rw [← e0]; exact HO.out)⟩
set_option maxHeartbeats 1600000 in
theorem aruns_any (w : World) : Calls Try.prog 23 #[] w fun e w' => e = .returned (.bool true) ∧ Below w.heap.size w w' := by
  have HG := Lib.hid (aget_any (l := []) ⟨1, ⟨#[114, 111, 108, 101]⟩, true⟩ (Rw.nil_ 3 (GivAt w fun _ => True) w fun _ => True) (fun g hg => by cases hg))
  have e1 : getE [] ⟨1, ⟨#[114, 111, 108, 101]⟩, true⟩ = 4 := by rfl
  have e2 : getR [] ⟨1, ⟨#[114, 111, 108, 101]⟩, true⟩ = [] := by rfl
  rw [e1, e2] at HG
  clear e1 e2
  simp only at HG
  go_enter Try.func23, Try.ntmps23
  go_wp2_with (first
    | (go_at_call 25; refine HG.out.mono ?_; rintro e w1 ⟨A1, n1, c1, rfl, hb1, hv1⟩; obtain rfl : n1 = 0 := (Rw.len hv1).symm; have B1 := Lib.hid hb1; clear hb1 hv1)
    | (go_at_call 29; refine (put_nil _).mono ?_; rintro e w2 ⟨A2, n2, c2, rfl, hb2, hs2⟩; have B2 := Lib.hid (below_step B1.out hb2); have S2 := Lib.hid hs2
       have CS := Lib.hid (fun t => same_any (hs2.lit_keep (Nat.le_refl _) (.cells #[.int .u8 0] t)) (Sl.lit w2 t (bv [0]) 1 rfl (by simp [maxLen])))
       clear hb2 hs2)
    | (go_at_call 28; refine (CS.out _).mono ?_; rintro e w3 ⟨rfl, k3, rfl⟩))
  go_ret
  exact ⟨by simp, below_drewN (B2.out.alloc B2.out.size _) _⟩
end Go.Proofs.Ytjpkemamfccfdaa
/- ask.Put, walked: the bytes of the ordered row. -/
namespace Go.Proofs.Ytjpkemamfccfdaa
set_option linter.unusedVariables false
open Go.Shelf Go.RowKit Go.Lib Go.Sort

/-- What is put in order, and that it's not too much. -/
def FitsG (g : Giv) : Prop := g.name.size ≤ 100000 ∧ g.bag.length ≤ 100000 ∧ ∀ v ∈ g.bag, v.s.size ≤ 100000

theorem flatMap_take {α : Type} {f : α → List UInt8} {l : List α} {k : Nat} {x : α} (h : l[k]? = some x) : (l.take (k + 1)).flatMap f = (l.take k).flatMap f ++ f x := by
  rw [take_one h]; simp
theorem flatMap_le {α : Type} (f : α → List UInt8) (l : List α) (k : Nat) : ((l.take k).flatMap f).length ≤ (l.flatMap f).length := by
  have := congrArg (fun z => (List.flatMap f z).length) (List.take_append_drop k l)
  simp only [List.flatMap_append, List.length_append] at this
  omega

set_option maxHeartbeats 4000000 in
theorem put_row {w : World} {R : Nat → Prop} {A : Option Addr} {n c : Nat} {l : List Giv} (h : Gvs w R A n c l) (hn0 : 0 < n) (hn : n ≤ 100000) (hf : ∀ g ∈ l, FitsG g) (hsz : (l.flatMap givB).length ≤ 900000) :
    Calls Try.prog 29 #[.slice A n c] w fun e w' => ∃ A' n' c' d d', e = .returned (.slice A' n' c') ∧ Below w.heap.size w w' ∧ d.size = n ∧ d'.size = n ∧ d.toList.map Gh.g = l ∧ Mix 0 n (rowF d) (rowF d') ∧ Up (LeC cfG) (rowF d') 0 n ∧ w'.ownsRow w.heap.size 5 1 (.slice A' n' c') n' (bv (reqB (d'.toList.map Gh.g))) := by
  have hle := Rw.le h
  have hcap := Rw.cap h
  have HL := Lib.hid (Rw.len h)
  unfold maxLen at hcap
  have H : Aside (Gvs w (fun b => b < w.heap.size) A n c l) := h.keep (Kept.refl R w) fun b _ hb => hb
  have HF := Lib.hid hf
  have HZ := Lib.hid hsz
  clear h hf hsz
  have HN := Lib.hid (num_nil w (n : Int) (by omega) (by omega))
  go_enter Try.func29, Try.ntmps29
  go_upto_region 2 with (go_at_call 47; refine HN.out.mono ?_; rintro e w1 ⟨A1, n1, c1, rfl, ho1, hb1⟩)
  have O1 := Lib.hid ho1
  have B1 := Lib.hid hb1
  have HO := Lib.hid (ordered_any (Gvs.keep (R' := fun b => b < w.heap.size) H.out (Kept.all hb1 _) fun b hb _ => hb) hn0 (by omega))
  clear ho1 hb1 HN H
  go_upto_region 3 with (go_at_call 48; refine HO.out.mono ?_; rintro e w2 ⟨A2, c2, d, d', rfl, hb2, hd, hd', hdl, hM, hU, hG⟩)
  have HFL : Hid (∀ g ∈ d'.toList.map Gh.g, FitsG g) := mix_all hM hd hd' (by rw [hdl]; exact HF.out)
  have HZL : Hid (((d'.toList.map Gh.g).flatMap givB).length ≤ 900000) := by
    show _ ≤ _
    rw [mix_len givB hM hd hd', hdl]
    exact HZ.out
  have HLL : Hid ((d'.toList.map Gh.g).length = n) := by show _ = _; simp [hd']
  have hn1 : n1 ≤ 10 := by
    have h1 := O1.out.1
    have h2 := numB_len (n := (n : Int)) (by omega) (by omega)
    rw [bv_len] at h1
    omega
  obtain ⟨R3, hP, hG3⟩ : ∃ R3 : Nat → Prop, PutW R3 w.heap.size w2 w2 A1 n1 c1 (numB (n : Int)) ∧ Gvs w2 R3 A2 n c2 (d'.toList.map Gh.g) := by
    refine ⟨fun b => b < w.heap.size ∨ (w1.heap.size ≤ b ∧ b < w2.heap.size), ⟨own_then O1.out hb2, fun g hg => ?_, Kept.refl _ _, Below.refl _ _, Nat.le_trans B1.out.size hb2.size, fun b hb => ?_⟩, hG.keep (Kept.refl _ _) fun b hb hlt => ?_⟩
    · have := O1.out.lt g hg
      omega
    · have := B1.out.size
      have := hb2.size
      omega
    · rcases hb with hb | hb
      · exact .inl hb
      · exact .inr ⟨hb, hlt⟩
  have G3 : Aside (Gvs w2 R3 A2 n c2 (d'.toList.map Gh.g)) := hG3
  have P0 := Lib.hid hP
  have hle2 := Rw.le hG3
  have hcap2 := Rw.cap hG3
  unfold maxLen at hcap2
  have FIN : Hid (∃ d, d.size = n ∧ d.toList.map Gh.g = l ∧ Mix 0 n (rowF d) (rowF d')) := ⟨d, hd, hdl, hM⟩
  have HU := Lib.hid hU
  have HD := Lib.hid hd'
  have HB := Lib.hid (B1.out.trans (hb2.mono B1.out.size))
  clear hG hG3 hP hM hU hd hd' hdl hb2 O1 HF HZ HO
  generalize hLg : d'.toList.map Gh.g = L at *
  have HLg := Lib.hid hLg
  clear hLg
  go_loopw [3, 14] (fun s3 s14 wr => ∃ (k : Nat) (A' : Option Addr) (n' c' : Nat), k ≤ n ∧ s14 = .int .i64 k ∧ s3 = .slice A' n' c' ∧ Hid (PutW R3 w.heap.size w2 wr A' n' c' (numB (n : Int) ++ (L.take k).flatMap givB))) (fun _ s14 _ => n - (intOf s14).toNat)
  case atStart => exact ⟨0, A1, n1, c1, Nat.zero_le _, rfl, rfl, by show PutW _ _ _ _ _ _ _ _; simp only [List.take_zero, List.flatMap_nil, List.append_nil]; exact P0.out⟩
  case round =>
    clear P0
    obtain ⟨wo, hwo⟩ : ∃ wo, wo = wr := ⟨wr, rfl⟩
    subst hwo
    obtain ⟨k, A', n', c', hk, rfl, rfl, P⟩ := hrel
    by_cases hlt : k < n
    · obtain ⟨b, o, x, A5, n5, c5, rfl, hRb, hbl, hx, hok, ⟨x0, x1, x2⟩, hV⟩ := (Gvs.keep (R' := R3) G3.out P.out.kept fun _ h _ => h).at_ hlt
      have HX := Lib.hid hx
      have hfx := HFL.out x (List.mem_of_getElem? hx)
      have hlen := P.out.len
      have HSZ : Hid (n' + (givB x).length ≤ 900010) := by
        show _ ≤ _
        have h1 := flatMap_le givB L (k + 1)
        rw [flatMap_take hx] at h1
        have h2 := HZL.out
        have h3 := numB_len (n := (n : Int)) (by omega) (by omega)
        rw [List.length_append] at hlen h1
        omega
      have HOK := Lib.hid hok
      have hBK : Hid (∀ v ∈ x.bag, v.ok) := hV.oks
      have hle5 := Rw.le hV
      have hcap5 := Rw.cap hV
      have hl5 := Rw.len hV
      unfold maxLen at hcap5
      have HV : Aside (Vls wo R3 A5 n5 c5 x.bag) := hV
      obtain ⟨xc, xn, xb⟩ := x
      simp only at x0 x1 x2 HV hfx hBK hl5
      clear hx hok hV hlen
      have hok2 : -9223372036854775808 ≤ xc ∧ xc ≤ 9223372036854775807 := HOK.out.1
      have hfn := hfx.1
      have hfb := hfx.2.1
      have HFV := Lib.hid hfx.2.2
      simp only at hfn hfb
      clear hfx
      have hg1 := numB_len hok2.1 hok2.2
      have hg2 : (givB ⟨xc, xn, xb⟩).length = (numB xc).length + ((textB (bl xn)).length + ((numB (xb.length : Int)).length + (xb.flatMap putB).length)) := by
        unfold givB
        simp only [List.length_append]
      have HG2 := Lib.hid hg2
      clear hg1 hg2
      have Q0 := Lib.hid (P.out.more (.cells #[.int .i64 xc, .string xn, .slice A5 n5 c5] 48))
      have o0 : (wo.alloc (.cells #[.int .i64 xc, .string xn, .slice A5 n5 c5] 48)).cell? ⟨wo.heap.size, 0, none⟩ = some (.int .i64 xc) := (Ob.made wo 48 #[.int .i64 xc, .string xn, .slice A5 n5 c5]).cell 0
      have o1 : (wo.alloc (.cells #[.int .i64 xc, .string xn, .slice A5 n5 c5] 48)).cell? ⟨wo.heap.size, 1, none⟩ = some (.string xn) := (Ob.made wo 48 #[.int .i64 xc, .string xn, .slice A5 n5 c5]).cell 1
      have o2 : (wo.alloc (.cells #[.int .i64 xc, .string xn, .slice A5 n5 c5] 48)).cell? ⟨wo.heap.size, 2, none⟩ = some (.slice A5 n5 c5) := (Ob.made wo 48 #[.int .i64 xc, .string xn, .slice A5 n5 c5]).cell 2
      have hlt0 : wo.heap.size < (wo.alloc (.cells #[.int .i64 xc, .string xn, .slice A5 n5 c5] 48)).heap.size := by rw [size_al]; omega
      go_upto_region 5 with fail
      clear x0 x1 x2
      generalize hW0 : wo.alloc (.cells #[.int .i64 xc, .string xn, .slice A5 n5 c5] 48) = W0 at *
      have HV0 : Aside (Vls W0 (fun b => R3 b ∨ b = wo.heap.size) A5 n5 c5 xb) := by
        rw [← hW0]
        exact Vls.keep HV.out (Kept.all ((Below.refl _ _).alloc (Nat.le_refl _) _) _) fun b hb _ => .inl hb
      have HW0 := Lib.hid hW0
      clear hW0 HV
      generalize hpre : numB (n : Int) ++ (L.take k).flatMap givB = pre at *
      have HPRE := Lib.hid hpre
      clear hpre
      have HKC : Hid (∀ W A n c l, PutW (fun b => R3 b ∨ b = wo.heap.size) w.heap.size W0 W A n c l → ∀ o v, W0.cell? ⟨wo.heap.size, o, none⟩ = some v → W.cell? ⟨wo.heap.size, o, none⟩ = some v) :=
        fun W A n c l h o v hv => (World.cell?_of_block (h.kept.2 wo.heap.size (.inr rfl) hlt0)).trans hv
      go_upto_region 6 with (first
        | (go_at_call 47; refine (num_nil _ xc hok2.1 hok2.2).mono ?_; rintro e w5 ⟨A6, n6, c6, rfl, ho, hb⟩
           have e6 : (numB xc).length = n6 := by have := ho.1; rw [bv_len] at this; omega
           obtain ⟨A7, c7, w7, r7, P7⟩ := (Q0.out.then_ hb).append (ty := 61) (Sl.of_own ho) (by have := HSZ.out; have := HG2.out; omega)
           have E6 := Lib.hid e6; have R7 := Lib.hid r7; have Q1 := Lib.hid P7; clear ho hb r7 P7 e6)
        | (at_builtin; refine wpList_append_run rfl _ _ _ _ rfl rfl rfl R7.out ?_))
      have o1' := HKC.out _ _ _ _ _ Q1.out 1 _ o1
      clear Q0 R7
      go_upto_region 7 with (first
        | (go_at_call 49; refine (text_nil _ xn (by omega)).mono ?_; rintro e w8 ⟨A8, n8, c8, rfl, ho, hb⟩
           have e8 : (textB (bl xn)).length = n8 := by have := ho.1; rw [bv_len] at this; show (textB xn.data.toList).length = n8; omega
           obtain ⟨A9, c9, w9, r9, P9⟩ := (Q1.out.then_ hb).append (ty := 61) (Sl.of_own ho) (by have := HSZ.out; have := HG2.out; have := E6.out; omega)
           have E8 := Lib.hid e8; have R9 := Lib.hid r9; have Q2 := Lib.hid P9; clear ho hb r9 P9 e8)
        | (at_builtin; refine wpList_append_run rfl _ _ _ _ rfl rfl rfl R9.out ?_))
      have o2' := HKC.out _ _ _ _ _ Q2.out 2 _ o2
      clear Q1 R9 o1'
      go_upto_region 8 with (first
        | (go_at_call 47; refine (num_nil _ (n5 : Int) (by omega) (by omega)).mono ?_; rintro e wa ⟨Aa, na, ca, rfl, ho, hb⟩
           have ea : (numB (xb.length : Int)).length = na := by have := ho.1; rw [bv_len] at this; rw [hl5]; omega
           obtain ⟨Ab, cb, wb, rb, Pb⟩ := (Q2.out.then_ hb).append (ty := 61) (Sl.of_own ho) (by have := HSZ.out; have := HG2.out; have := E6.out; have := E8.out; omega)
           have EA := Lib.hid ea; have RB := Lib.hid rb; have Q3 := Lib.hid Pb; clear ho hb rb Pb ea)
        | (at_builtin; refine wpList_append_run rfl _ _ _ _ rfl rfl rfl RB.out ?_))
      have o3' := HKC.out _ _ _ _ _ Q3.out 2 _ o2
      clear Q2 RB o2'
      go_wp2
      go_loopw [3, 37] (fun t3 t37 wi => ∃ (j : Nat) (B' : Option Addr) (m' d' : Nat), j ≤ n5 ∧ t37 = .int .i64 j ∧ t3 = .slice B' m' d' ∧ Hid (PutW (fun b => R3 b ∨ b = wo.heap.size) w.heap.size W0 wi B' m' d' (pre ++ numB xc ++ textB (bl xn) ++ numB (n5 : Int) ++ (xb.take j).flatMap putB))) (fun _ t37 _ => n5 - (intOf t37).toNat)
      case atStart => exact ⟨0, _, _, _, Nat.zero_le _, rfl, rfl, by show PutW _ _ _ _ _ _ _ _; simp only [List.take_zero, List.flatMap_nil, List.append_nil]; exact Q3.out⟩
      case round =>
        clear Q3 o3'
        obtain ⟨j, B', m', d', hj, rfl, rfl, Q⟩ := hrel
        by_cases hltj : j < n5
        · obtain ⟨b2, o2, y, rfl, hRb2, hbl2, hy, hoky, ⟨y0, y1, y2⟩⟩ := (Vls.keep HV0.out Q.out.kept (R' := fun b => R3 b ∨ b = wo.heap.size) fun _ h _ => h).at_ hltj
          have HY := Lib.hid hy
          have hfy := HFV.out y (List.mem_of_getElem? hy)
          have hly := Q.out.len
          have HSY : Hid (m' + (putB y).length ≤ 1000000) := by
            show _ ≤ _
            have h1 := flatMap_le putB xb (j + 1)
            rw [flatMap_take hy] at h1
            have h2 := HSZ.out
            have h3 := HG2.out
            have h4 := P.out.len
            rw [hl5] at h3
            simp only [List.length_append] at hly h1
            omega
          obtain ⟨yk, yn, ys⟩ := y
          simp only at y0 y1 y2 hfy
          have HOY := Lib.hid hoky
          clear hy hly hoky
          have DY := Lib.hid ((Below.refl wr.heap.size wr).alloc (Nat.le_refl _) (.cells #[.int .i64 yk, .int .i64 yn, .string ys] 25))
          go_wp2_with (first
            | (go_at_call 50; refine (vput_any (l := []) (Sl.nil_ _ 0) (by omega) (by omega) HOY.out.1 HOY.out.2.1 (by omega)).mono ?_; rintro e wj ⟨Aj, nj, cj, rfl, ho, hb⟩
               have ej : (putB ⟨yk, yn, ys⟩).length = nj := by have := ho.1; rw [bv_len] at this; simp only [List.nil_append] at this; omega
               obtain ⟨Ak, ck, wk, rk, Pk⟩ := ((Q.out.then_ DY.out).then_ hb).append (ty := 61) (Sl.of_own ho) (by have := HSY.out; omega)
               have RK := Lib.hid rk; have QK := Lib.hid Pk; clear ho hb rk Pk ej)
            | (at_builtin; refine wpList_append_run rfl _ _ _ _ rfl rfl rfl RK.out ?_))
          go_roundw
          case rel =>
            refine ⟨j + 1, _, _, _, by omega, by go_num, rfl, ?_⟩
            show PutW _ _ _ _ _ _ _ _
            rw [flatMap_take HY.out, ← List.append_assoc]
            exact QK.out
          case measure => simp [intOf]; omega
        · obtain rfl : j = n5 := by omega
          go_wp2
          go_roundw
          case rel =>
            refine ⟨k + 1, _, _, _, by omega, by go_num, rfl, ?_⟩
            show PutW _ _ _ _ _ _ _ _
            rw [flatMap_take HX.out, ← List.append_assoc, HPRE.out]
            have q := Q.out
            rw [← HW0.out] at q
            have z := P.out.less q
            rw [List.take_of_length_le (by omega)] at z
            unfold givB
            simp only [List.append_assoc, hl5] at z ⊢
            exact z
          case measure => simp [intOf]; omega
    · obtain rfl : k = n := by omega
      go_wp2
      go_ret
      obtain ⟨d, h1, h2, h3⟩ := FIN.out
      refine ⟨A', n', c', d, d', rfl, HB.out.trans P.out.bel, h1, HD.out, h2, h3, HU.out, ?_⟩
      have := P.out.own
      rw [List.take_of_length_le (by have := HLL.out; omega)] at this
      rw [HLg.out]
      unfold reqB
      rw [HLL.out]
      exact this
end Go.Proofs.Ytjpkemamfccfdaa
/- An ordered row whose keys differ is the only one. -/
namespace Go.Proofs.Ytjpkemamfccfdaa
set_option linter.unusedVariables false

theorem up_only {α : Type} {le : α → α → Prop} {f g h : Nat → α} {a b : Nat} (x : Mix a b f g) (y : Mix a b f h) (hg : Up le g a b) (hh : Up le h a b)
    (hd : ∀ i j, a ≤ i → i < b → a ≤ j → j < b → le (f i) (f j) → le (f j) (f i) → i = j) : g = h := by
  obtain ⟨x0, σ, τ, x1⟩ := x
  obtain ⟨y0, σ', τ', y1⟩ := y
  have key : ∀ n i, i < n → a ≤ i → i < b → σ i = σ' i := by
    intro n
    induction n with
    | zero => intro i h _ _; omega
    | succ n ih =>
      intro i hi ha hb
      obtain ⟨p1, p2, _, _, p5, _, p7⟩ := x1 i ha hb
      obtain ⟨q1, q2, _, _, q5, _, q7⟩ := y1 i ha hb
      by_cases e : σ i = σ' i
      · exact e
      -- where the other's element stands
      obtain ⟨_, _, r3, r4, _, r6, _⟩ := x1 (σ' i) q1 q2
      obtain ⟨_, _, s3, s4, _, s6, _⟩ := y1 (σ i) p1 p2
      have hx : i ≤ τ (σ' i) := by
        by_cases c : i ≤ τ (σ' i)
        · exact c
        · have e1 := ih (τ (σ' i)) (by omega) r3 r4
          rw [r6] at e1
          have e2 := (y1 (τ (σ' i)) r3 r4).2.2.2.2.1
          rw [← e1, q5] at e2
          omega
      have hy : i ≤ τ' (σ i) := by
        by_cases c : i ≤ τ' (σ i)
        · exact c
        · have e1 := ih (τ' (σ i)) (by omega) s3 s4
          rw [s6] at e1
          have e2 := (x1 (τ' (σ i)) s3 s4).2.2.2.2.1
          rw [e1, p5] at e2
          omega
      have l1 := hg i (τ (σ' i)) ha hx r4
      rw [p7, (x1 _ r3 r4).2.2.2.2.2.2, r6] at l1
      have l2 := hh i (τ' (σ i)) ha hy s4
      rw [q7, (y1 _ s3 s4).2.2.2.2.2.2, s6] at l2
      exact hd _ _ p1 p2 q1 q2 l1 l2
  funext i
  by_cases hi : a ≤ i ∧ i < b
  · rw [(x1 i hi.1 hi.2).2.2.2.2.2.2, (y1 i hi.1 hi.2).2.2.2.2.2.2, key (i + 1) i (by omega) hi.1 hi.2]
  · rw [x0 i hi, y0 i hi]
end Go.Proofs.Ytjpkemamfccfdaa
/- bailiffkeep: how much may be gone through: takes, text. -/
namespace Go.Proofs.Ytjpkemamfccfdaa
set_option linter.unusedVariables false
open Go.RowKit

/-- What is left. -/
def Lf (w : World) (g m : Nat) : Prop := Ob w g 77 #[.int .i64 (m : Int)]
/-- A call that takes so much of it. -/
def Taking (f : FuncId) (args : Array Value) (w : World) (g m c : Nat) : Prop :=
  Calls Try.prog f args w fun e w' => e = .returned (.bool (decide (c ≤ m))) ∧ Only g w w' ∧ (c ≤ m → Lf w' g (m - c))
theorem Only.kept {g : Nat} {w w' : World} (h : Only g w w') {R : Nat → Prop} (hR : ∀ b, R b → b ≠ g) : Kept R w w' := ⟨h.le, fun b hb hl => h.heap hl (hR b hb)⟩
theorem Only.alloc (g : Nat) (w : World) (o : Obj) : Only g w (w.alloc o) := Only.of_below ((Below.refl _ _).alloc (Nat.le_refl _) _)

theorem takes_any {w : World} {g m n : Nat} (hl : Lf w g m) (hm : m ≤ 3000) (hn : n ≤ maxLen) : Taking 37 #[.pointer (some ⟨g, 0, none⟩), .int .i64 (n : Int)] w g m n := by
  unfold Taking
  have c0 := hl.cell 0
  have f0 := hl.frozen 0
  have HL := Lib.hid hl
  unfold maxLen at hn
  clear hl
  by_cases h : n ≤ m
  · have h' : ¬ (m : Int) < (n : Int) := by omega
    have e : (m : Int) - (n : Int) = ((m - n : Nat) : Int) := by omega
    have HD := Lib.hid h
    clear h
    go_enter Try.func37, Try.ntmps37
    go_wp2_with fail
    go_ret
    refine ⟨ret_bool (decide_eq_true HD.out).symm, Only.refl.setCell rfl _, fun _ => ?_⟩
    have := HL.out.put 0 (.int .i64 ((m - n : Nat) : Int))
    simpa [Lf] using this
  · have h' : (m : Int) < (n : Int) := by omega
    have HD := Lib.hid h
    clear h
    go_enter Try.func37, Try.ntmps37
    go_wp2_with fail
    go_ret
    exact ⟨ret_bool (decide_eq_false HD.out).symm, Only.refl, fun h => absurd h HD.out⟩

def textC (s : ByteArray) : Nat := 1 + s.size / 8
theorem ktext_any {w : World} {g m : Nat} (s : ByteArray) (hl : Lf w g m) (hm : m ≤ 3000) (hs : s.size ≤ maxLen) : Taking 38 #[.pointer (some ⟨g, 0, none⟩), .string s] w g m (textC s) := by
  unfold maxLen at hs
  have HT := Lib.hid (takes_any (n := textC s) hl hm (by unfold maxLen textC; omega))
  have e : ((textC s : Nat) : Int) = 1 + (s.size : Int) / 8 := by unfold textC; omega
  unfold Taking at HT ⊢
  rw [e] at HT
  clear hl e
  go_enter Try.func38, Try.ntmps38
  go_wp2_with (go_at_call 37; refine HT.out.mono ?_; rintro e w1 ⟨rfl, hb, hw⟩)
  go_ret
  exact ⟨rfl, hb, hw⟩

def sumC {α : Type} (f : α → Nat) : List α → Nat
  | [] => 0
  | x :: l => f x + sumC f l
theorem sumC_app {α : Type} (f : α → Nat) : ∀ (l m : List α), sumC f (l ++ m) = sumC f l + sumC f m
  | [], m => by simp [sumC]
  | x :: l, m => by simp only [List.cons_append, sumC, sumC_app f l m]; omega
theorem sumC_take {α : Type} {f : α → Nat} {l : List α} {k : Nat} {x : α} (h : l[k]? = some x) : sumC f (l.take (k + 1)) = sumC f (l.take k) + f x := by
  obtain ⟨hk, rfl⟩ := List.getElem?_eq_some_iff.1 h
  rw [List.take_succ_eq_append_getElem hk, sumC_app]
  rfl
theorem sumC_zero {α : Type} (f : α → Nat) (l : List α) : sumC f (l.take 0) = 0 := by simp [sumC]
theorem sumC_all {α : Type} {f : α → Nat} {l : List α} {n : Nat} (h : l.length = n) : sumC f (l.take n) = sumC f l := by rw [List.take_of_length_le (by omega)]
theorem sumC_le {α : Type} {f : α → Nat} {l : List α} {k : Nat} {x : α} (h : l[k]? = some x) : sumC f (l.take k) + f x ≤ sumC f l := by
  rw [← sumC_take h]
  have := sumC_app f (l.take (k + 1)) (l.drop (k + 1))
  rw [List.take_append_drop] at this
  omega
theorem sumC_mem {α : Type} {f : α → Nat} {l : List α} {x : α} (h : x ∈ l) : f x ≤ sumC f l := by
  obtain ⟨k, hk, rfl⟩ := List.getElem_of_mem h
  have := sumC_le (f := f) (List.getElem?_eq_getElem hk)
  omega
theorem Lf.alloc {w : World} {g m : Nat} (h : Lf w g m) (o : Obj) : Lf (w.alloc o) g m := Ob.keep h (Below.heap_alloc w o g (Ob.lt h))
end Go.Proofs.Ytjpkemamfccfdaa
/- bailiffkeep.Few: may a request be gone through in a while? -/
namespace Go.Proofs.Ytjpkemamfccfdaa
set_option linter.unusedVariables false
open Go.RowKit

def valC (v : Vl) : Nat := textC v.s
def givC (g : Giv) : Nat := textC g.name + g.bag.length + sumC valC g.bag
def fewC (l : List Giv) : Nat := 2 * l.length + sumC givC l
theorem few_each {l : List Giv} (h : fewC l ≤ 1200) {g : Giv} (hg : g ∈ l) : g.name.size ≤ 9600 ∧ g.bag.length ≤ 1200 ∧ ∀ v ∈ g.bag, v.s.size ≤ 9600 := by
  have h1 := sumC_mem (f := givC) hg
  unfold fewC at h
  have e : givC g = textC g.name + g.bag.length + sumC valC g.bag := rfl
  have e2 : textC g.name = 1 + g.name.size / 8 := rfl
  refine ⟨by omega, by omega, fun v hv => ?_⟩
  have h2 := sumC_mem (f := valC) hv
  have e3 : valC v = 1 + v.s.size / 8 := rfl
  omega
theorem few_len {l : List Giv} (h : fewC l ≤ 1200) : l.length ≤ 600 := by unfold fewC at h; omega

set_option maxHeartbeats 1600000 in
theorem few_any {w : World} {R : Nat → Prop} {A : Option Addr} {n c : Nat} {l : List Giv} (h0 : Gvs w R A n c l) :
    Calls Try.prog 15 #[.slice A n c] w fun e w' => e = .returned (.bool (decide (fewC l ≤ 1200))) ∧ Below w.heap.size w w' := by
  have hb0 : Below w.heap.size w (w.alloc (.cells #[.int .i64 1200] 77)) := (Below.refl _ _).alloc (Nat.le_refl _) _
  have h : Gvs (w.alloc (.cells #[.int .i64 1200] 77)) (fun b => b < w.heap.size) A n c l := h0.keep (Kept.all hb0 R) (fun b _ hb => hb)
  have hl : Lf (w.alloc (.cells #[.int .i64 1200] 77)) w.heap.size 1200 := Ob.made w _ _
  have hR : ∀ b, b < w.heap.size → b ≠ w.heap.size := fun b hb => by omega
  have hle := Rw.le h
  have hcap := Rw.cap h
  have hbig := Rw.big h
  have HL := Lib.hid (Rw.len h)
  have HT := Lib.hid (takes_any (n := 2 * n) hl (by omega) (by unfold maxLen; omega))
  unfold Taking at HT
  rw [show ((2 * n : Nat) : Int) = 2 * (n : Int) by omega] at HT
  have H := Lib.hid h
  have HR := Lib.hid hR
  have HB0 := Lib.hid hb0
  have HC : Hid (fewC l = 2 * n + sumC givC l) := by show fewC l = _; unfold fewC; rw [HL.out]
  unfold maxLen at hcap
  generalize hcc : fewC l = cc at *
  have HG : Hid (∀ W, Only w.heap.size (w.alloc (.cells #[.int .i64 1200] 77)) W → Below w.heap.size w W) := Lib.hid (fun W hW => hb0.trans (hW.below (by simp) (Nat.le_refl _)))
  clear hcc h hl hR hb0 h0
  generalize hg : w.heap.size = g at *
  by_cases h1 : 2 * n ≤ 1200
  · rw [decide_eq_true h1] at HT
    have H1 := Lib.hid h1
    clear h1
    go_enter Try.func15, Try.ntmps15
    go_wp2_with (go_at_call 37; refine HT.out.mono ?_; rintro e w1 ⟨rfl, hb, hw⟩; have B1 := Lib.hid hb; have W1 := Lib.hid (hw H1.out); clear hb hw)
    go_loopw [18] (fun i wr => ∃ k mk : Nat, k ≤ n ∧ i = .int .i64 k ∧ sumC givC (l.take k) + mk = 1200 - 2 * n ∧ Lf wr g mk ∧ Only g (w.alloc (.cells #[.int .i64 1200] 77)) wr) (fun i _ => n - (intOf i).toNat)
    case atStart => exact ⟨0, 1200 - 2 * n, Nat.zero_le _, rfl, by rw [sumC_zero]; omega, W1.out, B1.out⟩
    case round =>
      obtain ⟨wo, hwo⟩ : ∃ wo, wo = wr := ⟨wr, rfl⟩
      subst hwo
      obtain ⟨k, mk, hk, rfl, hs, hlf, hb⟩ := hrel
      have HS := Lib.hid hs
      have HB := Lib.hid hb
      have HF := Lib.hid hlf
      clear hs hb hlf
      by_cases hlt : k < n
      · obtain ⟨b, o, x, A', n', c', rfl, hRb, hbl, hx, hok, ⟨c0, c1, c2⟩, hin⟩ := (H.out.keep (HB.out.kept HR.out) (fun _ h _ => h)).at_ hlt
        have HX := Lib.hid hx
        have hle' := Rw.le hin
        have hcap' := Rw.cap hin
        have hbig' := Rw.big hin
        have HL' := Lib.hid (Rw.len hin)
        have HIN := Lib.hid hin
        have HSX := Lib.hid (sumC_le (f := givC) hx)
        have HEX : Hid (givC x = textC x.name + n' + sumC valC x.bag) := by show givC x = _; unfold givC; rw [HL'.out]
        have HXT := Lib.hid (ktext_any x.name (HF.out.alloc (.cells #[.int .i64 x.cat, .string x.name, .slice A' n' c'] 48)) (by have := HS.out; omega) hok.2)
        unfold Taking at HXT
        have hne : wo.heap.size ≠ g := by have := HF.out.lt; omega
        unfold maxLen at hcap'
        clear hx hok hin
        by_cases h2 : textC x.name ≤ mk
        · rw [decide_eq_true h2] at HXT
          have H2 := Lib.hid h2
          clear h2
          by_cases h3 : n' ≤ mk - textC x.name
          · have d3 := decide_eq_true h3
            have H3 := Lib.hid h3
            clear h3
            go_wp2_with (first
              | (go_at_call 38; (with_reducible refine HXT.out.mono ?_); rintro e w2 ⟨rfl, hb, hw⟩; have B2 := Lib.hid hb; have W2 := Lib.hid (hw H2.out); have BX := Lib.hid ((Ob.made wo 48 #[.int .i64 x.cat, .string x.name, .slice A' n' c']).keep (hb.heap (by simp) hne)); have g2 := BX.out.cell 2; have HT3 := Lib.hid (takes_any (n := n') W2.out (by have := HS.out; omega) (by unfold maxLen; omega)); unfold Taking at HT3; rw [d3] at HT3; clear hb hw)
              | (go_at_call 37; (with_reducible refine HT3.out.mono ?_); rintro e w3 ⟨rfl, hb, hw⟩; have B3 := Lib.hid hb; have W3 := Lib.hid (hw H3.out); have BX3 := Lib.hid (BX.out.keep (hb.heap BX.out.lt hne)); have g3 := BX3.out.cell 2; clear hb hw))
            go_loopw [38] (fun i wq => ∃ k2 m2 : Nat, k2 ≤ n' ∧ i = .int .i64 k2 ∧ sumC valC (x.bag.take k2) + m2 = mk - textC x.name - n' ∧ Lf wq g m2 ∧ Only g wo wq) (fun i _ => n' - (intOf i).toNat)
            case atStart => exact ⟨0, mk - textC x.name - n', Nat.zero_le _, rfl, by rw [sumC_zero]; omega, W3.out, (Only.alloc _ _ _).trans (B2.out.trans B3.out)⟩
            case round =>
              obtain ⟨wq, hwq⟩ : ∃ wq, wq = wr := ⟨wr, rfl⟩
              subst hwq
              obtain ⟨k2, m2, hk2, rfl, hs, hlf, hb⟩ := hrel
              have HS2 := Lib.hid hs
              have HB2 := Lib.hid hb
              have HF2 := Lib.hid hlf
              clear hs hb hlf
              by_cases hlt2 : k2 < n'
              · obtain ⟨b2, o2, y, rfl, hRb2, hbl2, hy, hoky, ⟨f0, f1, f2⟩⟩ := (HIN.out.keep (HB2.out.kept HR.out) (fun _ h _ => h)).at_ hlt2
                have HY := Lib.hid hy
                have HSY := Lib.hid (sumC_le (f := valC) hy)
                have HEY : Hid (valC y = textC y.s) := rfl
                have HYT := Lib.hid (ktext_any y.s (HF2.out.alloc (.cells #[.int .i64 y.k, .int .i64 y.n, .string y.s] 25)) (by have := HS2.out; have := HS.out; omega) hoky.2.2)
                unfold Taking at HYT
                clear hy hoky
                by_cases h4 : textC y.s ≤ m2
                · rw [decide_eq_true h4] at HYT
                  have H4 := Lib.hid h4
                  clear h4
                  go_wp2_with (go_at_call 38; (with_reducible refine HYT.out.mono ?_); rintro e w4 ⟨rfl, hb, hw⟩; have B4 := Lib.hid hb; have W4 := Lib.hid (hw H4.out); clear hb hw)
                  go_roundw
                  case rel => exact ⟨k2 + 1, m2 - textC y.s, by omega, by go_num, by rw [sumC_take HY.out, HEY.out]; have := HS2.out; have := H4.out; omega, W4.out, HB2.out.trans ((Only.alloc _ _ _).trans B4.out)⟩
                  case measure => simp [intOf]; omega
                · rw [decide_eq_false h4] at HYT
                  have H4 := Lib.hid h4
                  clear h4
                  go_wp2_with (go_at_call 38; (with_reducible refine HYT.out.mono ?_); rintro e w4 ⟨rfl, hb, hw⟩; have B4 := Lib.hid hb; clear hb hw)
                  go_ret
                  have hbad : ¬ cc ≤ 1200 := by
                    have := HC.out; have := HS.out; have := H1.out; have := HSX.out; have := HEX.out; have := H2.out; have := H3.out; have := HS2.out; have := HSY.out; have := HEY.out; have := H4.out
                    omega
                  exact ⟨ret_bool (decide_eq_false hbad).symm, HG.out _ (HB.out.trans (HB2.out.trans ((Only.alloc _ _ _).trans B4.out)))⟩
              · obtain rfl : k2 = n' := by omega
                go_wp2
                go_roundw
                case rel => exact ⟨k + 1, m2, by omega, by go_num, by rw [sumC_take HX.out, HEX.out]; have := HS2.out; rw [sumC_all HL'.out] at this; have := HS.out; have := H2.out; have := H3.out; omega, HF2.out, HB.out.trans HB2.out⟩
                case measure => simp [intOf]; omega
          · have d3 := decide_eq_false h3
            have H3 := Lib.hid h3
            clear h3
            go_wp2_with (first
              | (go_at_call 38; (with_reducible refine HXT.out.mono ?_); rintro e w2 ⟨rfl, hb, hw⟩; have B2 := Lib.hid hb; have W2 := Lib.hid (hw H2.out); have BX := Lib.hid ((Ob.made wo 48 #[.int .i64 x.cat, .string x.name, .slice A' n' c']).keep (hb.heap (by simp) hne)); have g2 := BX.out.cell 2; have HT3 := Lib.hid (takes_any (n := n') W2.out (by have := HS.out; omega) (by unfold maxLen; omega)); unfold Taking at HT3; rw [d3] at HT3; clear hb hw)
              | (go_at_call 37; (with_reducible refine HT3.out.mono ?_); rintro e w3 ⟨rfl, hb, hw⟩; have B3 := Lib.hid hb; clear hb hw))
            go_ret
            have hbad : ¬ cc ≤ 1200 := by
              have := HC.out; have := HS.out; have := H1.out; have := HSX.out; have := HEX.out; have := H2.out; have := H3.out
              omega
            exact ⟨ret_bool (decide_eq_false hbad).symm, HG.out _ (HB.out.trans ((Only.alloc _ _ _).trans (B2.out.trans B3.out)))⟩
        · rw [decide_eq_false h2] at HXT
          have H2 := Lib.hid h2
          clear h2
          go_wp2_with (go_at_call 38; (with_reducible refine HXT.out.mono ?_); rintro e w2 ⟨rfl, hb, hw⟩; have B2 := Lib.hid hb; clear hb hw)
          go_ret
          have hbad : ¬ cc ≤ 1200 := by
            have := HC.out; have := HS.out; have := H1.out; have := HSX.out; have := HEX.out; have := H2.out
            omega
          exact ⟨ret_bool (decide_eq_false hbad).symm, HG.out _ (HB.out.trans ((Only.alloc _ _ _).trans B2.out))⟩
      · obtain rfl : k = n := by omega
        go_wp2
        go_ret
        have hs := HS.out
        rw [sumC_all HL.out] at hs
        have := HC.out
        have := H1.out
        exact ⟨ret_bool (decide_eq_true (by omega)).symm, HG.out _ HB.out⟩
  · rw [decide_eq_false h1] at HT
    have H1 := Lib.hid h1
    clear h1
    go_enter Try.func15, Try.ntmps15
    go_wp2_with (go_at_call 37; refine HT.out.mono ?_; rintro e w1 ⟨rfl, hb, hw⟩; have B1 := Lib.hid hb; clear hb hw)
    go_ret
    have hbad : ¬ cc ≤ 1200 := by have := HC.out; have := H1.out; omega
    exact ⟨ret_bool (decide_eq_false hbad).symm, HG.out _ B1.out⟩
end Go.Proofs.Ytjpkemamfccfdaa
/- What Put writes, plainly: one row of bytes for a request in any order, more bytes for more. -/
namespace Go.Proofs.Ytjpkemamfccfdaa
set_option linter.unusedVariables false

def lsF (l : List Giv) : Nat → Giv := fun t => l[t]!
def leG (x y : Giv) : Prop := ¬ aheadG y x
/-- The bytes are those of the request in order. -/
def PutOf (l : List Giv) (bs : List UInt8) : Prop := ∃ m : List Giv, m.length = l.length ∧ Mix 0 l.length (lsF l) (lsF m) ∧ Up leG (lsF m) 0 l.length ∧ bs = reqB m

theorem lsF_row (d : Array Gh) : lsF (d.toList.map Gh.g) = fun t => (rowF d t).g := by
  funext t
  unfold lsF rowF
  by_cases h : t < d.size
  · simp [h]
  · simp [h]
    rfl
theorem mix_map {α β : Type} {f g : Nat → α} {a b : Nat} (p : α → β) (h : Mix a b f g) : Mix a b (fun t => p (f t)) (fun t => p (g t)) := by
  obtain ⟨h0, σ, τ, x⟩ := h
  refine ⟨fun i hi => by show p (g i) = p (f i); rw [h0 i hi], σ, τ, fun i h1 h2 => ?_⟩
  obtain ⟨a1, a2, a3, a4, a5, a6, a7⟩ := x i h1 h2
  exact ⟨a1, a2, a3, a4, a5, a6, by show p (g i) = _; rw [a7]⟩
theorem put_of {d d' : Array Gh} {n : Nat} {l : List Giv} (hd : d.size = n) (hd' : d'.size = n) (hl : d.toList.map Gh.g = l) (hM : Mix 0 n (rowF d) (rowF d')) (hU : Up (LeC cfG) (rowF d') 0 n) : PutOf l (reqB (d'.toList.map Gh.g)) := by
  subst hl
  refine ⟨d'.toList.map Gh.g, by simp [hd, hd'], ?_, ?_, rfl⟩
  · rw [lsF_row, lsF_row, show (d.toList.map Gh.g).length = n by simp [hd]]
    exact mix_map Gh.g hM
  · rw [lsF_row, show (d.toList.map Gh.g).length = n by simp [hd]]
    intro i j h1 h2 h3
    have := hU i j h1 h2 h3
    rw [le_iff] at this
    exact this
theorem put_of_nil : PutOf [] [0] := ⟨[], rfl, Mix.refl _ _ _, fun i j h1 h2 h3 => by simp at h3, by decide +kernel⟩

theorem le_keyG {x y : Giv} (h1 : leG x y) (h2 : leG y x) : x.cat = y.cat ∧ x.name = y.name := by
  rcases ahead_total x y with c | c | c
  · exact absurd c h2
  · exact absurd c h1
  · exact c
theorem lsF_get {l : List Giv} {i : Nat} (h : i < l.length) : l[i]? = some (lsF l i) := by
  unfold lsF
  rw [List.getElem?_eq_getElem h]
  simp [h]
/-- No two of one category and name. -/
def Apart (l : List Giv) : Prop := ∀ (j k : Nat) x g, l[j]? = some x → l[k]? = some g → j < k → isG g.cat g.name x = false
theorem lsF_ext {l m : List Giv} (hl : l.length = m.length) (h : lsF l = lsF m) : l = m := by
  apply List.ext_getElem?
  intro i
  by_cases hi : i < l.length
  · rw [lsF_get hi, lsF_get (by omega), h]
  · rw [List.getElem?_eq_none (by omega), List.getElem?_eq_none (by omega)]
/-- In whatever order they are given: the same bytes. -/
theorem put_turned {l m : List Giv} {b1 b2 : List UInt8} (hl : m.length = l.length) (hM : Mix 0 l.length (lsF l) (lsF m)) (hA : Apart l) (h1 : PutOf l b1) (h2 : PutOf m b2) : b1 = b2 := by
  obtain ⟨p, p1, p2, p3, rfl⟩ := h1
  obtain ⟨q, q1, q2, q3, rfl⟩ := h2
  rw [hl] at q1 q2 q3
  have := up_only p2 (hM.trans q2) p3 q3 fun i j _ hi _ hj a b => by
    have ha := le_keyG a b
    rcases Nat.lt_trichotomy i j with c | c | c
    · have := hA i j _ _ (lsF_get hi) (lsF_get hj) c
      rw [isG_iff.2 ha] at this
      cases this
    · exact c
    · have := hA j i _ _ (lsF_get hj) (lsF_get hi) c
      rw [isG_iff.2 ⟨ha.1.symm, ha.2.symm⟩] at this
      cases this
  rw [lsF_ext (by omega) this]
/-- How many bytes they are. -/
theorem lsF_take {l : List Giv} (f : Giv → List UInt8) : ∀ k : Nat, k ≤ l.length → ((l.take k).flatMap f).length = sumTo k fun i => (f (lsF l i)).length
  | 0, _ => rfl
  | k + 1, h => by
    obtain ⟨hk, e⟩ := List.getElem?_eq_some_iff.1 (lsF_get (l := l) (i := k) (by omega))
    rw [List.take_succ_eq_append_getElem hk, List.flatMap_append, List.length_append, lsF_take f k (by omega), e]
    simp [sumTo]
theorem put_len {l : List Giv} {b : List UInt8} (h : PutOf l b) : b.length = (numB (l.length : Int)).length + (l.flatMap givB).length := by
  obtain ⟨m, m1, m2, _, rfl⟩ := h
  have e1 := lsF_take (l := l) givB l.length (Nat.le_refl _)
  have e2 := lsF_take (l := m) givB l.length (by omega)
  rw [List.take_of_length_le (by omega)] at e1
  rw [List.take_of_length_le (by omega)] at e2
  unfold reqB
  rw [List.length_append, m1, e2, mix_sum (fun x => (givB x).length) m2, ← e1]
theorem enc_mono : ∀ (u v : Nat), u ≤ v → (enc u).length ≤ (enc v).length := by
  intro u
  induction u using enc.induct with
  | case1 u h =>
    intro v _
    rw [enc_small h]
    exact enc_pos v
  | case2 u h ih =>
    intro v hv
    rw [enc_big (u := u) (by omega), enc_big (u := v) (by omega)]
    simp only [List.length_cons]
    have := ih (v / 128) (by omega)
    omega
theorem numB_mono {a b : Nat} (h : a ≤ b) : (numB (a : Int)).length ≤ (numB (b : Int)).length := by
  unfold numB
  refine enc_mono _ _ ?_
  unfold zig
  rw [if_neg (by omega), if_neg (by omega)]
  omega
theorem putB_pos (v : Vl) : 0 < (putB v).length := by
  unfold putB
  have : 0 < (numB v.k).length := enc_pos (zig v.k)
  split <;> rw [List.length_append] <;> omega
/-- One attribute more is more bytes. -/
theorem put_more {l : List Giv} {g : Giv} {b1 b2 : List UInt8} (h1 : PutOf l b1) (h2 : PutOf (l ++ [g]) b2) : b1.length < b2.length := by
  rw [put_len h1, put_len h2]
  have := numB_mono (a := l.length) (b := (l ++ [g]).length) (by simp)
  have e : (givB g).length > 0 := by
    unfold givB
    have : 0 < (numB g.cat).length := enc_pos (zig g.cat)
    rw [List.length_append]
    omega
  simp only [List.flatMap_append, List.length_append, List.flatMap_cons, List.flatMap_nil, List.append_nil] at this ⊢
  omega
/-- One value more is more bytes. -/
theorem put_longer {l : List Giv} {k : Nat} {g : Giv} {v : Vl} {b1 b2 : List UInt8} (hk : l[k]? = some g) (h1 : PutOf l b1) (h2 : PutOf (l.set k { g with bag := g.bag ++ [v] }) b2) : b1.length < b2.length := by
  rw [put_len h1, put_len h2]
  obtain ⟨hlt, rfl⟩ := List.getElem?_eq_some_iff.1 hk
  have e1 : l = l.take k ++ l[k] :: l.drop (k + 1) := by simp
  have e2 : l.set k { l[k] with bag := l[k].bag ++ [v] } = l.take k ++ { l[k] with bag := l[k].bag ++ [v] } :: l.drop (k + 1) := List.set_eq_take_append_cons_drop .. |>.trans (if_pos hlt)
  have e3 : (l.flatMap givB).length = ((l.take k).flatMap givB).length + ((givB l[k]).length + ((l.drop (k + 1)).flatMap givB).length) := by
    conv => lhs; rw [e1]
    simp only [List.flatMap_append, List.flatMap_cons, List.length_append]
  rw [e2, e3]
  simp only [List.flatMap_append, List.flatMap_cons, List.length_append, List.length_cons, List.length_take, List.length_drop]
  have := numB_mono (a := l[k].bag.length) (b := (l[k].bag ++ [v]).length) (by simp)
  have hv := putB_pos v
  have e4 : min k l.length + (l.length - (k + 1) + 1) = l.length := by omega
  rw [e4]
  simp only [givB, List.length_append, List.flatMap_append, List.flatMap_cons, List.flatMap_nil, List.append_nil, List.length_cons, List.length_nil] at this ⊢
  omega
/-- Few steps are few bytes. -/
theorem putB_few (v : Vl) (h : v.ok) (hs : v.s.size ≤ 100000) : (putB v).length ≤ 100 * valC v := by
  obtain ⟨h1, h2, h3⟩ := h
  have a := numB_len h1.1 h1.2
  have b := numB_len h2.1 h2.2
  have e : valC v = 1 + v.s.size / 8 := rfl
  have c := numB_len (n := (v.l.length : Int)) (by omega) (by
    have : v.l.length = v.s.size := by simp [Vl.l]
    omega)
  have d : v.l.length = v.s.size := by simp [Vl.l]
  unfold putB textB
  split <;> simp only [List.length_append] <;> omega
theorem flat_few {α : Type} {f : α → List UInt8} {c : α → Nat} : ∀ {l : List α}, (∀ x ∈ l, (f x).length ≤ 100 * c x) → (l.flatMap f).length ≤ 100 * sumC c l
  | [], _ => by simp
  | x :: l, h => by
    have := flat_few (f := f) (c := c) (l := l) fun y hy => h y (List.mem_cons_of_mem _ hy)
    have hx := h x (List.mem_cons_self ..)
    simp only [List.flatMap_cons, List.length_append, sumC]
    omega
theorem givB_few (g : Giv) (h : g.ok) (hn : g.name.size ≤ 100000) (hb : g.bag.length ≤ 100000) (hv : ∀ v ∈ g.bag, v.ok ∧ v.s.size ≤ 100000) : (givB g).length ≤ 100 * givC g := by
  have a := numB_len h.1.1 h.1.2
  have d : (bl g.name).length = g.name.size := by simp [bl]
  have b := numB_len (n := ((bl g.name).length : Int)) (by omega) (by omega)
  have c := numB_len (n := (g.bag.length : Int)) (by omega) (by omega)
  have f := flat_few (f := putB) (c := valC) (l := g.bag) fun v hv' => putB_few v (hv v hv').1 (hv v hv').2
  have e : givC g = (1 + g.name.size / 8) + g.bag.length + sumC valC g.bag := rfl
  unfold givB textB
  simp only [List.length_append]
  omega
theorem reqB_few {l : List Giv} (h : ∀ g ∈ l, g.ok ∧ g.name.size ≤ 100000 ∧ g.bag.length ≤ 100000 ∧ ∀ v ∈ g.bag, v.ok ∧ v.s.size ≤ 100000) : (l.flatMap givB).length ≤ 100 * sumC givC l :=
  flat_few fun g hg => givB_few g (h g hg).1 (h g hg).2.1 (h g hg).2.2.1 (h g hg).2.2.2
end Go.Proofs.Ytjpkemamfccfdaa
/- ask.Put of any row: the bytes of the request in order. -/
namespace Go.Proofs.Ytjpkemamfccfdaa
set_option linter.unusedVariables false
open Go.RowKit

theorem append_empty {P : Program} {T E ty : TypeId} {i : TypeInfo} (ht : P.underlying T = some (.slice E)) (hi : P.info? E = some i) (A : Option Addr) (c : Nat) (w : World) :
    (Builtin.append_ #[T, T] ty #[.slice none 0 0, .slice A 0 c]).run P w = .ok (.slice none 0 0) w := by
  cases A with
  | none => simp [Builtin.append_, run_underlying ht, sizeOf, typeInfo, hi, Builtin.lenOf, Builtin.firstCells]
  | some a => simp [Builtin.append_, run_underlying ht, sizeOf, typeInfo, hi, Builtin.lenOf, Builtin.firstCells, loadCells, loadCellsFrom]
theorem ordered_empty (A : Option Addr) (c : Nat) (w : World) :
    Calls Try.prog 48 #[.slice A 0 c] w fun e w' => e = .returned (.slice none 0 0) ∧ w' = w := by
  obtain ⟨i, hi, _, _, _⟩ := info_of givinfo
  have HR := Lib.hid (append_empty (ty := 30) Try.underlying30 hi A c w)
  clear hi
  go_enter Try.func48, Try.ntmps48
  go_wp2_with (first
    | (at_builtin; refine wpList_append_run rfl _ _ _ _ rfl rfl rfl HR.out ?_)
    | (go_at_call 63; refine (sorts_nil _ w).mono ?_; rintro e w1 ⟨rfl, rfl⟩))
  go_ret
  exact ⟨rfl, rfl⟩
set_option maxHeartbeats 800000 in
theorem put_empty (A0 : Option Addr) (c0 : Nat) (w : World) :
    Calls Try.prog 29 #[.slice A0 0 c0] w fun e w' => ∃ A n c, e = .returned (.slice A n c) ∧ Below w.heap.size w w' ∧ Sl w' w'.heap.size A n c (bv [0]) := by
  have HN := Lib.hid (num_nil w 0 (by omega) (by omega))
  go_enter Try.func29, Try.ntmps29
  go_wp2_with (first
    | (go_at_call 47; refine HN.out.mono ?_; rintro e w1 ⟨A, n, c, rfl, ho, hb⟩; have HO := Lib.hid ho; have HB := Lib.hid hb; clear ho hb)
    | (go_at_call 48; refine (ordered_empty A0 c0 _).mono ?_; rintro e w2 ⟨rfl, rfl⟩))
  go_loop [3, 14] (fun o i => o = .slice A n c ∧ i = .int .i64 0) (fun o i => 0)
  case atStart => exact ⟨rfl, rfl⟩
  case round =>
    obtain ⟨rfl, rfl⟩ := hrel
    go_wp2
    go_ret
    have e0 : numB 0 = [0] := by decide +kernel
    exact ⟨A, n, c, rfl, HB.out, Sl.of_own (by rw [← e0]; exact HO.out)⟩

/-- A request that Put's walk bears. -/
structure FitsL (l : List Giv) : Prop where
  len : l.length ≤ 100000
  each : ∀ g ∈ l, FitsG g
  few : sumC givC l ≤ 9000
theorem few_fits {l : List Giv} (h : fewC l ≤ 1200) : FitsL l := by
  refine ⟨by have := few_len h; omega, fun g hg => ?_, by unfold fewC at h; omega⟩
  obtain ⟨h1, h2, h3⟩ := few_each h hg
  exact ⟨by omega, by omega, fun v hv => by have := h3 v hv; omega⟩
theorem put_any {w : World} {R : Nat → Prop} {A : Option Addr} {n c : Nat} {l : List Giv} (h : Gvs w R A n c l) (hf : FitsL l) :
    Calls Try.prog 29 #[.slice A n c] w fun e w' => ∃ A' n' c' bs, e = .returned (.slice A' n' c') ∧ Below w.heap.size w w' ∧ PutOf l bs ∧ Sl w' w'.heap.size A' n' c' (bv bs) := by
  have hl := Rw.len h
  by_cases h0 : n = 0
  · subst h0
    obtain rfl : l = [] := List.length_eq_zero_iff.1 hl
    refine (put_empty A c w).mono ?_
    rintro e w' ⟨A', n', c', rfl, hb, hs⟩
    exact ⟨A', n', c', [0], rfl, hb, put_of_nil, hs⟩
  · have hsz : (l.flatMap givB).length ≤ 900000 := by
      have hok := h.oks
      have := reqB_few (l := l) fun g hg => ⟨(hok g hg).1, (hf.each g hg).1, (hf.each g hg).2.1, fun v hv => ⟨(hok g hg).2 v hv, (hf.each g hg).2.2 v hv⟩⟩
      have := hf.few
      omega
    refine (put_row h (by omega) (by have := hf.len; omega) hf.each hsz).mono ?_
    rintro e w' ⟨A', n', c', d, d', rfl, hb, hd, hd', hdl, hM, hU, ho⟩
    exact ⟨A', n', c', _, rfl, hb, put_of hd hd' hdl hM hU, Sl.of_own ho⟩
end Go.Proofs.Ytjpkemamfccfdaa
/- Sums, differences and products of two numbers of 64 bits: which go, and how those that wrap round are told. Plain. -/
namespace Go.Proofs.Ytjpkemamfccfdaa
set_option linter.unusedVariables false
open Go.RowKit

/-- In the bounds of an int. -/
def In64 (n : Int) : Prop := -9223372036854775808 ≤ n ∧ n ≤ 9223372036854775807
instance (n : Int) : Decidable (In64 n) := by unfold In64; infer_instance
/-- P6.1, of the number that it would be. -/
def fits (n : Int) : Int × Int := if In64 n then (n, 0) else (0, 3)
theorem fits_in {n : Int} (h : In64 n) : fits n = (n, 0) := if_pos h
theorem fits_out {n : Int} (h : ¬ In64 n) : fits n = (0, 3) := if_neg h
theorem wrap_in {n : Int} (h : In64 n) : IntKind.i64.wrap n = n := IntWalk.i64_in n h
theorem wrap_is (n : Int) : ∃ q : Int, IntKind.i64.wrap n = n - 18446744073709551616 * q ∧ In64 (IntKind.i64.wrap n) := by
  refine ⟨(n + 9223372036854775808) / 18446744073709551616, ?_, ?_⟩
  · rw [IntKind.wrap_i64]; omega
  · unfold In64; rw [IntKind.wrap_i64]; omega
theorem wrap_out {n : Int} (h : ¬ In64 n) : ∃ q : Int, q ≠ 0 ∧ IntKind.i64.wrap n = n - 18446744073709551616 * q ∧ In64 (IntKind.i64.wrap n) := by
  obtain ⟨q, e, hi⟩ := wrap_is n
  refine ⟨q, ?_, e, hi⟩
  rintro rfl
  rw [e] at hi
  exact h (by simpa using hi)
/-- A number a little too great, or too small. -/
theorem wrap_near {n : Int} (h : ¬ In64 n) (hl : -18446744073709551616 ≤ n) (hu : n ≤ 18446744073709551615) : IntKind.i64.wrap n = if n < 0 then n + 18446744073709551616 else n - 18446744073709551616 := by
  unfold In64 at h
  rw [IntKind.wrap_i64]
  split <;> omega
/-- Divided back a product that wrapped round isn't what it was. -/
theorem prod_out {a b : Int} (ha : In64 a) (h0 : a ≠ 0) (h : ¬ In64 (a * b)) : Int.tdiv (IntKind.i64.wrap (a * b)) a ≠ b := by
  obtain ⟨q, hq, e, hi⟩ := wrap_out h
  intro hc
  have h1 := Int.tmod_add_mul_tdiv (IntKind.i64.wrap (a * b)) a
  rw [hc, e] at h1
  have h2 : (Int.tmod (IntKind.i64.wrap (a * b)) a).natAbs < a.natAbs := by
    rw [Int.natAbs_tmod]
    exact Nat.mod_lt _ (by omega)
  rw [e] at h2
  unfold In64 at ha
  generalize Int.tmod (a * b - 18446744073709551616 * q) a = r at *
  omega
theorem prod_in {a b : Int} (h0 : a ≠ 0) (h : In64 (a * b)) : Int.tdiv (IntKind.i64.wrap (a * b)) a = b := by
  rw [wrap_in h]
  exact Int.mul_tdiv_cancel_left b h0
theorem tdiv_in {a b : Int} (ha : In64 a) (h1 : b ≠ 0) (h2 : b ≠ -1) : In64 (Int.tdiv a b) := by
  have h : (Int.tdiv a b).natAbs = a.natAbs / b.natAbs := Int.natAbs_tdiv a b
  by_cases hb : b = 1
  · subst hb; simpa using ha
  · have : a.natAbs / b.natAbs ≤ a.natAbs / 2 := Nat.div_le_div_left (by omega) (by omega)
    unfold In64 at *
    omega
theorem sum_yes {a b c : Int} (ha : In64 a) (hb : In64 b) (hc : IntKind.i64.wrap (a + b) = c) (h : c < a ↔ b < 0) : fits (a + b) = (c, 0) := by
  by_cases hi : In64 (a + b)
  · rw [wrap_in hi] at hc; subst hc; exact fits_in hi
  · unfold In64 at ha hb
    rw [wrap_near hi (by omega) (by omega)] at hc
    unfold In64 at hi
    split at hc <;> omega
theorem sum_no {a b c : Int} (ha : In64 a) (hb : In64 b) (hc : IntKind.i64.wrap (a + b) = c) (h : ¬ (c < a ↔ b < 0)) : fits (a + b) = (0, 3) := by
  by_cases hi : In64 (a + b)
  · rw [wrap_in hi] at hc; subst hc; exact absurd (by omega) h
  · exact fits_out hi
theorem rest_yes {a b c : Int} (ha : In64 a) (hb : In64 b) (hc : IntKind.i64.wrap (a - b) = c) (h : a < c ↔ b < 0) : fits (a - b) = (c, 0) := by
  by_cases hi : In64 (a - b)
  · rw [wrap_in hi] at hc; subst hc; exact fits_in hi
  · unfold In64 at ha hb
    rw [wrap_near hi (by omega) (by omega)] at hc
    unfold In64 at hi
    split at hc <;> omega
theorem rest_no {a b c : Int} (ha : In64 a) (hb : In64 b) (hc : IntKind.i64.wrap (a - b) = c) (h : ¬ (a < c ↔ b < 0)) : fits (a - b) = (0, 3) := by
  by_cases hi : In64 (a - b)
  · rw [wrap_in hi] at hc; subst hc; exact absurd (by omega) h
  · exact fits_out hi
theorem bne_iff_no {p q : Prop} [Decidable p] [Decidable q] (h : (!decide p == decide q) = false) : p ↔ q := by
  by_cases hp : p <;> by_cases hq : q <;> simp_all
theorem bne_iff_yes {p q : Prop} [Decidable p] [Decidable q] (h : (!decide p == decide q) = true) : ¬ (p ↔ q) := by
  by_cases hp : p <;> by_cases hq : q <;> simp_all
theorem prod_yes {a b c : Int} (ha : In64 a) (h0 : a ≠ 0) (h1 : a ≠ -1) (hc : IntKind.i64.wrap (a * b) = c) (h : wrap64 (Int.tdiv c a) = b) : fits (a * b) = (c, 0) := by
  have hi : In64 (a * b) := Classical.byContradiction fun hi => by
    obtain ⟨_, _, _, hw⟩ := wrap_out hi
    rw [hc] at hw
    rw [IntWalk.wrap64_in _ (tdiv_in hw h0 h1)] at h
    exact prod_out ha h0 hi (by rw [hc]; exact h)
  rw [wrap_in hi] at hc
  subst hc
  exact fits_in hi
theorem prod_no {a b c : Int} (ha : In64 a) (hb : In64 b) (h0 : a ≠ 0) (h1 : a ≠ -1) (hc : IntKind.i64.wrap (a * b) = c) (h : ¬ wrap64 (Int.tdiv c a) = b) : fits (a * b) = (0, 3) := by
  refine fits_out fun hi => h ?_
  have := prod_in h0 hi
  rw [hc] at this
  rw [this, IntWalk.wrap64_in _ hb]
theorem ne_no {a b : Int} (h : (a != b) = false) : a = b := by simpa using h
theorem ne_yes {a b : Int} (h : (a != b) = true) : ¬ a = b := by simpa using h
theorem neg_one (b : Int) : fits (0 - b) = fits (-1 * b) := by rw [show (0 : Int) - b = -1 * b by omega]
/-- As the reference asks: by the side to which it came out, but for nought. -/
theorem rsum_yes {a b c : Int} (ha : In64 a) (hb : In64 b) (h0 : b ≠ 0) (hc : IntKind.i64.wrap (a + b) = c) (h : a < c ↔ 0 < b) : fits (a + b) = (c, 0) := by
  by_cases hi : In64 (a + b)
  · rw [wrap_in hi] at hc; subst hc; exact fits_in hi
  · unfold In64 at ha hb
    rw [wrap_near hi (by omega) (by omega)] at hc
    unfold In64 at hi
    split at hc <;> omega
theorem rsum_no {a b c : Int} (ha : In64 a) (hb : In64 b) (h0 : b ≠ 0) (hc : IntKind.i64.wrap (a + b) = c) (h : ¬ (a < c ↔ 0 < b)) : fits (a + b) = (0, 3) := by
  by_cases hi : In64 (a + b)
  · rw [wrap_in hi] at hc; subst hc; exact absurd (by omega) h
  · exact fits_out hi
theorem rrest_yes {a b c : Int} (ha : In64 a) (hb : In64 b) (h0 : b ≠ 0) (hc : IntKind.i64.wrap (a - b) = c) (h : c < a ↔ 0 < b) : fits (a - b) = (c, 0) := by
  by_cases hi : In64 (a - b)
  · rw [wrap_in hi] at hc; subst hc; exact fits_in hi
  · unfold In64 at ha hb
    rw [wrap_near hi (by omega) (by omega)] at hc
    unfold In64 at hi
    split at hc <;> omega
theorem rrest_no {a b c : Int} (ha : In64 a) (hb : In64 b) (h0 : b ≠ 0) (hc : IntKind.i64.wrap (a - b) = c) (h : ¬ (c < a ↔ 0 < b)) : fits (a - b) = (0, 3) := by
  by_cases hi : In64 (a - b)
  · rw [wrap_in hi] at hc; subst hc; exact absurd (by omega) h
  · exact fits_out hi
theorem rprod_yes {a b c : Int} (ha : In64 a) (hb : In64 b) (h0 : b ≠ 0) (hc : IntKind.i64.wrap (a * b) = c) (h : wrap64 (Int.tdiv c b) = a) (h2 : b = -1 → a ≠ -9223372036854775808) : fits (a * b) = (c, 0) := by
  by_cases h1 : b = -1
  · subst h1
    have hi : In64 (a * -1) := by have := h2 rfl; unfold In64 at *; omega
    rw [wrap_in hi] at hc
    subst hc
    exact fits_in hi
  · rw [Int.mul_comm] at hc ⊢
    exact prod_yes hb h0 h1 hc h
theorem rprod_no {a b c : Int} (ha : In64 a) (h0 : b ≠ 0) (hc : IntKind.i64.wrap (a * b) = c) (h : ¬ wrap64 (Int.tdiv c b) = a) : fits (a * b) = (0, 3) := by
  refine fits_out fun hi => h ?_
  rw [Int.mul_comm] at hi hc
  have := prod_in h0 hi
  rw [hc] at this
  rw [this, IntWalk.wrap64_in _ ha]
theorem rprod_never {a b c : Int} (h1 : a = -1) (h2 : b = -9223372036854775808) (hc : IntKind.i64.wrap (a * b) = c) (h : wrap64 (Int.tdiv c b) = a) : False := by
  subst h1 h2 hc
  revert h
  decide +kernel
end Go.Proofs.Ytjpkemamfccfdaa
/- Functions of values, plainly. -/
namespace Go.Proofs.Ytjpkemamfccfdaa
set_option linter.unusedVariables false
open Go.RowKit

/-- A truth's number. -/
def truthN (b : Bool) : Int := if b then 1 else 0
theorem truthN_t : truthN true = 1 := rfl
theorem truthN_f : truthN false = 0 := rfl
/-- A truth as a value. -/
def truthV (b : Bool) : Vl := ⟨1, truthN b, ⟨#[]⟩⟩
/-- A number as a value. -/
def numV (n : Int) : Vl := ⟨2, n, ⟨#[]⟩⟩
/-- Beside an error. -/
def noneV : Vl := ⟨0, 0, ⟨#[]⟩⟩
def sameV (a b : Vl) : Vl × Int := if a.k = b.k then (truthV (veq a b), 0) else (noneV, 2)
def lessV (a b : Vl) : Vl × Int := if (lessOf a b).2 = 0 then (truthV (lessOf a b).1, 0) else (noneV, (lessOf a b).2)
def opF (op a b : Int) : Int := if op = 8 then a + b else if op = 9 then a - b else a * b
def numF (p : Int × Int) : Vl × Int := if p.2 = 0 then (numV p.1, 0) else (noneV, p.2)
def reckV (op : Int) (a b : Vl) : Vl × Int := if a.k = 2 ∧ b.k = 2 then numF (fits (opF op a.n b.n)) else (noneV, 2)
def notV (a : Vl) : Vl × Int := if a.k = 1 then (truthV (decide (a.n = 0)), 0) else (noneV, 2)
def bothV (op : Int) (a b : Vl) : Vl × Int := if a.k = 1 ∧ b.k = 1 then (truthV (if op = 12 then decide (a.n = 1) && decide (b.n = 1) else decide (a.n = 1) || decide (b.n = 1)), 0) else (noneV, 2)
def allR (l : List Vl) : Bool := l.all fun v => decide v.right
def needs (op : Int) : Nat := if op = 11 then 1 else 2
def callTwo (op : Int) (a b : Vl) : Vl × Int := if op = 6 then sameV a b else if op = 7 then lessV a b else if op = 12 ∨ op = 13 then bothV op a b else reckV op a b
def callOf (op : Int) : List Vl → Vl × Int
  | [a] => notV a
  | [a, b] => callTwo op a b
  | _ => (noneV, 1)
/-- P6.2. -/
def callV (op : Int) (l : List Vl) : Vl × Int := if allR l = true ∧ (6 ≤ op ∧ op ≤ 13) ∧ l.length = needs op then callOf op l else (noneV, 1)

theorem allR_iff {l : List Vl} : allR l = true ↔ ∀ v ∈ l, v.right := by simp [allR]
theorem call_bad {op : Int} {l : List Vl} (h : allR l = false) : callV op l = (noneV, 1) := if_neg fun hh => by rw [h] at hh; cases hh.1
theorem call_op {op : Int} {l : List Vl} (h : ¬ (6 ≤ op ∧ op ≤ 13)) : callV op l = (noneV, 1) := if_neg fun hh => h hh.2.1
theorem call_len {op : Int} {l : List Vl} (h : l.length ≠ needs op) : callV op l = (noneV, 1) := if_neg fun hh => h hh.2.2
theorem call_ok {op : Int} {l : List Vl} (h1 : allR l = true) (h2 : 6 ≤ op ∧ op ≤ 13) (h3 : l.length = needs op) : callV op l = callOf op l := if_pos ⟨h1, h2, h3⟩
theorem truth_n {v : Vl} (h : v.right) (hk : v.k = 1) : v.n = 0 ∨ v.n = 1 := by
  have := rv1 (n := v.n) (l := v.l)
  unfold Vl.right at h
  rw [hk] at h
  exact (this.1 h).2

def sumL : List Vl → Int
  | [] => 0
  | v :: r => v.n + sumL r
theorem sumL_app (l m : List Vl) : sumL (l ++ m) = sumL l + sumL m := by
  induction l with
  | nil => simp [sumL]
  | cons v r ih => simp [sumL, ih]; omega
def kindsB (l : List Vl) : Bool := l.all fun v => decide (v.k = 1)
/-- What judge makes of any values. -/
def judgeL (op : Int) (l : List Vl) : Vl × Int :=
  if kindsB l = true then (truthV (if op = 11 then decide (sumL l = 0) else if op = 12 then decide (sumL l = (l.length : Int)) else decide (0 < sumL l)), 0) else (noneV, 2)
theorem judge_one {a : Vl} (ha : a.right) : judgeL 11 [a] = notV a := by
  unfold judgeL notV
  simp [kindsB, sumL]
theorem judge_two {op : Int} {a b : Vl} (h : op = 12 ∨ op = 13) (ha : a.right) (hb : b.right) : judgeL op [a, b] = bothV op a b := by
  unfold judgeL bothV
  by_cases h1 : a.k = 1
  · by_cases h2 : b.k = 1
    · have na := truth_n ha h1
      have nb := truth_n hb h2
      have hk : kindsB [a, b] = true := by simp [kindsB, h1, h2]
      rw [if_pos hk, if_pos (show a.k = 1 ∧ b.k = 1 from ⟨h1, h2⟩)]
      rcases h with rfl | rfl <;> rcases na with e | e <;> rcases nb with f | f <;> simp [sumL, e, f]
    · simp [kindsB, h2]
  · simp [kindsB, h1]
def RightTo (l : List Vl) (k : Nat) : Prop := ∀ j x, l[j]? = some x → j < k → x.right
theorem RightTo.step {l : List Vl} {x : Vl} {k : Nat} (h : RightTo l k) (hx : l[k]? = some x) (hr : x.right) : RightTo l (k + 1) := fun j y hy hj => by
  by_cases e : j = k
  · subst e
    obtain rfl := Option.some.inj (hx.symm.trans hy)
    exact hr
  · exact h j y hy (by omega)
theorem RightTo.all {l : List Vl} {n : Nat} (h : RightTo l n) (hn : l.length = n) : allR l = true := allR_iff.2 fun x hx => by
  obtain ⟨j, hj, e⟩ := List.getElem_of_mem hx
  exact h j x (by rw [List.getElem?_eq_getElem hj, e]) (by omega)
theorem allR_bad {l : List Vl} {x : Vl} {k : Nat} (hx : l[k]? = some x) (h : ¬ x.right) : allR l = false := by
  rw [← Bool.not_eq_true, allR_iff]
  exact fun hh => h (hh x (List.mem_of_getElem? hx))
def KindTo (l : List Vl) (k : Nat) (m : Int) : Prop := kindsB (l.take k) = true ∧ sumL (l.take k) = m ∧ 0 ≤ m ∧ m ≤ (k : Int)
theorem take_more {l : List Vl} {x : Vl} {k : Nat} (hx : l[k]? = some x) : l.take (k + 1) = l.take k ++ [x] := by
  obtain ⟨hk, e⟩ := List.getElem?_eq_some_iff.1 hx
  rw [List.take_succ_eq_append_getElem hk, e]
theorem KindTo.step {l : List Vl} {x : Vl} {k : Nat} {m : Int} (h : KindTo l k m) (hx : l[k]? = some x) (hr : x.right) (hk : x.k = 1) : KindTo l (k + 1) (m + x.n) := by
  obtain ⟨h1, h2, h3, h4⟩ := h
  have hn := truth_n hr hk
  refine ⟨?_, ?_, by omega, by omega⟩
  · rw [take_more hx]
    unfold kindsB at h1 ⊢
    rw [List.all_append, h1]
    simp [hk]
  · rw [take_more hx, sumL_app, h2]
    simp [sumL]
theorem kinds_bad {l : List Vl} {x : Vl} {k : Nat} (hx : l[k]? = some x) (h : ¬ x.k = 1) : kindsB l = false := by
  unfold kindsB
  rw [List.all_eq_false]
  exact ⟨x, List.mem_of_getElem? hx, by simpa using h⟩
theorem judge_bad {op : Int} {l : List Vl} (h : kindsB l = false) : judgeL op l = (noneV, 2) := if_neg (by rw [h]; simp)
theorem judge_ok {op m : Int} {l : List Vl} {n : Nat} (h : KindTo l n m) (hn : l.length = n) : judgeL op l = (truthV (if op = 11 then decide (m = 0) else if op = 12 then decide (m = (n : Int)) else decide (0 < m)), 0) := by
  obtain ⟨h1, h2, _, _⟩ := h
  rw [List.take_of_length_le (by omega)] at h1 h2
  unfold judgeL
  rw [if_pos h1, h2, hn]
end Go.Proofs.Ytjpkemamfccfdaa
/- Expressions behind each other: what they leave; rows of nodes put together. -/
namespace Go.Proofs.Ytjpkemamfccfdaa
set_option linter.unusedVariables false
open Go.RowKit

theorem popX_frame (op : Int) (s s' t : List Bool) (h : popX op s = some s') : popX op (s ++ t) = some (s' ++ t) := by
  rcases ops_cases op with rfl | rfl | rfl | rfl | rfl | rfl | rfl | rfl | rfl | rfl | rfl | rfl | rfl | hn
  case inr.inr.inr.inr.inr.inr.inr.inr.inr.inr.inr.inr.inr =>
    obtain ⟨h1, h2, h3, h4, h5, h6, h7, h8, h9, h10, h11, h12, h13⟩ := hn
    simp [popX, h1, h2, h3, h4, h5, h6, h7, h8, h9, h10, h11, h12, h13] at h
  all_goals
    rcases s with _ | ⟨_ | _, _ | ⟨_ | _, s⟩⟩ <;> simp [popX] at h ⊢ <;> (subst h; rfl)
theorem runX_frame : ∀ (l : List Nod) (s s' t : List Bool), runX l s = some s' → runX l (s ++ t) = some (s' ++ t)
  | [], s, s', t, h => by simp [runX] at h ⊢; rw [h]
  | x :: l, s, s', t, h => by
    simp only [runX] at h ⊢
    unfold stepX at h ⊢
    by_cases hh : holdsB x = true
    · rw [if_pos hh] at h ⊢
      cases hp : popX x.op s with
      | none => rw [hp] at h; cases h
      | some u =>
        rw [hp] at h
        rw [popX_frame _ _ _ t hp]
        exact runX_frame l u s' t h
    · rw [if_neg hh] at h; cases h
theorem exprE_ok {l : List Nod} (h : exprE l = 0) (hn : l ≠ []) : l.length ≤ 32 ∧ runX l [] = some [false] := by
  unfold exprE at h
  split at h
  · cases h
  · refine ⟨by omega, ?_⟩
    split at h
    · cases h
    · rename_i st hst
      split at h
      · rename_i hc
        rcases hc with hc | hc
        · exact absurd hc hn
        · rw [hst, hc]
      · cases h
def opN (f : Int) : Nod := ⟨f, zeroV, zeroA⟩
theorem holds_opN {f : Int} (h1 : f ≠ 1) (h2 : f ≠ 2) : holdsB (opN f) = true := by simp [holdsB, opN, h1, h2]
theorem expr_both {a b : List Nod} {f : Int} (ha : exprE a = 0) (hb : exprE b = 0) (na : a ≠ []) (nb : b ≠ []) (hf : 6 ≤ f ∧ f ≤ 9) : exprE (a ++ b ++ [opN f]) = if 32 < a.length + b.length + 1 then 6 else 0 := by
  obtain ⟨_, ra⟩ := exprE_ok ha na
  obtain ⟨_, rb⟩ := exprE_ok hb nb
  have r1 : runX (a ++ b) [] = some [false, false] := by
    rw [runX_app, ra]
    exact runX_frame b [] [false] [false] rb
  have hp : popX f [false, false] = some [false] := by
    have h1 : ¬ f = 1 := by omega
    have h2 : ¬ f = 2 := by omega
    have h3 : ¬ (f = 3 ∨ f = 4) := by omega
    have h5 : ¬ f = 5 := by omega
    have h11 : ¬ f = 11 := by omega
    have h6 : f = 6 ∨ f = 7 ∨ f = 8 ∨ f = 9 ∨ f = 10 ∨ f = 12 ∨ f = 13 := by omega
    simp only [popX, h1, h2, h3, h5, h11, h6, if_true, if_false]
  have r2 : runX (a ++ b ++ [opN f]) [] = some [false] := by
    rw [runX_app, r1]
    simp only [runX, stepX, holds_opN (show f ≠ 1 by omega) (show f ≠ 2 by omega), if_true]
    show (match popX f [false, false] with | some st' => some st' | none => none) = some [false]
    rw [hp]
  unfold exprE
  rw [r2, show (a ++ b ++ [opN f]).length = a.length + b.length + 1 by simp; omega]
  simp
theorem expr_size {a : List Nod} (ha : exprE a = 0) (na : a ≠ []) : exprE (a ++ [opN 4]) = if 32 < a.length + 1 then 6 else 1 := by
  obtain ⟨_, ra⟩ := exprE_ok ha na
  have r2 : runX (a ++ [opN 4]) [] = none := by
    rw [runX_app, ra]
    simp only [runX, stepX, holds_opN (show (4 : Int) ≠ 1 by omega) (show (4 : Int) ≠ 2 by omega), if_true]
    rfl
  unfold exprE
  rw [r2, show (a ++ [opN 4]).length = a.length + 1 by simp]
theorem opN_ok {f : Int} (h : 0 ≤ f ∧ f ≤ 100) : (opN f).ok := ⟨by unfold InI; show -9223372036854775808 ≤ f ∧ f ≤ 9223372036854775807; omega, (by decide +kernel : zeroV.ok), (by decide +kernel : zeroA.ok)⟩

/-- .. and one more node. -/
theorem nds_put {w : World} {base n c : Nat} {A : Option Addr} {l : List Nod} {f : Int} (h : w.ownsRow base 113 7 (.slice A n c) n (l.flatMap Nod.cells)) (hb : base ≤ w.heap.size) (hl : l.length = n) (hok : ∀ x ∈ l, x.ok) (hf : 0 ≤ f ∧ f ≤ 100) (hn : n < 1000000) :
    ∃ A5 c5 w5, (Builtin.append_ #[109, 109] 109 #[.slice A n c, .slice (some ⟨w.heap.size, 0, none⟩) 1 1]).run Try.prog (w.alloc (.cells #[.int .i64 f, .int .i64 0, .int .i64 0, .string ⟨#[]⟩, .int .i64 0, .string ⟨#[]⟩, .bool false] 113)) = .ok (.slice A5 (n + 1) c5) w5 ∧
      Below base w w5 ∧ Nds w5 (fun _ => True) A5 (n + 1) c5 (l ++ [opN f]) := by
  have h1 : Nds (w.alloc (.cells #[.int .i64 f, .int .i64 0, .int .i64 0, .string ⟨#[]⟩, .int .i64 0, .string ⟨#[]⟩, .bool false] 113)) (fun _ => True) (some ⟨w.heap.size, 0, none⟩) 1 1 [opN f] :=
    Nds.lit w (R := fun _ => True) [opN f] (n := 1) rfl (by omega) trivial (fun y hy => by simp at hy; subst hy; exact opN_ok hf)
  obtain ⟨A5, c5, w5, r5, o5, b5, _, _⟩ := append_nods (ty := 109) (h.alloc (.cells #[.int .i64 f, .int .i64 0, .int .i64 0, .string ⟨#[]⟩, .int .i64 0, .string ⟨#[]⟩, .bool false] 113)) h1 (by omega) (by rw [size_al]; omega)
  refine ⟨A5, c5, w5, r5, ((Below.refl _ _).alloc hb _).trans b5, ?_⟩
  exact Rw.flat_own o5 (by omega) (by rw [List.length_append, hl]; rfl) (fun _ => rfl) (fun y hy => by
    rcases List.mem_append.1 hy with hy | hy
    · exact hok y hy
    · simp at hy; subst hy; exact opN_ok hf) (fun _ _ _ => trivial)
/-- append([]Node{}, a...), and one more node. -/
theorem nds_one {w : World} {R : Nat → Prop} {A0 : Option Addr} {p0 c0 : Nat} {L0 : List Nod} {f : Int} (h0 : Nds w R A0 p0 c0 L0) (h : p0 < 1000000) (hf : 0 ≤ f ∧ f ≤ 100) :
    ∃ A5 c5 w5 A6 c6 w6, (Builtin.append_ #[109, 109] 109 #[.slice (some ⟨w.heap.size, 0, none⟩) 0 0, .slice A0 p0 c0]).run Try.prog (w.alloc (.cells #[] 113)) = .ok (.slice A5 p0 c5) w5 ∧
      (Builtin.append_ #[109, 109] 109 #[.slice A5 p0 c5, .slice (some ⟨w5.heap.size, 0, none⟩) 1 1]).run Try.prog (w5.alloc (.cells #[.int .i64 f, .int .i64 0, .int .i64 0, .string ⟨#[]⟩, .int .i64 0, .string ⟨#[]⟩, .bool false] 113)) = .ok (.slice A6 (p0 + 1) c6) w6 ∧
      Below w.heap.size w w6 ∧ Nds w6 (fun _ => True) A6 (p0 + 1) c6 (L0 ++ [opN f]) := by
  have e1 : Below w.heap.size w (w.alloc (.cells #[] 113)) := (Below.refl _ _).alloc (Nat.le_refl _) _
  obtain ⟨A5, c5, w5, r5, o5, b5, _, _⟩ := append_nods (ty := 109) (xs := []) (own_none w 113 7) (h0.keep (Kept.all e1 R) (fun _ h _ => h)) (by omega) e1.size
  rw [Nat.zero_add] at r5 o5
  have e5 := e1.trans b5
  obtain ⟨A6, c6, w6, r6, b6, h6⟩ := nds_put o5 e5.size (Rw.len h0) (Rw.all h0) hf h
  exact ⟨A5, c5, w5, A6, c6, w6, r5, r6, e5.trans b6, h6⟩
end Go.Proofs.Ytjpkemamfccfdaa
/- Conditions, plainly: what an expression comes to over a request (chapter 12). -/
namespace Go.Proofs.Ytjpkemamfccfdaa
set_option linter.unusedVariables false

/-- What a node made. -/
structure Prt where
  bag : List Vl
  v : Vl
  e : Int
/-- How many of what stands ahead a node takes. -/
def takesN (op : Int) : Nat := if op = 1 ∨ op = 2 then 0 else if op = 3 ∨ op = 4 ∨ op = 11 then 1 else 2
/-- Does one of both decide? -/
def decB (op : Int) : List Prt → Bool
  | [a, b] => (decide (op = 12) || decide (op = 13)) && (decide (a.v = truthV (decide (op = 13))) || decide (b.v = truthV (decide (op = 13))))
  | _ => false
def errL : List Prt → Int
  | [] => 0
  | p :: r => if p.e ≠ 0 then p.e else errL r
def singleV : List Vl → Vl × Int
  | [v] => (v, 0)
  | _ => (noneV, 4)
def reckP (op : Int) (of : List Prt) : Vl × Int :=
  if op = 3 then (match of with | p :: _ => singleV p.bag | [] => (noneV, 0))
  else if op = 4 then (match of with | p :: _ => (numV p.bag.length, 0) | [] => (noneV, 0))
  else if op = 5 then (match of with | p :: q :: _ => (truthV (hasB p.bag q.v), 0) | _ => (noneV, 0))
  else callV op (of.map Prt.v)
def madeP (ask : List Giv) (n : Nod) (of : List Prt) : Prt :=
  if n.op = 1 then ⟨[], n.v, 0⟩
  else if n.op = 2 then ⟨getR ask n.a, noneV, getE ask n.a⟩
  else if decB n.op of = true then ⟨[], truthV (decide (n.op = 13)), 0⟩
  else if errL of ≠ 0 then ⟨[], noneV, errL of⟩
  else ⟨[], (reckP n.op of).1, (reckP n.op of).2⟩
/-- One node; many. -/
def stepP (ask : List Giv) (st : List Prt) (n : Nod) : List Prt := st.take (st.length - takesN n.op) ++ [madeP ask n (st.drop (st.length - takesN n.op))]
def runP (ask : List Giv) (l : List Nod) (st : List Prt) : List Prt := l.foldl (stepP ask) st
def noneP : Prt := ⟨[], noneV, 0⟩
/-- P12.1. -/
def valP (ask : List Giv) (l : List Nod) : Vl × Int := if l = [] ∨ exprE l ≠ 0 then (noneV, 1) else (((runP ask l []).headD noneP).v, ((runP ask l []).headD noneP).e)
/-- P12.2. -/
def condP (ask : List Giv) (l : List Nod) : Int := if l = [] then 2 else if (valP ask l).1 = truthV true then 2 else if (valP ask l).1 = truthV false then 0 else 1

theorem runP_app (ask : List Giv) (l m : List Nod) (st : List Prt) : runP ask (l ++ m) st = runP ask m (runP ask l st) := List.foldl_append
theorem runP_cons (ask : List Giv) (n : Nod) (l : List Nod) (st : List Prt) : runP ask (n :: l) st = runP ask l (stepP ask st n) := rfl
theorem runP_nil (ask : List Giv) (st : List Prt) : runP ask [] st = st := rfl

theorem popX_len {op : Int} {s s' : List Bool} (h : popX op s = some s') : takesN op ≤ s.length ∧ s'.length = s.length - takesN op + 1 := by
  rcases ops_cases op with rfl | rfl | rfl | rfl | rfl | rfl | rfl | rfl | rfl | rfl | rfl | rfl | rfl | hn
  case inr.inr.inr.inr.inr.inr.inr.inr.inr.inr.inr.inr.inr =>
    obtain ⟨h1, h2, h3, h4, h5, h6, h7, h8, h9, h10, h11, h12, h13⟩ := hn
    simp [popX, h1, h2, h3, h4, h5, h6, h7, h8, h9, h10, h11, h12, h13] at h
  all_goals
    rcases s with _ | ⟨_ | _, _ | ⟨_ | _, s⟩⟩ <;> simp [popX] at h <;> (subst h; simp [takesN])
theorem stepX_len {n : Nod} {s s' : List Bool} (h : stepX n s = some s') : takesN n.op ≤ s.length ∧ s'.length = s.length - takesN n.op + 1 ∧ holdsB n = true := by
  unfold stepX at h
  by_cases hh : holdsB n = true
  · rw [if_pos hh] at h
    exact ⟨(popX_len h).1, (popX_len h).2, hh⟩
  · rw [if_neg hh] at h; cases h
theorem stepP_frame {ask : List Giv} {n : Nod} {t st : List Prt} (h : takesN n.op ≤ st.length) : stepP ask (t ++ st) n = t ++ stepP ask st n := by
  unfold stepP
  have e : (t ++ st).length - takesN n.op = t.length + (st.length - takesN n.op) := by rw [List.length_append]; omega
  rw [e, List.take_length_add_append, List.drop_length_add_append, List.append_assoc]
theorem stepP_len {ask : List Giv} {n : Nod} {st : List Prt} (h : takesN n.op ≤ st.length) : (stepP ask st n).length = st.length - takesN n.op + 1 := by
  unfold stepP
  rw [List.length_append, List.length_take]
  simp
/-- A run that the stack of kinds bears goes on over anything. -/
theorem runP_frame {ask : List Giv} : ∀ {l : List Nod} {s s' : List Bool} {t st : List Prt}, runX l s = some s' → st.length = s.length → runP ask l (t ++ st) = t ++ runP ask l st ∧ (runP ask l st).length = s'.length
  | [], s, s', t, st, h, hl => by
    simp [runX] at h
    subst h
    exact ⟨rfl, hl⟩
  | n :: l, s, s', t, st, h, hl => by
    simp only [runX] at h
    cases hs : stepX n s with
    | none => rw [hs] at h; cases h
    | some u =>
      rw [hs] at h
      obtain ⟨a, b, _⟩ := stepX_len hs
      rw [runP_cons, runP_cons, stepP_frame (by omega)]
      exact runP_frame h (by rw [stepP_len (by omega)]; omega)
/-- A right expression leaves one more, whatever stands ahead. -/
theorem run_right {ask : List Giv} {l : List Nod} (h : exprE l = 0) (hn : l ≠ []) : ∃ p, (∀ t, runP ask l t = t ++ [p]) ∧ valP ask l = (p.v, p.e) := by
  obtain ⟨_, hr⟩ := exprE_ok h hn
  have hf := fun t => runP_frame (ask := ask) (t := t) (st := []) hr rfl
  have hl := (hf []).2
  obtain ⟨p, hp⟩ := List.length_eq_one_iff.1 hl
  refine ⟨p, fun t => ?_, ?_⟩
  · have := (hf t).1
    rw [List.append_nil, hp] at this
    exact this
  · unfold valP
    rw [if_neg (by rintro (h0 | h0); exact hn h0; exact h0 h), hp]
    rfl
/-- Beside an error there is nothing. -/
def FineP (p : Prt) : Prop := p.e ≠ 0 → p.v = noneV
theorem numF_fine (p : Int × Int) (h : (numF p).2 ≠ 0) : (numF p).1 = noneV := by
  unfold numF at h ⊢
  split
  · rename_i h0; rw [if_pos h0] at h; exact absurd rfl h
  · rfl
theorem callV_fine {op : Int} {l : List Vl} (h : (callV op l).2 ≠ 0) : (callV op l).1 = noneV := by
  unfold callV at h ⊢
  split
  · rename_i h0
    rw [if_pos h0] at h
    match l, h with
    | [], h => rfl
    | [a], h =>
      simp only [callOf, notV] at h ⊢
      split
      · rename_i h1; rw [if_pos h1] at h; exact absurd rfl h
      · rfl
    | [a, b], h =>
      simp only [callOf, callTwo] at h ⊢
      split
      · rename_i h1; rw [if_pos h1] at h
        unfold sameV at h ⊢
        split
        · rename_i h2; rw [if_pos h2] at h; exact absurd rfl h
        · rfl
      · rename_i h1; rw [if_neg h1] at h
        split
        · rename_i h2; rw [if_pos h2] at h
          unfold lessV at h ⊢
          split
          · rename_i h3; rw [if_pos h3] at h; exact absurd rfl h
          · rfl
        · rename_i h2; rw [if_neg h2] at h
          split
          · rename_i h3; rw [if_pos h3] at h
            unfold bothV at h ⊢
            split
            · rename_i h4; rw [if_pos h4] at h; exact absurd rfl h
            · rfl
          · rename_i h3; rw [if_neg h3] at h
            unfold reckV at h ⊢
            split
            · rename_i h4; rw [if_pos h4] at h; exact numF_fine _ h
            · rfl
    | _ :: _ :: _ :: _, h => rfl
  · rfl
theorem singleV_fine {l : List Vl} (h : (singleV l).2 ≠ 0) : (singleV l).1 = noneV := by
  match l, h with
  | [], _ => rfl
  | [v], h => exact absurd rfl h
  | _ :: _ :: _, _ => rfl
theorem reckP_fine {op : Int} {of : List Prt} (h : (reckP op of).2 ≠ 0) : (reckP op of).1 = noneV := by
  unfold reckP at h ⊢
  split
  · rename_i h0; rw [if_pos h0] at h
    match of, h with
    | [], _ => rfl
    | p :: _, h => exact singleV_fine h
  · rename_i h0; rw [if_neg h0] at h
    split
    · rename_i h1; rw [if_pos h1] at h
      match of, h with
      | [], _ => rfl
      | p :: _, h => exact absurd rfl h
    · rename_i h1; rw [if_neg h1] at h
      split
      · rename_i h2; rw [if_pos h2] at h
        match of, h with
        | [], _ => rfl
        | [_], _ => rfl
        | p :: _ :: _, h => exact absurd rfl h
      · rename_i h2; rw [if_neg h2] at h
        exact callV_fine h
theorem madeP_fine (ask : List Giv) (n : Nod) (of : List Prt) : FineP (madeP ask n of) := by
  intro h
  unfold madeP at h ⊢
  split
  · rename_i h0; rw [if_pos h0] at h; exact absurd rfl h
  · rename_i h0; rw [if_neg h0] at h
    split
    · rfl
    · rename_i h1; rw [if_neg h1] at h
      split
      · rename_i h2; rw [if_pos h2] at h; exact absurd rfl h
      · rename_i h2; rw [if_neg h2] at h
        split
        · rfl
        · rename_i h3; rw [if_neg h3] at h; exact reckP_fine h
theorem runP_fine {ask : List Giv} : ∀ {l : List Nod} {st : List Prt}, (∀ p ∈ st, FineP p) → ∀ p ∈ runP ask l st, FineP p
  | [], st, h => h
  | n :: l, st, h => by
    rw [runP_cons]
    refine runP_fine fun p hp => ?_
    rcases List.mem_append.1 hp with hp | hp
    · exact h p (List.mem_of_mem_take hp)
    · simp at hp; subst hp; exact madeP_fine _ _ _
theorem run_fine {ask : List Giv} {l : List Nod} (h : exprE l = 0) (hn : l ≠ []) : ∃ p, (∀ t, runP ask l t = t ++ [p]) ∧ valP ask l = (p.v, p.e) ∧ FineP p := by
  obtain ⟨p, h1, h2⟩ := run_right (ask := ask) h hn
  refine ⟨p, h1, h2, ?_⟩
  have := runP_fine (ask := ask) (l := l) (st := []) (fun p hp => by cases hp)
  rw [h1 []] at this
  exact this p (by simp)
theorem valP_fine (ask : List Giv) (l : List Nod) (h : (valP ask l).2 ≠ 0) : (valP ask l).1 = noneV := by
  by_cases hc : l = [] ∨ exprE l ≠ 0
  · unfold valP; rw [if_pos hc]
  · have hn : l ≠ [] := fun e => hc (.inl e)
    have he : exprE l = 0 := by
      by_cases h : exprE l = 0
      · exact h
      · exact absurd (.inr h) hc
    obtain ⟨p, _, h2, hf⟩ := run_fine (ask := ask) he hn
    rw [h2] at h ⊢
    exact hf h
end Go.Proofs.Ytjpkemamfccfdaa
/- What a node made, in memory; the stack, which is the call's own and is cut and grows. -/
namespace Go.Proofs.Ytjpkemamfccfdaa
set_option linter.unusedVariables false
open Go.RowKit

/-- The cells of what a node made. -/
def PartAt (w : World) (R : Nat → Prop) (vs : List Value) (p : Prt) : Prop := ∃ A n c, vs = [.slice A n c, .int .i64 p.v.k, .int .i64 p.v.n, .string p.v.s, .int .i64 p.e] ∧ (p.v.ok ∧ InI p.e) ∧ Vls w R A n c p.bag
def Prts (w : World) (R : Nat → Prop) := Rw 5 (PartAt w R) w R
section
variable {w w' : World} {R R' : Nat → Prop} {A : Option Addr} {n c : Nat}
theorem PartAt.keep {vs : List Value} {p : Prt} (h : PartAt w R vs p) (hk : Kept R w w') (hR : ∀ b, R b → b < w.heap.size → R' b) : PartAt w' R' vs p := by
  obtain ⟨A, n, c, e, h0, h1⟩ := h
  exact ⟨A, n, c, e, h0, h1.keep hk hR⟩
theorem keeps_part : Keeps PartAt := fun _ _ _ _ _ _ h hk hR => h.keep hk hR
theorem Prts.keep {l : List Prt} (h : Prts w R A n c l) (hk : Kept R w w') (hR : ∀ b, R b → b < w.heap.size → R' b) : Prts w' R' A n c l := Rw.keep h hk hR fun _ _ _ h => h.keep hk hR
theorem PartAt.one {w : World} {R : Nat → Prop} (vs : List Value) (p : Prt) (h : PartAt w R vs p) : ∀ v ∈ vs, v.oneCell' = true := by
  obtain ⟨A, n, c, rfl, _⟩ := h
  intro v hv
  simp at hv
  rcases hv with rfl | rfl | rfl | rfl | rfl <;> rfl
theorem Prts.at_ {l : List Prt} (h : Prts w R A n c l) {j : Nat} (hj : j < n) : ∃ b o p A' n' c', A = some ⟨b, o, none⟩ ∧ R b ∧ b < w.heap.size ∧ l[j]? = some p ∧ (p.v.ok ∧ InI p.e) ∧
    (w.cell? ⟨b, o + j * 5, none⟩ = some (.slice A' n' c') ∧ w.cell? ⟨b, o + j * 5 + 1, none⟩ = some (.int .i64 p.v.k) ∧ w.cell? ⟨b, o + j * 5 + 2, none⟩ = some (.int .i64 p.v.n) ∧ w.cell? ⟨b, o + j * 5 + 3, none⟩ = some (.string p.v.s) ∧ w.cell? ⟨b, o + j * 5 + 4, none⟩ = some (.int .i64 p.e)) ∧ Vls w R A' n' c' p.bag := by
  obtain ⟨b, o, g, vs, e, hb, hlt, hm, hl, hv, A', n', c', rfl, hok, hin⟩ := Rw.at_ h hj
  exact ⟨b, o, g, A', n', c', e, hb, hlt, hm, hok, ⟨hv 0 _ rfl, hv 1 _ rfl, hv 2 _ rfl, hv 3 _ rfl, hv 4 _ rfl⟩, hin⟩
end
/-- A row from one of its places on. -/
theorem Rw.drop {α : Type} {k : Nat} {P : List Value → α → Prop} {w : World} {R : Nat → Prop} {A : Option Addr} {n c : Nat} {l : List α} (h : Rw k P w R A n c l) {m : Nat} (hm : m ≤ n) : Rw k P w R (if c = m then A else A.map (·.add (m * k))) (n - m) (c - m) (l.drop m) := by
  obtain ⟨h1, h2, h3, h4⟩ := h
  refine ⟨by rw [List.length_drop]; omega, by omega, ⟨by have := h3.1; omega, by have := h3.2; omega⟩, ?_⟩
  rcases h4 with h4 | ⟨b, o, e, hb, hlt, hc⟩
  · left; omega
  · by_cases hn : n = m
    · left; omega
    · right
      subst e
      rw [if_neg (by omega)]
      refine ⟨b, o + m * k, ?_, hb, hlt, fun j x hx => ?_⟩
      · by_cases hk0 : m * k = 0 <;> simp [Addr.add, hk0]
      · rw [List.getElem?_drop] at hx
        obtain ⟨vs, a1, a2, a3⟩ := hc (m + j) x hx
        refine ⟨vs, a1, fun i v hi => ?_, a3⟩
        rw [Nat.add_assoc o, ← Nat.add_mul]
        exact a2 i v hi
theorem flatten_take {k : Nat} : ∀ {raw : List (List Value)} {j : Nat}, (∀ y ∈ raw, y.length = k) → (raw.take j).flatten = raw.flatten.take (j * k)
  | [], j, _ => by simp
  | y :: raw, 0, _ => by simp
  | y :: raw, j + 1, h => by
    have hy := h y (by simp)
    rw [List.take_succ_cons, List.flatten_cons, List.flatten_cons, flatten_take fun z hz => h z (by simp [hz]), show (j + 1) * k = y.length + j * k by rw [hy, Nat.add_mul]; omega, List.take_length_add_append]
theorem own_block (A : Option Addr) (n n' c c' : Nat) : (Value.slice A n c).ownBlock = (Value.slice A n' c').ownBlock := by cases A <;> rfl
/-- A row of the call's own, cut. -/
theorem Gr.take {α : Type} {k : Nat} {P : World → (Nat → Prop) → List Value → α → Prop} {w : World} {base : Nat} {E : TypeId} {A : Option Addr} {n c : Nat} {l : List α} (hP : Keeps P) (h : Gr k P w base E A n c l) {j : Nat} (hj : j ≤ n) : Gr k P w base E A j c (l.take j) := by
  obtain ⟨⟨raw, ⟨h0, h1⟩, h2, h3, h4, h5⟩, hb⟩ := h
  have hl : ∀ y ∈ raw.take j, y.length = k := fun y hy => h4 y (List.mem_of_mem_take hy)
  have hr : (raw.take j).length = j := by rw [List.length_take]; omega
  refine ⟨⟨raw.take j, ⟨by rw [flatten_len hl, hr], ?_⟩, hr, by rw [List.length_take]; omega, hl, fun i vs x a b => ?_⟩, hb⟩
  · rcases h1 with ⟨hv, hn⟩ | ⟨g, cap, cur, a, b, r1, r2, r3, r4, r5⟩
    · obtain rfl : j = 0 := by omega
      injection hv with e1 e2 e3
      subst e1 e3
      exact .inl ⟨rfl, rfl⟩
    · injection a with e1 e2 e3
      subst e1 e3
      refine .inr ⟨g, c, cur, rfl, b, r1, by omega, r3, r4, ?_⟩
      rw [flatten_take h4, ← r5, List.take_take]
      congr 1
      exact (Nat.min_eq_left (Nat.mul_le_mul_right k hj)).symm
  · have hij : i < j := by have := (List.getElem?_eq_some_iff.1 a).1; omega
    rw [List.getElem?_take, if_pos hij] at a b
    exact hP _ _ _ _ vs x (h5 i vs x a b) (Kept.refl _ _) (fun b hb _ => ⟨hb.1, by rw [own_block A j n c c]; exact hb.2⟩)
end Go.Proofs.Ytjpkemamfccfdaa
/- bailiffkeep.Asks: a request in new memory. -/
namespace Go.Proofs.Ytjpkemamfccfdaa
set_option linter.unusedVariables false
open Go.RowKit

/-- A row of the call's own of attributes whose bags lie anywhere but in it. -/
def Og (w : World) (base : Nat) (A : Option Addr) (n c : Nat) (l : List Giv) : Prop := Ow 3 (GivAt w (Nb 0 (.slice A n c))) w base 48 A n c l ∧ base ≤ w.heap.size
theorem Og.of_gr {w : World} {base n c : Nat} {A : Option Addr} {l : List Giv} (h : Gr 3 GivAt w base 48 A n c l) : Og w base A n c l :=
  ⟨h.1.mapP fun vs x _ hp => hp.keep (Kept.refl _ _) (fun b hb _ => ⟨Nat.zero_le _, hb.2⟩), h.2⟩
theorem Og.below {w w' : World} {base n c : Nat} {A : Option Addr} {l : List Giv} (h : Og w base A n c l) (hb : Below w.heap.size w w') : Og w' base A n c l :=
  ⟨(h.1.mapP (fun vs x _ hp => hp.keep (Kept.all hb _) (fun _ h _ => h))).below hb, Nat.le_trans h.2 hb.size⟩
theorem Og.gvs {w : World} {base n c : Nat} {A : Option Addr} {l : List Giv} (h : Og w base A n c l) (hn : n ≤ 1000000) : Gvs w (fun _ => True) A n c l :=
  (h.1.mapP (fun vs x _ hp => hp.keep (Kept.refl _ _) (fun _ _ _ => trivial))).rw (by omega) (fun _ _ _ => trivial)
/-- One more, whose bag may lie anywhere. -/
theorem Og.push {w : World} {base n c : Nat} {A : Option Addr} {l : List Giv} {A1 : Option Addr} {n1 c1 : Nat} {g : Giv} (h : Og w base A n c l) (hok : g.ok) (hx : Vls w (Nb 0 (.slice A n c)) A1 n1 c1 g.bag) (hn : n < 1000000) :
    ∃ A' c' w', (Builtin.append_ #[30, 30] 30 #[.slice A n c, .slice (some ⟨w.heap.size, 0, none⟩) 1 1]).run Try.prog (w.alloc (.cells #[.int .i64 g.cat, .string g.name, .slice A1 n1 c1] 48)) = .ok (.slice A' (n + 1) c') w' ∧ Og w' base A' (n + 1) c' (l ++ [g]) ∧ Below base w w' := by
  obtain ⟨i, hi, hz, hs, hb⟩ := info_of givinfo
  have hbase := h.2
  have a1 : Below w.heap.size w (w.alloc (.cells #[.int .i64 g.cat, .string g.name, .slice A1 n1 c1] 48)) := (Below.refl _ _).alloc (Nat.le_refl _) _
  have h' := Og.below h a1
  have hlit : Rw 3 (GivAt (w.alloc (.cells #[.int .i64 g.cat, .string g.name, .slice A1 n1 c1] 48)) (Nb 0 (.slice A n c))) (w.alloc (.cells #[.int .i64 g.cat, .string g.name, .slice A1 n1 c1] 48)) (fun _ => True) (some ⟨w.heap.size, 0, none⟩) 1 1 [g] := by
    have := Rw.lit (P := GivAt (w.alloc (.cells #[.int .i64 g.cat, .string g.name, .slice A1 n1 c1] 48)) (Nb 0 (.slice A n c))) (R := fun _ => True) w 48 (fun _ => [.int .i64 g.cat, .string g.name, .slice A1 n1 c1]) [g] (n := 1) rfl (by omega) trivial (fun _ _ => rfl) (fun y hy => by simp at hy; subst hy; exact GivAt.keep ⟨A1, n1, c1, rfl, hok, hx⟩ (Kept.all a1 _) (fun _ h _ => h))
    simpa using this
  obtain ⟨A', c', w', hrun, hown, hbel, hg, hob⟩ := Ow.app (ty := 30) Try.underlying30 hi hz hs hb rfl (by omega) (by omega) h'.1 hlit (GivAt.one) (by omega) h'.2
  refine ⟨A', c', w', hrun, ⟨hown.mapP fun vs x _ hp => hp.keep ⟨hg.size, fun b hR hlt => hg.block b hlt hR.2⟩ (fun b hR hlt => ⟨hR.1, ?_⟩), Nat.le_trans h'.2 hbel.size⟩, (a1.mono hbase).trans hbel⟩
  rcases hob with e | e
  · rw [e]; exact hR.2
  · rw [e]
    intro he
    injection he with he
    omega

/-- Bags that aren't long. -/
def FewB (l : List Giv) : Prop := ∀ g ∈ l, g.bag.length ≤ 100000
set_option maxRecDepth 100000 in
set_option maxHeartbeats 1600000 in
theorem asks_any {w : World} {R : Nat → Prop} {A : Option Addr} {n c : Nat} {l : List Giv} (h : Gvs w R A n c l) (hf : FewB l) (hn : n ≤ 100000) :
    Calls Try.prog 24 #[.slice A n c] w fun e w' => ∃ A' c', e = .returned (.slice A' n c') ∧ Below w.heap.size w w' ∧ Gr 3 GivAt w' w.heap.size 48 A' n c' l := by
  have hle := Rw.le h
  have hcap := Rw.cap h
  have HL := Lib.hid (Rw.len h)
  unfold maxLen at hcap
  have H := Lib.hid h
  have HF := Lib.hid hf
  clear h hf
  go_enter Try.func24, Try.ntmps24
  go_wp2
  go_loopw [3, 8] (fun out i wr => ∃ (k : Nat) (A' : Option Addr) (c' : Nat), k ≤ n ∧ i = .int .i64 k ∧ out = .slice A' k c' ∧ Gr 3 GivAt wr w.heap.size 48 A' k c' (l.take k) ∧ Below w.heap.size w wr) (fun out i _ => n - (intOf i).toNat)
  case atStart => exact ⟨0, none, 0, Nat.zero_le _, rfl, rfl, Gr.nil _ _ (Nat.le_refl _), Below.refl _ _⟩
  case round =>
    obtain ⟨k, A', c', hk, rfl, rfl, ho, hb⟩ := hrel
    have HO := Lib.hid ho
    have HB := Lib.hid hb
    clear ho hb
    by_cases hlt : k < n
    · obtain ⟨b, o, x, Ax, nx, cx, rfl, hRb, hbl, hx, hok, ⟨x0, x1, x2⟩, hin⟩ := (H.out.keep (Kept.all HB.out R) (fun _ h _ => h)).at_ hlt
      have HX := Lib.hid hx
      have HK := Lib.hid hok
      have hlim : nx ≤ 100000 := by have := HF.out x (List.mem_of_getElem? hx); have := Rw.len hin; omega
      obtain ⟨xc, xn, xb⟩ := x
      simp only at x0 x1 x2 hin
      have D0 := (Below.refl wr.heap.size wr).alloc (Nat.le_refl _) (.cells #[.int .i64 xc, .string xn, .slice Ax nx cx] 48)
      obtain ⟨A5, c5, w5, r5, b5, v5⟩ := copy_bag (hin.keep (Kept.all D0 R) (fun _ h _ => h)) (by omega)
      rw [size_al] at r5 b5 v5
      have q1 := Ob.below (Ob.made wr 48 #[.int .i64 xc, .string xn, .slice Ax nx cx]) b5 (by omega)
      have q4 := q1.frozen 2
      have q5 := q1.put 2 (.slice A5 nx c5)
      have d1 : Below wr.heap.size wr (w5.setCell ⟨wr.heap.size, 2, none⟩ (.slice A5 nx c5)) := (D0.trans (b5.mono (by omega))).setCell (Nat.le_refl _) _
      have v6 : Vls (w5.setCell ⟨wr.heap.size, 2, none⟩ (.slice A5 nx c5)) (Nb w.heap.size (.slice A' k c')) A5 nx c5 xb :=
        v5.keep ⟨by simp [World.setCell], fun b hb _ => Below.heap_setCell _ _ _ _ (by have h1 : wr.heap.size + 1 ≤ b := hb; show b ≠ wr.heap.size; omega)⟩ (fun b hb _ => HO.out.apart b (by have h1 : wr.heap.size + 1 ≤ b := hb; omega))
      obtain ⟨A2, c2, w2, r2, o2, b2⟩ := push_giv (g := ⟨xc, xn, xb⟩) (Gr.below keeps_giv HO.out d1) HK.out v6 (by omega)
      have hz : (w5.setCell ⟨wr.heap.size, 2, none⟩ (.slice A5 nx c5)).heap.size = w5.heap.size := by simp [World.setCell]
      rw [hz] at r2
      simp only at r2
      have R5 := Lib.hid r5
      have R2 := Lib.hid r2
      have O2 := Lib.hid o2
      have B2 := Lib.hid (HB.out.trans ((d1.mono HB.out.size).trans b2))
      have Q5 := Lib.hid q5
      have z2 := q1.cell 2
      have z0 := q1.cell 0
      have z1 := q1.cell 1
      have HZ := Lib.hid hz
      clear hx hok hin D0 r5 b5 v5 q1 q5 d1 v6 hz r2 o2 b2
      go_wp2_with (first
        | (at_builtin; refine wpList_append_run (o := ⟨some 15, _, _, _, _, _⟩) rfl _ _ _ _ rfl rfl rfl R5.out ?_)
        | (at_builtin; refine wpList_append_run (o := ⟨some 20, _, _, _, _, _⟩) rfl _ _ _ _ rfl rfl rfl R2.out ?_))
      go_roundw
      case rel => exact ⟨k + 1, A2, c2, by omega, by go_num, rfl, by rw [take_one HX.out]; exact O2.out, B2.out⟩
      case measure => simp [intOf]; omega
    · obtain rfl : k = n := by omega
      go_wp2
      go_ret
      have ho := HO.out
      rw [List.take_of_length_le (by have := HL.out; omega)] at ho
      exact ⟨A', c', rfl, HB.out, ho⟩
end Go.Proofs.Ytjpkemamfccfdaa
/- apart: the same attribute in memory of its own. -/
namespace Go.Proofs.Ytjpkemamfccfdaa
set_option linter.unusedVariables false
open Go.RowKit Go.Sort

theorem giv_ret {fn : Func} {p : Tmp} {tmps : Array Value} {w : World} {g : Nat} {k : Int} {s : ByteArray} {A : Option Addr} {n c : Nat} (h : fn.results = #[.cell p 48]) (hp : tmps.getD p undef = .pointer (some ⟨g, 0, none⟩)) (hg : Ob w g 48 #[.int .i64 k, .string s, .slice A n c]) :
    (results fn tmps).run Try.prog w = .ok (.agg #[.int .i64 k, .string s, .slice A n c]) w :=
  results_cell_row h tmps w g _ _ (0, 0) _ hp hg Try.underlying48 rfl (by kernel_rfl)
set_option maxRecDepth 100000 in
set_option maxHeartbeats 4000000 in
theorem apart_any {w : World} {R : Nat → Prop} {A : Option Addr} {n c : Nat} (g : Giv) (hs : g.name.size ≤ 1000000) (h : Vls w R A n c g.bag) (hsh : Shorts g.bag) (hn : n ≤ 100000) :
    Calls Try.prog 42 #[.agg #[.int .i64 g.cat, .string g.name, .slice A n c]] w fun e w' => ∃ A' c', e = .returned (.agg #[.int .i64 g.cat, .string g.name, .slice A' n c']) ∧ Below w.heap.size w w' ∧ Vls w' (fun b => w.heap.size ≤ b) A' n c' g.bag := by
  obtain ⟨gc, gn, gb⟩ := g
  simp only at hs h hsh ⊢
  have HCL := Lib.hid (fun W => clone_any gn W hs)
  have B0 := Lib.hid (((Below.refl w.heap.size w).alloc (Nat.le_refl _) (.cells #[.int .i64 gc, .string gn, .slice A n c] 48)).alloc (by rw [size_al]; omega) (.cells #[.int .i64 0, .string ⟨#[]⟩, .slice none 0 0] 48))
  have OB : Ob ((w.alloc (.cells #[.int .i64 gc, .string gn, .slice A n c] 48)).alloc (.cells #[.int .i64 0, .string ⟨#[]⟩, .slice none 0 0] 48)) w.heap.size 48 #[.int .i64 gc, .string gn, .slice A n c] := (Ob.made w _ _).keep (Below.heap_alloc _ _ _ (by rw [size_al]; omega))
  have OR : Ob ((w.alloc (.cells #[.int .i64 gc, .string gn, .slice A n c] 48)).alloc (.cells #[.int .i64 0, .string ⟨#[]⟩, .slice none 0 0] 48)) (w.heap.size + 1) 48 #[.int .i64 0, .string ⟨#[]⟩, .slice none 0 0] := by
    have := Ob.made (w.alloc (.cells #[.int .i64 gc, .string gn, .slice A n c] 48)) 48 #[.int .i64 0, .string ⟨#[]⟩, .slice none 0 0]
    rwa [size_al] at this
  have HSZ : Hid (((w.alloc (.cells #[.int .i64 gc, .string gn, .slice A n c] 48)).alloc (.cells #[.int .i64 0, .string ⟨#[]⟩, .slice none 0 0] 48)).heap.size = w.heap.size + 2) := by show _ = _; rw [size_al, size_al]
  have CP := Lib.hid (fun W (hW : Below w.heap.size w W) => copied_any (h.keep (Kept.all hW R) (fun _ h _ => h)) hsh hn)
  go_enter Try.func42, Try.ntmps42
  go_upto_region 1 with fail
  generalize (w.alloc (.cells #[.int .i64 gc, .string gn, .slice A n c] 48)).alloc (.cells #[.int .i64 0, .string ⟨#[]⟩, .slice none 0 0] 48) = W1 at *
  have KO : Hid (∀ W, Below W1.heap.size W1 W → W.cell? ⟨w.heap.size, 0, none⟩ = some (.int .i64 gc) ∧ W.cell? ⟨w.heap.size, 1, none⟩ = some (.string gn) ∧ W.cell? ⟨w.heap.size, 2, none⟩ = some (.slice A n c)) := by
    show ∀ W, _ → _
    intro W hb
    have o := OB.below hb (by have := HSZ.out; omega)
    exact ⟨o.cell 0, o.cell 1, o.cell 2⟩
  have HOR := Lib.hid OR
  clear OB OR h
  refine wp_region_held_tail (fun w' => Below W1.heap.size W1 w') 9 (by kernel_rfl) (by kernel_rfl) ?_
  intro G
  change HeadW _ _ _ _ _ _ _ _ _ _ (W1.drewN 1)
  have S0 := Lib.hid (below_drewN (Below.refl W1.heap.size W1) 1)
  generalize W1.drewN 1 = v0 at *
  refine HeadW_take (i := 0) (v := ?_) G rfl (by kernel_rfl) (by kernel_rfl) (by kernel_rfl) (fun _ _ _ h => h) (Or.inl ⟨by rfl, ?_⟩) S0.out ?_
  rotate_left
  · intro wz hS
    go_simp
    try with_reducible rfl
  refine HeadW_take (i := 1) (v := ?_) G rfl (by kernel_rfl) (by kernel_rfl) (by kernel_rfl) (fun _ _ _ h => h) (Or.inl ⟨by rfl, ?_⟩) S0.out ?_
  rotate_left
  · intro wz hS
    have hk1 := (KO.out _ hS).1
    go_simp
    try with_reducible rfl
  refine HeadW_take (i := 2) (v := ?_) G rfl (by kernel_rfl) (by kernel_rfl) (by kernel_rfl) (fun _ _ _ h => h) (Or.inl ⟨by rfl, ?_⟩) S0.out ?_
  rotate_left
  · intro wz hS
    go_simp
    try with_reducible rfl
  refine HeadW_take (i := 3) (v := ?_) G rfl (by kernel_rfl) (by kernel_rfl) (by kernel_rfl) (fun _ _ _ h => h) (Or.inl ⟨by rfl, ?_⟩) S0.out ?_
  rotate_left
  · intro wz hS
    have hk1 := (KO.out _ hS).2.1
    go_simp
    try with_reducible rfl
  refine HeadW_take (i := 5) (v := ?_) G rfl (by kernel_rfl) (by kernel_rfl) (by kernel_rfl) (fun _ _ _ h => h) (Or.inl ⟨by rfl, ?_⟩) S0.out ?_
  rotate_left
  · intro wz hS
    go_simp
    try with_reducible rfl
  refine HeadW_take (i := 6) (v := ?_) G rfl (by kernel_rfl) (by kernel_rfl) (by kernel_rfl) (fun _ _ _ h => h) (Or.inl ⟨by rfl, ?_⟩) S0.out ?_
  rotate_left
  · intro wz hS
    have hk1 := (KO.out _ hS).2.2
    go_simp
    try with_reducible rfl
  refine HeadW_ready (rs := [4]) (by kernel_rfl) rfl rfl ?_
  refine AllW.cons rfl (fun K hK => ?_) AllW.nil
  go_simp
  refine (HCL.out _).mono ?_
  rintro e v2 ⟨rfl, hb⟩
  have S2 := Lib.hid (S0.out.trans (hb.mono S0.out.size))
  refine hK _ _ S2.out ?_
  clear hK K hb
  refine HeadW_ready (rs := [7]) (by kernel_rfl) rfl rfl ?_
  refine AllW.cons rfl (fun K hK => ?_) AllW.nil
  go_simp
  refine (CP.out _ (B0.out.trans (S2.out.mono B0.out.size))).mono ?_
  rintro e v3 ⟨A3, c3, rfl, hb, hv⟩
  have S3 := Lib.hid (S2.out.trans (hb.mono S2.out.size))
  have V3 := Lib.hid hv
  have Z2 := Lib.hid S2.out.size
  refine hK _ _ S3.out ?_
  clear hK K hb hv
  refine HeadW_ready (rs := [8]) (by kernel_rfl) rfl rfl ?_
  refine AllW.cons rfl (fun K hK => ?_) AllW.nil
  go_simp
  refine hK _ _ S3.out ?_
  clear hK K
  intro _
  refine ⟨by kernel_rfl, ?_⟩
  simp only [List.drop_succ_cons, List.drop_zero]
  have OR3 := HOR.out.below S3.out (by have := HSZ.out; omega)
  have P1 := OR3.put 0 (.int .i64 gc)
  have P2 := P1.put 1 (.string gn)
  have P3 := Lib.hid (P2.put 2 (.slice A3 n c3))
  have f0 := OR3.frozen 0
  have f1 := P1.frozen 1
  have f2 := P2.frozen 2
  have z0 := OR3.cell 0
  have z1 := P1.cell 1
  have z2 := P2.cell 2
  clear OR3 P1 P2
  go_wp2_with fail
  refine bodyPost_ret (giv_ret rfl rfl (by simpa using P3.out)) rfl ?_
  have hsz := HSZ.out
  have hsz3 := S3.out.size
  have hlow : Below w.heap.size w v3 := B0.out.trans (S3.out.mono B0.out.size)
  refine ⟨A3, c3, rfl, ((hlow.setCell (p := ⟨w.heap.size + 1, 0, none⟩) (by show _ ≤ w.heap.size + 1; omega) _).setCell (p := ⟨w.heap.size + 1, 1, none⟩) (by show _ ≤ w.heap.size + 1; omega) _).setCell (p := ⟨w.heap.size + 1, 2, none⟩) (by show _ ≤ w.heap.size + 1; omega) _, ?_⟩
  refine V3.out.keep ⟨by simp [World.setCell], fun b hb _ => ?_⟩ (fun b hb _ => ?_)
  · have hb' : v2.heap.size ≤ b := hb
    have := Z2.out
    rw [Below.heap_setCell _ _ _ _ (by show b ≠ w.heap.size + 1; omega), Below.heap_setCell _ _ _ _ (by show b ≠ w.heap.size + 1; omega), Below.heap_setCell _ _ _ _ (by show b ≠ w.heap.size + 1; omega)]
  · have hb' : v2.heap.size ≤ b := hb
    have := Z2.out
    show w.heap.size ≤ b
    omega
end Go.Proofs.Ytjpkemamfccfdaa
/- A store of an attribute into a row of the call's own. -/
namespace Go.Proofs.Ytjpkemamfccfdaa
set_option linter.unusedVariables false
open Go.RowKit

theorem flatten_set3 {a b c : Value} : ∀ {raw : List (List Value)} {j : Nat}, (∀ y ∈ raw, y.length = 3) → j < raw.length → (raw.set j [a, b, c]).flatten = ((raw.flatten.set (j * 3) a).set (j * 3 + 1) b).set (j * 3 + 2) c
  | [], _, _, h => by simp at h
  | y :: raw, 0, hk, _ => by
    have := hk y (by simp)
    match y, this with
    | [y0, y1, y2], _ => rfl
  | y :: raw, j + 1, hk, h => by
    have hy := hk y (by simp)
    have ih := flatten_set3 (a := a) (b := b) (c := c) (raw := raw) (j := j) (fun z hz => hk z (by simp [hz])) (by simpa using h)
    match y, hy with
    | [y0, y1, y2], _ =>
      rw [List.set_cons_succ, List.flatten_cons, ih, List.flatten_cons, show (j + 1) * 3 = j * 3 + 1 + 1 + 1 by omega]
      rfl
/-- What lies from a higher block on lies from a lower one on. -/
theorem Gr.less {w : World} {base base' n c : Nat} {A : Option Addr} {l : List Giv} (h : Gr 3 GivAt w base 48 A n c l) (hb : base' ≤ base) : Gr 3 GivAt w base' 48 A n c l := by
  obtain ⟨⟨raw, ⟨h0, h1⟩, h2, h3, h4, h5⟩, hbs⟩ := h
  refine ⟨⟨raw, ⟨h0, ?_⟩, h2, h3, h4, fun j vs x a b => (h5 j vs x a b).keep (Kept.refl _ _) (fun k hk _ => ⟨Nat.le_trans hb hk.1, hk.2⟩)⟩, Nat.le_trans hb hbs⟩
  rcases h1 with h1 | ⟨g, cap, cur, a, b, r⟩
  · exact .inl h1
  · exact .inr ⟨g, cap, cur, a, Nat.le_trans hb b, r⟩
/-- Another attribute in the place of one. -/
theorem Gr.put_giv {w : World} {base n c : Nat} {A : Option Addr} {l : List Giv} {A1 : Option Addr} {n1 c1 j : Nat} {g : Giv} (h : Gr 3 GivAt w base 48 A n c l) (hj : j < n) (hok : g.ok) (hx : Vls w (Nb base (.slice A n c)) A1 n1 c1 g.bag) :
    ∃ b u0 u1 u2, A = some ⟨b, 0, none⟩ ∧ base ≤ b ∧ b < w.heap.size ∧ (w.cell? ⟨b, j * 3, none⟩ = some u0 ∧ (w.setCell ⟨b, j * 3, none⟩ (.int .i64 g.cat)).cell? ⟨b, j * 3 + 1, none⟩ = some u1 ∧ ((w.setCell ⟨b, j * 3, none⟩ (.int .i64 g.cat)).setCell ⟨b, j * 3 + 1, none⟩ (.string g.name)).cell? ⟨b, j * 3 + 2, none⟩ = some u2) ∧
      (w.frozen? ⟨b, j * 3, none⟩ = false ∧ (w.setCell ⟨b, j * 3, none⟩ (.int .i64 g.cat)).frozen? ⟨b, j * 3 + 1, none⟩ = false ∧ ((w.setCell ⟨b, j * 3, none⟩ (.int .i64 g.cat)).setCell ⟨b, j * 3 + 1, none⟩ (.string g.name)).frozen? ⟨b, j * 3 + 2, none⟩ = false) ∧
      Only b w (((w.setCell ⟨b, j * 3, none⟩ (.int .i64 g.cat)).setCell ⟨b, j * 3 + 1, none⟩ (.string g.name)).setCell ⟨b, j * 3 + 2, none⟩ (.slice A1 n1 c1)) ∧
      Gr 3 GivAt (((w.setCell ⟨b, j * 3, none⟩ (.int .i64 g.cat)).setCell ⟨b, j * 3 + 1, none⟩ (.string g.name)).setCell ⟨b, j * 3 + 2, none⟩ (.slice A1 n1 c1)) base 48 A n c (l.set j g) := by
  obtain ⟨⟨raw, h1, h2, h3, h4, h5⟩, hbs⟩ := h
  rcases h1.2 with ⟨hv, hn⟩ | ⟨b, cap, cur, hv, hb, hg, hnc, hcm, hcs, ht⟩
  · omega
  · injection hv with e1 e2 e3
    subst e1 e3
    have hlt : b < w.heap.size := by
      rcases Nat.lt_or_ge b w.heap.size with hlt | hge
      · exact hlt
      · rw [Array.getElem?_eq_none hge] at hg; cases hg
    have hr : raw[j]? = some raw[j] := List.getElem?_eq_getElem (by omega)
    have hlen := h4 _ (List.getElem_mem (show j < raw.length by omega))
    have hfl : raw.flatten.length = n * 3 := by rw [flatten_len h4, h2]
    have hob : Ob w b 48 cur := hg
    have hcu : ∀ i : Nat, i < n * 3 → i < cur.size := fun i hi => by
      have := h1.cells (g := b) rfl i _ (List.getElem?_eq_getElem (by rw [hfl]; exact hi))
      have add : (⟨b, 0, none⟩ : Addr).add i = ⟨b, i, none⟩ := by by_cases hi0 : i = 0 <;> simp [Addr.add, hi0]
      rw [add, hob.cell] at this
      exact (Array.getElem?_eq_some_iff.1 this).1
    obtain ⟨s1, t1⟩ := h1.stored (j * 3) (.int .i64 g.cat)
    obtain ⟨s2, t2⟩ := s1.stored (j * 3 + 1) (.string g.name)
    obtain ⟨s3, t3⟩ := s2.stored (j * 3 + 2) (.slice A1 n1 c1)
    have o1 := hob.put (j * 3) (.int .i64 g.cat)
    have o2 := o1.put (j * 3 + 1) (.string g.name)
    have hon : Only b w (((w.setCell ⟨b, j * 3, none⟩ (.int .i64 g.cat)).setCell ⟨b, j * 3 + 1, none⟩ (.string g.name)).setCell ⟨b, j * 3 + 2, none⟩ (.slice A1 n1 c1)) := ((Only.refl.setCell (p := ⟨b, j * 3, none⟩) rfl _).setCell (p := ⟨b, j * 3 + 1, none⟩) rfl _).setCell (p := ⟨b, j * 3 + 2, none⟩) rfl _
    have K : Kept (Nb base (.slice (some ⟨b, 0, none⟩) n c)) w (((w.setCell ⟨b, j * 3, none⟩ (.int .i64 g.cat)).setCell ⟨b, j * 3 + 1, none⟩ (.string g.name)).setCell ⟨b, j * 3 + 2, none⟩ (.slice A1 n1 c1)) :=
      ⟨hon.le, fun k hk hl => hon.heap hl (fun e => hk.2 (by rw [e]; rfl))⟩
    have c0 := hcu (j * 3) (by omega)
    have c1' := hcu (j * 3 + 1) (by omega)
    have c2' := hcu (j * 3 + 2) (by omega)
    refine ⟨b, cur[j * 3], _, _, rfl, hb, hlt, ⟨by rw [hob.cell]; exact Array.getElem?_eq_getElem c0, (o1.cell _).trans (Array.getElem?_eq_getElem (by simpa using c1')), (o2.cell _).trans (Array.getElem?_eq_getElem (by simpa using c2'))⟩, ⟨hob.frozen _, o1.frozen _, o2.frozen _⟩, hon, ⟨raw.set j [.int .i64 g.cat, .string g.name, .slice A1 n1 c1], ?_, by rw [List.length_set]; exact h2, by rw [List.length_set]; exact h3, fun z hz => ?_, fun i vs x a b' => ?_⟩, Nat.le_trans hbs hon.le⟩
    · rw [flatten_set3 h4 (by omega)]; exact s3
    · rcases List.mem_or_eq_of_mem_set hz with hz | hz
      · exact h4 z hz
      · rw [hz]; rfl
    · by_cases hij : j = i
      · subst hij
        rw [List.getElem?_set_self (by omega)] at a b'
        obtain rfl := Option.some.inj a
        obtain rfl := Option.some.inj b'
        exact ⟨A1, n1, c1, rfl, hok, hx.keep K (fun _ h _ => h)⟩
      · rw [List.getElem?_set_ne hij] at a b'
        exact (h5 i vs x a b').keep K (fun _ h _ => h)
end Go.Proofs.Ytjpkemamfccfdaa
/- With: a request with one more attribute, or another one in its place. -/
namespace Go.Proofs.Ytjpkemamfccfdaa
set_option linter.unusedVariables false
open Go.RowKit

/-- Names that aren't long. -/
def ShortN (l : List Giv) : Prop := ∀ g ∈ l, g.name.size ≤ 1000000
set_option maxRecDepth 100000 in
set_option maxHeartbeats 4000000 in
theorem awith_any {w : World} {R R1 : Nat → Prop} {A A1 : Option Addr} {n c n1 c1 : Nat} {l : List Giv} (g : Giv) (h : Gvs w R A n c l) (hs : ShortG l) (hm : ShortN l) (hn : n ≤ 100000) (hok : g.ok) (hg : Vls w R1 A1 n1 c1 g.bag) (hgs : Shorts g.bag) (hgn : n1 ≤ 100000) (hgm : g.name.size ≤ 1000000) :
    Calls Try.prog 22 #[.slice A n c, .agg #[.int .i64 g.cat, .string g.name, .slice A1 n1 c1]] w fun e w' => ∃ A' n' c', e = .returned (.slice A' n' c') ∧ Below w.heap.size w w' ∧ n' ≤ n + 1 ∧ Gr 3 GivAt w' w.heap.size 48 A' n' c' (withA l g) := by
  obtain ⟨gc, gn, gb⟩ := g
  have hle := Rw.le h
  have hcap := Rw.cap h
  have HL := Lib.hid (Rw.len h)
  unfold maxLen at hcap
  have HAL := Lib.hid ((Below.refl w.heap.size w).alloc (Nat.le_refl _) (.cells #[.int .i64 gc, .string gn, .slice A1 n1 c1] 48))
  have HOB := Lib.hid (Ob.made w 48 #[.int .i64 gc, .string gn, .slice A1 n1 c1])
  have HK := Lib.hid (fun W (hW : Below w.heap.size w W) => h.keep (Kept.all hW R) (fun _ h _ => h))
  have HP := Lib.hid (fun W (hW : Below w.heap.size w W) => place_any gc gn (h.keep (Kept.all hW R) (fun _ h _ => h)))
  have HA := Lib.hid (fun W (hW : Below w.heap.size w W) => apart_any (w := W) ⟨gc, gn, gb⟩ hgm (hg.keep (Kept.all hW R1) (fun _ h _ => h)) hgs hgn)
  have HOKG : Hid (Giv.ok ⟨gc, gn, gb⟩) := hok
  have HS := Lib.hid hs
  have HM := Lib.hid hm
  clear h hs hm hok hg hgs hgn hgm
  simp only at HA
  go_enter Try.func22, Try.ntmps22
  go_wp2
  go_loopw [5, 11] (fun out i wr => ∃ (k : Nat) (A' : Option Addr) (c' : Nat), k ≤ n ∧ i = .int .i64 k ∧ out = .slice A' k c' ∧ Gr 3 GivAt wr (w.heap.size + 1) 48 A' k c' (l.take k) ∧ Below (w.heap.size + 1) (w.alloc (.cells #[.int .i64 gc, .string gn, .slice A1 n1 c1] 48)) wr) (fun out i _ => n - (intOf i).toNat)
  case atStart => exact ⟨0, none, 0, Nat.zero_le _, rfl, rfl, Gr.nil _ _ (by rw [size_al]; omega), Below.refl _ _⟩
  case round =>
    obtain ⟨k, A', c', hk, rfl, rfl, ho, hb⟩ := hrel
    have HO := Lib.hid ho
    have HB := Lib.hid hb
    have HW := Lib.hid (HAL.out.trans (hb.mono (Nat.le_succ _)))
    have OBr := Lib.hid (HOB.out.below hb (Nat.lt_succ_self _))
    clear ho hb
    by_cases hlt : k < n
    · obtain ⟨b, o, x, Ax, nx, cx, rfl, hRb, hbl, hx, hok, ⟨x0, x1, x2⟩, hin⟩ := (HK.out wr HW.out).at_ hlt
      have HX := Lib.hid hx
      have HOK := Lib.hid hok
      obtain ⟨hsx, hbx⟩ := HS.out x (List.mem_of_getElem? hx)
      have hmx := HM.out x (List.mem_of_getElem? hx)
      have hlim : nx ≤ 100000 := by have := Rw.len hin; omega
      obtain ⟨xc, xn, xb⟩ := x
      simp only at x0 x1 x2 hin hmx hsx
      have D0 := Lib.hid ((Below.refl wr.heap.size wr).alloc (Nat.le_refl _) (.cells #[.int .i64 xc, .string xn, .slice Ax nx cx] 48))
      have AP := apart_any (w := wr.alloc (.cells #[.int .i64 xc, .string xn, .slice Ax nx cx] 48)) ⟨xc, xn, xb⟩ hmx (hin.keep (Kept.all D0.out R) (fun _ h _ => h)) hsx hlim
      simp only at AP
      have AP := Lib.hid AP
      clear hx hok hin hmx hsx hbx
      go_wp2_with (first
        | (go_at_call 42; refine AP.out.mono ?_; rintro e w1 ⟨A5, c5, rfl, hb1, hv1⟩
           have d1 := below_step D0.out hb1
           obtain ⟨A2, c2, w2, r2, o2, b2⟩ := push_giv (g := ⟨xc, xn, xb⟩) (Gr.below keeps_giv HO.out d1) HOK.out (hv1.keep (Kept.refl _ _) (fun b hb _ => HO.out.apart b (Nat.le_trans D0.out.size hb))) (by omega)
           simp only at r2
           have R2 := Lib.hid r2
           have O2 := Lib.hid o2
           have B2 := Lib.hid (HB.out.trans ((d1.mono (Nat.le_trans (by rw [size_al]; exact Nat.le_refl _) HB.out.size)).trans b2))
           clear hb1 hv1 d1 r2 o2 b2)
        | (at_builtin; refine wpList_append_run (o := ⟨some 19, _, _, _, _, _⟩) rfl _ _ _ _ rfl rfl rfl R2.out ?_))
      go_roundw
      case rel => exact ⟨k + 1, A2, c2, by omega, by go_num, rfl, by rw [take_one HX.out]; exact O2.out, B2.out⟩
      case measure => simp [intOf]; omega
    · obtain rfl : k = n := by omega
      have hg := HO.out
      rw [List.take_of_length_le (by have := HL.out; omega)] at hg
      have HGR := Lib.hid hg
      have b0 := OBr.out.cell 0
      have b1 := OBr.out.cell 1
      have b2 := OBr.out.cell 2
      clear hg
      by_cases hi : idxA l gc gn < l.length
      · have hp : placeI l gc gn = (idxA l gc gn : Int) := place_pos hi
        rw [hp] at HP
        have hin : idxA l gc gn < k := by have := HL.out; omega
        have HE : Hid (withA l ⟨gc, gn, gb⟩ = l.set (idxA l gc gn) ⟨gc, gn, gb⟩) := withA_pos hi
        obtain ⟨j, hj⟩ : ∃ j, j = idxA l gc gn := ⟨_, rfl⟩
        rw [← hj] at HP hin HE
        clear hj
        clear hp hi
        obtain ⟨bo, hbo⟩ : ∃ bo, A' = some ⟨bo, 0, none⟩ := by
          obtain ⟨bo, _, _, _, e, _⟩ := HGR.out.put_giv hin HOKG.out (A1 := none) (n1 := 0) (c1 := 0) (g := ⟨gc, gn, []⟩) (Rw.nil_ _ _ _ _)
          exact ⟨bo, e⟩
        subst hbo
        have hkc' : k ≤ c' := by
          have := Rw.le (Gr.rw keeps_giv HGR.out (by omega)); exact this
        go_wp2_with (first
          | (go_at_call 43; (with_reducible refine (HP.out _ HW.out).mono ?_); rintro e w1 ⟨rfl, hb1⟩
             have W1 := Lib.hid (HW.out.trans (hb1.mono HW.out.size))
             have OB1 := Lib.hid (OBr.out.below hb1 (Ob.lt OBr.out))
             have p0 := OB1.out.cell 0
             have p1 := OB1.out.cell 1
             have p2 := OB1.out.cell 2
             have G1 := Lib.hid (Gr.below keeps_giv HGR.out hb1)
             clear hb1)
          | (go_at_call 42; (with_reducible refine (HA.out _ W1.out).mono ?_); rintro e w2 ⟨A5, c5, rfl, hb2, hv2⟩
             have W2 := Lib.hid (W1.out.trans (hb2.mono W1.out.size))
             obtain ⟨b', u0, u1, u2, ha, hbb, hblt, ⟨t0, t1, t2⟩, ⟨f0, f1, f2⟩, hon, hset⟩ := (Gr.below keeps_giv G1.out hb2).put_giv hin HOKG.out (A1 := A5) (n1 := n1) (c1 := c5) (hv2.keep (Kept.refl _ _) (fun b hb _ => G1.out.apart b hb))
             injection ha with ha
             injection ha with ha
             subst ha
             simp only at t1 t2 f1 f2 hon hset
             have HON := Lib.hid hon
             have HSET := Lib.hid hset
             have HBB := Lib.hid hbb
             clear hb2 hv2 hon hset hbb))
        go_ret
        exact ⟨some ⟨bo, 0, none⟩, k, c', rfl, W2.out.trans (HON.out.below W2.out.size (by have := HBB.out; omega)), Nat.le_succ _, by rw [HE.out]; exact HSET.out.less (Nat.le_succ _)⟩
      · have hp : placeI l gc gn = -1 := place_neg hi
        rw [hp] at HP
        have HE : Hid (withA l ⟨gc, gn, gb⟩ = l ++ [⟨gc, gn, gb⟩]) := if_neg hi
        clear hp hi
        go_wp2_with (first
          | (go_at_call 43; (with_reducible refine (HP.out _ HW.out).mono ?_); rintro e w1 ⟨rfl, hb1⟩
             have W1 := Lib.hid (HW.out.trans (hb1.mono HW.out.size))
             have OB1 := Lib.hid (OBr.out.below hb1 (Ob.lt OBr.out))
             have p0 := OB1.out.cell 0
             have p1 := OB1.out.cell 1
             have p2 := OB1.out.cell 2
             have G1 := Lib.hid (Gr.below keeps_giv HGR.out hb1)
             clear hb1)
          | (go_at_call 42; (with_reducible refine (HA.out _ W1.out).mono ?_); rintro e w2 ⟨A5, c5, rfl, hb2, hv2⟩
             have W2 := Lib.hid (W1.out.trans (hb2.mono W1.out.size))
             obtain ⟨A6, c6, w6, r6, o6, b6⟩ := push_giv (g := ⟨gc, gn, gb⟩) (Gr.below keeps_giv G1.out hb2) HOKG.out (hv2.keep (Kept.refl _ _) (fun b hb _ => G1.out.apart b hb)) (by omega)
             simp only at r6
             have R6 := Lib.hid r6
             have O6 := Lib.hid o6
             have B6 := Lib.hid (W2.out.trans (b6.mono (Nat.le_succ _)))
             clear hb2 hv2 r6 o6 b6)
          | (at_builtin; refine wpList_append_run (o := ⟨some 33, _, _, _, _, _⟩) rfl _ _ _ _ rfl rfl rfl R6.out ?_))
        go_ret
        exact ⟨A6, k + 1, c6, rfl, B6.out, Nat.le_refl _, by rw [HE.out]; exact O6.out.less (Nat.le_succ _)⟩
end Go.Proofs.Ytjpkemamfccfdaa
/- Requests that may be gone through in a while: none of their parts is long. -/
namespace Go.Proofs.Ytjpkemamfccfdaa
set_option linter.unusedVariables false
open Go.RowKit

theorem few_short {l : List Giv} (h : fewC l ≤ 1200) : ShortG l := fun g hg => by
  obtain ⟨h1, h2, h3⟩ := few_each h hg
  exact ⟨fun v hv => by have := h3 v hv; omega, by omega⟩
theorem few_bags {l : List Giv} (h : fewC l ≤ 1200) : FewB l := fun g hg => by
  obtain ⟨h1, h2, h3⟩ := few_each h hg
  omega
theorem few_names {l : List Giv} (h : fewC l ≤ 1200) : ShortN l := fun g hg => by
  obtain ⟨h1, h2, h3⟩ := few_each h hg
  omega
/-- An attribute alone, laid as a literal. -/
theorem one_giv {w : World} {R : Nat → Prop} {A : Option Addr} {n c : Nat} (g : Giv) (hok : g.ok) (h : Vls w R A n c g.bag) : Gvs (w.alloc (.cells #[.int .i64 g.cat, .string g.name, .slice A n c] 48)) (fun _ => True) (some ⟨w.heap.size, 0, none⟩) 1 1 [g] := by
  have a1 : Below w.heap.size w (w.alloc (.cells #[.int .i64 g.cat, .string g.name, .slice A n c] 48)) := (Below.refl _ _).alloc (Nat.le_refl _) _
  have := Rw.lit (P := GivAt (w.alloc (.cells #[.int .i64 g.cat, .string g.name, .slice A n c] 48)) (fun _ => True)) (R := fun _ => True) w 48 (fun _ => [.int .i64 g.cat, .string g.name, .slice A n c]) [g] (n := 1) rfl (by omega) trivial (fun _ _ => rfl) (fun y hy => by simp at hy; subst hy; exact GivAt.keep ⟨A, n, c, rfl, hok, h⟩ (Kept.all a1 _) (fun _ _ _ => trivial))
  exact this
theorem Gr.gvs {w : World} {base n c : Nat} {A : Option Addr} {l : List Giv} (h : Gr 3 GivAt w base 48 A n c l) (hn : n ≤ 1000000) : Gvs w (fun b => base ≤ b) A n c l := Gr.rw keeps_giv h (by omega)
theorem with_short {l : List Giv} {g : Giv} (h : ShortG l) (hg : Shorts g.bag ∧ g.bag.length ≤ 100000) : ShortG (withA l g) := fun x hx => by
  rcases with_mem hx with rfl | hx
  · exact hg
  · exact h x hx
theorem with_names {l : List Giv} {g : Giv} (h : ShortN l) (hg : g.name.size ≤ 1000000) : ShortN (withA l g) := fun x hx => by
  rcases with_mem hx with rfl | hx
  · exact hg
  · exact h x hx
theorem right_one {g : Giv} (h : rightA [g] = 0) : attrB ⟨g.cat, g.name, false⟩ = true ∧ bagB g.bag = true := (right_iff.1 h).2.1 g (by simp)
theorem with_getE {l : List Giv} {g : Giv} {a : Atr} (h : ¬ (a.cat = g.cat ∧ a.name = g.name)) : getE (withA l g) a = getE l a := by
  unfold getE getB
  rw [with_other h]
theorem with_getR {l : List Giv} {g : Giv} {a : Atr} (h : ¬ (a.cat = g.cat ∧ a.name = g.name)) : getR (withA l g) a = getR l a := by
  unfold getR
  rw [with_getE h]
  unfold getB
  rw [with_other h]
theorem with_get {l : List Giv} {g : Giv} : getE (withA l g) ⟨g.cat, g.name, false⟩ = 0 ∧ getR (withA l g) ⟨g.cat, g.name, false⟩ = g.bag := by
  have e : getE (withA l g) ⟨g.cat, g.name, false⟩ = 0 := by unfold getE; simp
  refine ⟨e, ?_⟩
  unfold getR
  rw [if_pos e]
  exact with_idx.2.1
end Go.Proofs.Ytjpkemamfccfdaa
/- One attribute after the other is taken out of a row and put behind another one. -/
namespace Go.Proofs.Ytjpkemamfccfdaa
set_option linter.unusedVariables false
open Go.RowKit

theorem append_givs {w : World} {base n c m c2 ty : Nat} {R R2 : Nat → Prop} {A A2 : Option Addr} {xs ys : List Giv} (h : Ow 3 (GivAt w R2) w base 48 A n c xs) (hy : Rw 3 (GivAt w R2) w R A2 m c2 ys) (hn : n + m ≤ 1000000) (hbase : base ≤ w.heap.size) :
    ∃ A' c' w', (Builtin.append_ #[30, 30] ty #[.slice A n c, .slice A2 m c2]).run Try.prog w = .ok (.slice A' (n + m) c') w' ∧ Ow 3 (GivAt w R2) w' base 48 A' (n + m) c' (xs ++ ys) ∧ Below base w w' ∧ w.grownBy w' (Value.slice A n c).ownBlock ∧
      ((Value.slice A' (n + m) c').ownBlock = (Value.slice A n c).ownBlock ∨ (Value.slice A' (n + m) c').ownBlock = some w.heap.size) := by
  obtain ⟨i, hi, hz, hs, hb⟩ := info_of givinfo
  exact Ow.app Try.underlying30 hi hz hs hb rfl (by omega) (by omega) h hy GivAt.one hn hbase
theorem Ow.base {α : Type} {k : Nat} {P : List Value → α → Prop} {w : World} {base base' : Nat} {E : TypeId} {A : Option Addr} {n c : Nat} {l : List α} (h : Ow k P w base E A n c l) (hb : base' ≤ base) : Ow k P w base' E A n c l := by
  obtain ⟨raw, ⟨h1, h2⟩, h3⟩ := h
  refine ⟨raw, ⟨h1, ?_⟩, h3⟩
  rcases h2 with h2 | ⟨g, cap, cur, a, b, r⟩
  · exact .inl h2
  · exact .inr ⟨g, cap, cur, a, Nat.le_trans hb b, r⟩
theorem Ow.ownLt {α : Type} {k : Nat} {P : List Value → α → Prop} {w : World} {base : Nat} {E : TypeId} {A : Option Addr} {n c : Nat} {l : List α} (h : Ow k P w base E A n c l) {b : Nat} (hb : (Value.slice A n c).ownBlock = some b) : base ≤ b ∧ b < w.heap.size := by
  obtain ⟨raw, h1, _⟩ := h
  exact h1.lt b hb
theorem Ow.givs {w w' : World} {B : Nat} {A : Option Addr} {n c : Nat} {l : List Giv} (h : Ow 3 (GivAt w (fun b => b < B)) w B 48 A n c l) {row : Option Nat} (hg : w.grownBy w' row) (hne : ∀ b, (Value.slice A n c).ownBlock = some b → some b ≠ row) (hb : Below B w w') : Ow 3 (GivAt w' (fun b => b < B)) w' B 48 A n c l := by
  refine (h.mapP fun vs x _ hp => hp.keep (Kept.below hb fun b h _ => h) fun b h _ => h).grown hg ?_
  cases ho : (Value.slice A n c).ownBlock with
  | none => exact .inl rfl
  | some b => exact .inr (hne b ho)

/-- What is left, what is turned. -/
structure Trn (B : Nat) (w0 wr : World) (Al : Option Addr) (nl cl : Nat) (At : Option Addr) (nt ct : Nat) (ll lt : List Giv) : Prop where
  l : Ow 3 (GivAt wr (fun b => b < B)) wr B 48 Al nl cl ll
  t : Ow 3 (GivAt wr (fun b => b < B)) wr B 48 At nt ct lt
  ne : ∀ b, (Value.slice Al nl cl).ownBlock = some b → (Value.slice At nt ct).ownBlock ≠ some b
  bel : Below B w0 wr
  le : B ≤ w0.heap.size
section
variable {B : Nat} {w0 wr w3 : World} {Al At : Option Addr} {nl cl nt ct : Nat} {ll lt : List Giv}
theorem Trn.leB (h : Trn B w0 wr Al nl cl At nt ct ll lt) : B ≤ wr.heap.size := Nat.le_trans h.le h.bel.size
theorem Trn.then_ (h : Trn B w0 wr Al nl cl At nt ct ll lt) (hb : Below wr.heap.size wr w3) : Trn B w0 w3 Al nl cl At nt ct ll lt := by
  have hg : wr.grownBy w3 none := ⟨hb.os, hb.tape, hb.output, hb.size, fun k hk _ => hb.block k hk⟩
  exact ⟨h.l.givs hg (fun _ _ => by simp) (hb.mono h.leB), h.t.givs hg (fun _ _ => by simp) (hb.mono h.leB), h.ne, h.bel.trans (hb.mono h.leB), h.le⟩
/-- append(turned, x). -/
theorem Trn.one (h : Trn B w0 wr Al nl cl At nt ct ll lt) {x : Giv} {vs : List Value} (hl : vs.length = 3) (hx : GivAt wr (fun b => b < B) vs x) (hn : nt < 1000000) :
    ∃ A' c' w', (Builtin.append_ #[30, 30] 30 #[.slice At nt ct, .slice (some ⟨wr.heap.size, 0, none⟩) 1 1]).run Try.prog (wr.alloc (.cells vs.toArray 48)) = .ok (.slice A' (nt + 1) c') w' ∧ Trn B w0 w' Al nl cl A' (nt + 1) c' ll (lt ++ [x]) := by
  have e1 : Below wr.heap.size wr (wr.alloc (.cells vs.toArray 48)) := (Below.refl _ _).alloc (Nat.le_refl _) _
  have h1 := h.then_ e1
  have lit : Rw 3 (GivAt (wr.alloc (.cells vs.toArray 48)) (fun b => b < B)) (wr.alloc (.cells vs.toArray 48)) (fun _ => True) (some ⟨wr.heap.size, 0, none⟩) 1 1 [x] := by
    have := Rw.lit (P := GivAt (wr.alloc (.cells vs.toArray 48)) (fun b => b < B)) (R := fun _ => True) wr 48 (fun _ => vs) [x] (n := 1) rfl (by omega) trivial (fun _ _ => hl) (fun y hy => by
      simp at hy
      subst hy
      exact hx.keep (Kept.all e1 _) fun b h _ => h)
    simpa using this
  obtain ⟨A', c', w', r, o, b, g, ob⟩ := append_givs (ty := 30) h1.t lit (by omega) h1.leB
  refine ⟨A', c', w', r, ⟨h1.l.givs g (fun b hb e => h1.ne b hb e.symm) b, o.mapP fun vs x _ hp => hp.keep (Kept.below b fun b h _ => h) fun b h _ => h, fun b2 hb2 => ?_, h1.bel.trans b, h.le⟩⟩
  rcases ob with ob | ob
  · rw [ob]; exact h1.ne b2 hb2
  · rw [ob]
    have := h.l.ownLt hb2
    have := e1.size
    intro e
    injection e with e
    rw [size_al] at e
    omega
/-- append(append([]api.Given{}, left[:k]...), left[k+1:]...). -/
theorem Trn.two (h : Trn B w0 wr Al nl cl At nt ct ll lt) {k : Nat} (hk : k < nl) (hn : nl ≤ 100000) :
    ∃ A5 c5 w5 A6 c6 w6, (Builtin.append_ #[30, 30] 30 #[.slice (some ⟨wr.heap.size, 0, none⟩) 0 0, .slice Al k cl]).run Try.prog (wr.alloc (.cells #[] 48)) = .ok (.slice A5 k c5) w5 ∧
      (Builtin.append_ #[30, 30] 30 #[.slice A5 k c5, .slice (if cl = k + 1 then Al else Al.map (·.add ((k + 1) * 3))) (nl - (k + 1)) (cl - (k + 1))]).run Try.prog w5 = .ok (.slice A6 (nl - 1) c6) w6 ∧
      Trn B w0 w6 A6 (nl - 1) c6 At nt ct (ll.take k ++ ll.drop (k + 1)) lt ∧ Below wr.heap.size wr w5 := by
  have e1 : Below wr.heap.size wr (wr.alloc (.cells #[] 48)) := (Below.refl _ _).alloc (Nat.le_refl _) _
  have h1 := h.then_ e1
  have hlB := h.leB
  obtain ⟨A5, c5, w5, r5, o5, b5, g5, ob5⟩ := append_givs (ty := 30) (Ow.made 3 (GivAt (wr.alloc (.cells #[] 48)) (fun b => b < B)) wr 48) (Rw.take (h1.l.rw (R := fun _ => True) (by omega) fun _ _ _ => trivial) (Nat.le_of_lt hk)) (by omega) e1.size
  have b5x := e1.trans b5
  replace o5 := o5.base hlB
  replace b5 := b5.mono hlB
  rw [Nat.zero_add] at r5 o5 ob5
  rw [List.nil_append] at o5
  have k5 : ∀ b, b < wr.heap.size → some b ≠ (Value.slice (some ⟨wr.heap.size, 0, none⟩) 0 0).ownBlock := fun b hb e => by
    injection e with e
    simp at e
    omega
  have own5 : ∃ b5, (Value.slice A5 k c5).ownBlock = some b5 ∧ wr.heap.size ≤ b5 := by
    rcases ob5 with ob | ob
    · exact ⟨_, ob, Nat.le_refl _⟩
    · exact ⟨_, ob, by rw [size_al]; omega⟩
  have l5 := h1.l.givs g5 (fun b hb => k5 b (h.l.ownLt hb).2) b5
  have t5 := h1.t.givs g5 (fun b hb => k5 b (h.t.ownLt hb).2) b5
  have hB5 : B ≤ w5.heap.size := Nat.le_trans h1.leB b5.size
  obtain ⟨A6, c6, w6, r6, o6, b6, g6, ob6⟩ := append_givs (ty := 30) (o5.mapP (P' := GivAt w5 (fun b => b < B)) fun vs x _ hp => hp.keep (Kept.below b5 fun b h _ => h) fun b h _ => h) (Rw.drop (l5.rw (R := fun _ => True) (by omega) fun _ _ _ => trivial) (m := k + 1) hk) (by omega) hB5
  have en : k + (nl - (k + 1)) = nl - 1 := by omega
  rw [en] at r6 o6 ob6
  obtain ⟨b5', ho5, hb5⟩ := own5
  refine ⟨A5, c5, w5, A6, c6, w6, r5, r6, ⟨o6.mapP fun vs x _ hp => hp.keep (Kept.below b6 fun b h _ => h) fun b h _ => h, t5.givs g6 (fun b hb e => ?_) b6, fun b hb e => ?_, (h1.bel.trans b5).trans b6, h.le⟩, b5x⟩
  · rw [ho5] at e
    injection e with e
    have := (h.t.ownLt hb).2
    omega
  · have := (h.t.ownLt e).2
    have h5 := b5.size
    rw [size_al] at h5
    rcases ob6 with ob | ob
    · rw [hb, ho5] at ob
      injection ob with ob
      omega
    · rw [hb] at ob
      injection ob with ob
      omega
end
end Go.Proofs.Ytjpkemamfccfdaa
/- One attribute moved behind those that are turned (plain). -/
namespace Go.Proofs.Ytjpkemamfccfdaa
set_option linter.unusedVariables false

theorem lsF_get? (l : List Giv) (t : Nat) : lsF l t = (l[t]?).getD default := by
  unfold lsF
  exact List.getElem!_eq_getElem?_getD
theorem turn_mix {n k : Nat} {l lt ll : List Giv} {x : Giv} (hn : lt.length + ll.length = n) (hx : ll[k]? = some x) (h : Mix 0 n (lsF l) (lsF (lt ++ ll))) : Mix 0 n (lsF l) (lsF ((lt ++ [x]) ++ (ll.take k ++ ll.drop (k + 1)))) := by
  have hk : k < ll.length := (List.getElem?_eq_some_iff.1 hx).1
  have e : lsF ((lt ++ [x]) ++ (ll.take k ++ ll.drop (k + 1))) = rotF lt.length (lt.length + k) (lt.length + k + 1) (lsF (lt ++ ll)) := by
    funext t
    simp only [rotF, lsF_get?, List.append_assoc]
    by_cases c1 : t < lt.length
    · rw [if_neg (by omega), if_neg (by omega), List.getElem?_append_left c1, List.getElem?_append_left c1]
    · rw [List.getElem?_append_right (by omega)]
      by_cases c2 : t = lt.length
      · subst c2
        rw [if_pos (by omega), Nat.sub_self, Nat.zero_add, List.getElem?_append_right (l₁ := lt) (i := lt.length + k) (by omega), show lt.length + k - lt.length = k by omega, hx]
        rfl
      · rw [if_neg (by omega), List.getElem?_append_right (l₁ := [x]) (by simp; omega)]
        simp only [List.length_cons, List.length_nil, Nat.zero_add]
        by_cases c3 : t < lt.length + k + 1
        · rw [if_pos (by omega), List.getElem?_append_left (by rw [List.length_take]; omega), List.getElem?_take, if_pos (by omega), List.getElem?_append_right (by omega)]
          congr 2
          omega
        · rw [if_neg (by omega), List.getElem?_append_right (by rw [List.length_take]; omega), List.getElem?_drop, List.getElem?_append_right (by omega), List.length_take]
          congr 2
          omega
  rw [e]
  exact h.trans ((Mix.rot _ (by omega) (by omega)).wide (by omega) (by omega))
end Go.Proofs.Ytjpkemamfccfdaa
/- What AskBytes' rows are, plainly: they fit, turned, with another value, with one more. -/
namespace Go.Proofs.Ytjpkemamfccfdaa
set_option linter.unusedVariables false
open Go.RowKit

theorem sumC_to (l : List Giv) : ∀ k : Nat, k ≤ l.length → sumC givC (l.take k) = sumTo k fun i => givC (lsF l i)
  | 0, _ => rfl
  | k + 1, h => by
    obtain ⟨hk, e⟩ := List.getElem?_eq_some_iff.1 (lsF_get (l := l) (i := k) (by omega))
    rw [List.take_succ_eq_append_getElem hk, sumC_app, sumC_to l k (by omega), e]
    simp [sumTo, sumC]
theorem fits_mix {l m : List Giv} (hl : m.length = l.length) (hM : Mix 0 l.length (lsF l) (lsF m)) (hf : FitsL l) : FitsL m := by
  refine ⟨by have := hf.len; omega, fun g hg => ?_, ?_⟩
  · obtain ⟨j, hj, rfl⟩ := List.getElem_of_mem hg
    obtain ⟨_, σ, τ, x⟩ := hM
    obtain ⟨_, p2, _, _, _, _, p7⟩ := x j (by omega) (by omega)
    have e1 := lsF_get (l := m) (i := j) hj
    rw [List.getElem?_eq_getElem hj] at e1
    injection e1 with e1
    rw [e1, p7]
    exact hf.each _ (List.mem_of_getElem? (lsF_get (l := l) (by omega)))
  · have e1 := sumC_to l l.length (Nat.le_refl _)
    have e2 := sumC_to m l.length (by omega)
    rw [List.take_of_length_le (by omega)] at e1
    rw [List.take_of_length_le (by omega)] at e2
    rw [e2, mix_sum givC hM, ← e1]
    exact hf.few
theorem sumC_set {l : List Giv} {k : Nat} {x y : Giv} (hk : l[k]? = some x) : sumC givC (l.set k y) + givC x = sumC givC l + givC y := by
  induction l generalizing k with
  | nil => simp at hk
  | cons z r ih =>
    cases k with
    | zero => simp at hk; subst hk; simp only [List.set_cons_zero, sumC]; omega
    | succ k => simp at hk; have := ih hk; simp only [List.set_cons_succ, sumC]; omega
theorem fits_set {l : List Giv} {k : Nat} {x : Giv} {v : Vl} (h : fewC l ≤ 1200) (hk : l[k]? = some x) (hv : v.s.size ≤ 80) : FitsL (l.set k { x with bag := x.bag ++ [v] }) := by
  have hf := few_fits h
  refine ⟨by rw [List.length_set]; exact hf.len, fun g hg => ?_, ?_⟩
  · rcases List.mem_or_eq_of_mem_set hg with hg | rfl
    · exact hf.each g hg
    · obtain ⟨h1, h2, h3⟩ := few_each h (List.mem_of_getElem? hk)
      refine ⟨by show x.name.size ≤ _; omega, by show (x.bag ++ [v]).length ≤ _; rw [List.length_append, List.length_singleton]; omega, fun u hu => ?_⟩
      rcases List.mem_append.1 hu with hu | hu
      · have := h3 u hu; omega
      · simp at hu; subst hu; omega
  · have e := sumC_set (y := { x with bag := x.bag ++ [v] }) hk
    have e2 : givC { x with bag := x.bag ++ [v] } = givC x + 1 + valC v := by
      show textC x.name + (x.bag ++ [v]).length + sumC valC (x.bag ++ [v]) = textC x.name + x.bag.length + sumC valC x.bag + 1 + valC v
      rw [sumC_app, List.length_append]
      simp only [sumC, List.length_singleton]
      omega
    have e3 : valC v = 1 + v.s.size / 8 := rfl
    unfold fewC at h
    omega
def moreG : Giv := ⟨4, ⟨#[122, 122, 95, 122, 122, 95, 109, 111, 114, 101]⟩, []⟩
theorem moreG_ok : moreG.ok := ⟨(by decide : InI 4), (by decide : (⟨#[122, 122, 95, 122, 122, 95, 109, 111, 114, 101]⟩ : ByteArray).size ≤ maxLen)⟩
theorem fits_more {l : List Giv} (h : fewC l ≤ 1200) : FitsL (l ++ [moreG]) := by
  have hf := few_fits h
  have hn := few_len h
  refine ⟨by rw [List.length_append, List.length_singleton]; omega, fun g hg => ?_, ?_⟩
  · rcases List.mem_append.1 hg with hg | hg
    · exact hf.each g hg
    · simp at hg; subst hg
      exact ⟨by show (⟨#[122, 122, 95, 122, 122, 95, 109, 111, 114, 101]⟩ : ByteArray).size ≤ 100000; decide +kernel, by show (0 : Nat) ≤ 100000; omega, fun v hv => by cases hv⟩
  · rw [sumC_app]
    have : sumC givC [moreG] = 2 := by decide +kernel
    unfold fewC at h
    omega
theorem put_pos {l : List Giv} {b : List UInt8} (h : PutOf l b) : 0 < b.length := by
  rw [put_len h]
  have : 0 < (numB (l.length : Int)).length := enc_pos (zig (l.length : Int))
  omega
theorem apart_right {l : List Giv} (h : rightA l = 0) : Apart l := (right_iff.1 h).2.2
theorem ne_len {b1 b2 : List UInt8} (h : b1.length < b2.length) : decide (b2 = b1) = false := decide_eq_false (fun e => by rw [e] at h; omega)
theorem same_is {w : World} {B B' n c n' c' : Nat} {A A' : Option Addr} {l m : List UInt8} {r : Bool} (hr : decide (l = m) = r) (h : Sl w B A n c (bv l)) (h' : Sl w B' A' n' c' (bv m)) :
    Calls Try.prog 28 #[.slice A n c, .slice A' n' c'] w fun e w' => e = .returned (.bool r) ∧ Below w.heap.size w w' :=
  (same_any h h').mono fun _ _ hh => ⟨by rw [hh.1, hr], by obtain ⟨k, hk⟩ := hh.2; rw [hk]; exact below_drewN (Below.refl _ _) k⟩
end Go.Proofs.Ytjpkemamfccfdaa
/- wrong, Right: the first thing that is wrong with a request. -/
namespace Go.Proofs.Ytjpkemamfccfdaa
set_option linter.unusedVariables false
open Go.RowKit Go.Sort

set_option maxHeartbeats 800000 in
theorem wrong_any {w : World} {R R1 : Nat → Prop} {A A1 : Option Addr} {n c n1 c1 : Nat} {l : List Giv} (g : Giv) (hok : g.ok) (h : Gvs w R A n c l) (hb : Vls w R1 A1 n1 c1 g.bag) :
    Calls Try.prog 41 #[.slice A n c, .agg #[.int .i64 g.cat, .string g.name, .slice A1 n1 c1]] w fun e w' => e = .returned (.int .i64 (wrongA l g)) ∧ Below w.heap.size w w' := by
  obtain ⟨gc, gn, gb⟩ := g
  have HA := Lib.hid (attr_any ⟨gc, gn, false⟩ ⟨hok.1, hok.2⟩)
  have HP := Lib.hid (fun W (hW : Below w.heap.size w W) => place_any gc gn (h.keep (Kept.all hW R) (fun _ h _ => h)))
  have HV := Lib.hid (fun W (hW : Below w.heap.size w W) => vbag_any (hb.keep (Kept.all hW R1) (fun _ h _ => h)).vs (Nat.le_refl _))
  have HE : Hid (wrongA l ⟨gc, gn, gb⟩ = if attrB ⟨gc, gn, false⟩ = true ∧ bagB gb = true then (if idxA l gc gn < l.length then 11 else 0) else 1) := rfl
  have HI : Hid (placeI l gc gn = if idxA l gc gn < l.length then (idxA l gc gn : Int) else -1) := rfl
  clear h hb hok
  simp only at HA HP HV HE HI ⊢
  generalize wrongA l ⟨gc, gn, gb⟩ = r at *
  generalize attrB ⟨gc, gn, false⟩ = ab at *
  generalize bagB gb = bb at *
  generalize hpi : placeI l gc gn = pi at *
  clear hpi
  have HB0 := Lib.hid ((Below.refl w.heap.size w).alloc (Nat.le_refl _) (.cells #[.int .i64 gc, .string gn, .slice A1 n1 c1] 48))
  cases ab
  · go_enter Try.func41, Try.ntmps41
    go_wp2_with (go_at_call 58; refine (HA.out _).mono ?_; rintro e w1 ⟨rfl, hb1⟩; have B1 := Lib.hid (Below.lit hb1))
    go_ret
    exact ⟨ret_int (by rw [HE.out]; simp), B1.out⟩
  cases bb
  · go_enter Try.func41, Try.ntmps41
    go_wp2_with (first
      | (go_at_call 58; refine (HA.out _).mono ?_; rintro e w1 ⟨rfl, hb1⟩; have B1 := Lib.hid (Below.lit hb1); have c1 := (Ob.below (Ob.made _ _ _) hb1 (by simp)).cell 2)
      | (go_at_call 59; refine (HV.out _ B1.out).mono ?_; rintro e w2 ⟨rfl, hb2⟩; have B2 := Lib.hid (below_step B1.out hb2)))
    go_ret
    exact ⟨ret_int (by rw [HE.out]; simp), B2.out⟩
  by_cases hi : idxA l gc gn < l.length
  · have hpi : ((pi : Int) ≥ 0) := by rw [HI.out, if_pos hi]; omega
    have HE2 : Hid (r = 11) := by show r = 11; rw [HE.out, if_pos ⟨rfl, rfl⟩, if_pos hi]
    clear HE HI hi
    go_enter Try.func41, Try.ntmps41
    go_wp2_with (first
      | (go_at_call 58; refine (HA.out _).mono ?_; rintro e w1 ⟨rfl, hb1⟩; have B1 := Lib.hid (Below.lit hb1); have OB := Lib.hid (Ob.below (Ob.made _ _ _) hb1 (by simp)); have c1 := OB.out.cell 2)
      | (go_at_call 59; refine (HV.out _ B1.out).mono ?_; rintro e w2 ⟨rfl, hb2⟩; have B2 := Lib.hid (below_step B1.out hb2); have OB2 := Lib.hid (Ob.below OB.out hb2 (Ob.lt OB.out)); have c2 := OB2.out.cell 0; have c3 := OB2.out.cell 1)
      | (go_at_call 43; refine (HP.out _ B2.out).mono ?_; rintro e w3 ⟨rfl, hb3⟩; have B3 := Lib.hid (below_step B2.out hb3)))
    go_ret
    exact ⟨ret_int HE2.out.symm, B3.out⟩
  · have hpi : ¬ ((pi : Int) ≥ 0) := by rw [HI.out, if_neg hi]; omega
    have HE2 : Hid (r = 0) := by show r = 0; rw [HE.out, if_pos ⟨rfl, rfl⟩, if_neg hi]
    clear HE HI hi
    go_enter Try.func41, Try.ntmps41
    go_wp2_with (first
      | (go_at_call 58; refine (HA.out _).mono ?_; rintro e w1 ⟨rfl, hb1⟩; have B1 := Lib.hid (Below.lit hb1); have OB := Lib.hid (Ob.below (Ob.made _ _ _) hb1 (by simp)); have c1 := OB.out.cell 2)
      | (go_at_call 59; refine (HV.out _ B1.out).mono ?_; rintro e w2 ⟨rfl, hb2⟩; have B2 := Lib.hid (below_step B1.out hb2); have OB2 := Lib.hid (Ob.below OB.out hb2 (Ob.lt OB.out)); have c2 := OB2.out.cell 0; have c3 := OB2.out.cell 1)
      | (go_at_call 43; refine (HP.out _ B2.out).mono ?_; rintro e w3 ⟨rfl, hb3⟩; have B3 := Lib.hid (below_step B2.out hb3)))
    go_ret
    exact ⟨ret_int HE2.out.symm, B3.out⟩

theorem Ob.grown3 {w : World} {g : Nat} {t : TypeId} {a b c : Value} (h : Ob w g t #[a, b, c]) : (∀ d os, (grow (redrawn w d) os).cell? ⟨g, 0, none⟩ = some a) ∧ (∀ d os, (grow (redrawn w d) os).cell? ⟨g, 1, none⟩ = some b) ∧ ∀ d os, (grow (redrawn w d) os).cell? ⟨g, 2, none⟩ = some c :=
  ⟨fun d os => cell_regrown (h.cell 0) d os, fun d os => cell_regrown (h.cell 1) d os, fun d os => cell_regrown (h.cell 2) d os⟩
set_option maxHeartbeats 1600000 in
theorem aright_any {w : World} {R : Nat → Prop} {A : Option Addr} {n c : Nat} {l : List Giv} (h : Gvs w R A n c l) :
    Calls Try.prog 21 #[.slice A n c] w fun e w' => e = .returned (.int .i64 (rightA l)) ∧ Below w.heap.size w w' := by
  have hle := Rw.le h
  have hcap := Rw.cap h
  have HL := Lib.hid (Rw.len h)
  unfold maxLen at hcap
  have H := Lib.hid h
  clear h
  by_cases h64 : 64 < n
  · have h64' : (64 : Int) < (n : Int) := by omega
    have HE : Hid (rightA l = 6) := by show rightA l = 6; unfold rightA; rw [if_pos (by have := HL.out; omega)]
    clear h64
    go_enter Try.func21, Try.ntmps21
    go_wp2_with fail
    go_ret
    exact ⟨ret_int HE.out.symm, Below.refl _ _⟩
  have h64' : ¬ (64 : Int) < (n : Int) := by omega
  have HE : Hid (rightA l = rightL [] l) := by show rightA l = _; unfold rightA; rw [if_neg (by have := HL.out; omega)]
  generalize rightA l = r at *
  go_enter Try.func21, Try.ntmps21
  go_wp2_with fail
  go_loopw [11] (fun i wr => ∃ k : Nat, k ≤ n ∧ i = .int .i64 k ∧ rightL [] l = rightL (l.take k) (l.drop k) ∧ Below w.heap.size w wr) (fun i _ => n - (intOf i).toNat)
  case atStart => exact ⟨0, Nat.zero_le _, rfl, by simp, Below.refl _ _⟩
  case round =>
    obtain ⟨k, hk, rfl, hf, hb⟩ := hrel
    have HF := Lib.hid hf
    have HB := Lib.hid hb
    have hb' := hb
    clear hf hb
    by_cases hlt : k < n
    · have HGV := Lib.hid (H.out.keep (Kept.all HB.out R) (fun _ h _ => h))
      obtain ⟨b, o, x, A', n', c', rfl, hRb, hbl, hx, hok, ⟨c0, c1, c2⟩, hin⟩ := HGV.out.at_ hlt
      have HX := Lib.hid (rightL_step hx)
      have hal := (Below.refl wr.heap.size wr).alloc (Nat.le_refl _) (.cells #[.int .i64 x.cat, .string x.name, .slice A' n' c'] 48)
      have qr := fun W (hW : Below wr.heap.size wr W) => wrong_any x hok (Rw.take (HGV.out.keep (Kept.all hW R) (fun _ h _ => h)) (Nat.le_of_lt hlt)) (hin.keep (Kept.all hW R) (fun _ h _ => h))
      have HAL := Lib.hid hal
      have hbx := Ob.made wr 48 #[.int .i64 x.cat, .string x.name, .slice A' n' c']
      have D1 := Lib.hid (hb'.alloc hb'.size (.cells #[.int .i64 x.cat, .string x.name, .slice A' n' c'] 48))
      have hk0 : (0 : Int) ≤ (k : Int) := by omega
      have hkc : (k : Int) ≤ (c : Int) := by omega
      have hw : ∀ W d os, Below wr.heap.size wr W → Calls Try.prog 41 #[.slice (some ⟨b, o, none⟩) k c, .agg #[.int .i64 x.cat, .string x.name, .slice A' n' c']] (grow (redrawn W d) os) fun e w' => e = .returned (.int .i64 (wrongA (l.take k) x)) ∧ ∃ p : Regrown, w' = grow (redrawn W p.d) p.os := fun W d os hW => Calls.regrown_of (w := W) (d := d) (os := os) (qr _ (hW.trans ((below_regrown W d os).mono hW.size)))
      clear hx hok hin qr hal
      go_wp2_with fail
      have hW1 := HAL.out
      generalize wr.alloc (.cells #[.int .i64 x.cat, .string x.name, .slice A' n' c'] 48) = W1 at *
      obtain ⟨g0, g1, g2⟩ := Ob.grown3 hbx
      have QR := Lib.hid (fun d os => hw W1 d os hW1)
      clear hw hW1
      by_cases hz : wrongA (l.take k) x = 0
      · rw [hz] at QR
        have HZ := Lib.hid hz
        clear hz
        refine wp_region_quiet_below (by kernel_rfl) (by kernel_rfl) ?_
        repeat (go_big_quiet_step ((go_at_call 41; exact QR.out _ _)))
        refine wpQuiet_nil ?_
        intro _ hw'
        obtain ⟨⟨dq, osq⟩, hw''⟩ := hw'
        subst hw''
        have D2 := Lib.hid (below_step D1.out (below_regrown W1 dq osq))
        clear g0 g1 g2
        generalize grow (redrawn W1 dq) osq = W2 at *
        go_wp2_with fail
        go_roundw
        case rel => exact ⟨k + 1, by omega, by go_num, by rw [HF.out, HX.out, if_neg (by rw [HZ.out]; simp)], D2.out⟩
        case measure => simp [intOf]; omega
      · have HZ := Lib.hid hz
        obtain ⟨ee, he⟩ : ∃ ee, ee = wrongA (l.take k) x := ⟨_, rfl⟩
        have HEE := Lib.hid he
        rw [← he] at hz QR
        have hne : (ee != 0) = true := by simpa using hz
        clear he
        refine wp_region_quiet_below (by kernel_rfl) (by kernel_rfl) ?_
        repeat (go_big_quiet_step ((go_at_call 41; exact QR.out _ _)))
        refine wpQuiet_nil ?_
        intro _ hw'
        obtain ⟨⟨dq, osq⟩, hw''⟩ := hw'
        subst hw''
        have D2 := Lib.hid (below_step D1.out (below_regrown W1 dq osq))
        clear g0 g1 g2
        generalize grow (redrawn W1 dq) osq = W2 at *
        go_wp2_with fail
        go_ret
        exact ⟨ret_int (by rw [HE.out, HF.out, HX.out, if_pos HZ.out]; exact HEE.out), D2.out⟩
    · obtain rfl : k = n := by omega
      go_wp2
      go_ret
      exact ⟨ret_int (by rw [HE.out, HF.out]; exact (rightL_end (by have := HL.out; omega)).symm), HB.out⟩
end Go.Proofs.Ytjpkemamfccfdaa
/- A store of a bag into an attribute of a row of the call's own; append(append([]Value{}, bag...), v) in whatever order its rows are laid. -/
namespace Go.Proofs.Ytjpkemamfccfdaa
set_option linter.unusedVariables false
open Go.RowKit

theorem flatten_setc {c : Value} : ∀ {raw : List (List Value)} {j : Nat} {a b u : Value}, (∀ y ∈ raw, y.length = 3) → raw[j]? = some [a, b, u] → (raw.set j [a, b, c]).flatten = raw.flatten.set (j * 3 + 2) c
  | [], _, _, _, _, _, h => by simp at h
  | y :: raw, 0, a, b, u, hk, h => by
    simp at h
    subst h
    rfl
  | y :: raw, j + 1, a, b, u, hk, h => by
    have hy := hk y (by simp)
    have ih := flatten_setc (c := c) (raw := raw) (j := j) (a := a) (b := b) (u := u) (fun z hz => hk z (by simp [hz])) (by simpa using h)
    match y, hy with
    | [y0, y1, y2], _ =>
      rw [List.set_cons_succ, List.flatten_cons, ih, List.flatten_cons, show (j + 1) * 3 + 2 = j * 3 + 2 + 1 + 1 + 1 by omega]
      rfl
/-- Another bag in the place of one. -/
theorem Gr.put_bag {w : World} {base n c : Nat} {A : Option Addr} {l : List Giv} {A1 : Option Addr} {n1 c1 j : Nat} {x : Giv} {bag : List Vl} (h : Gr 3 GivAt w base 48 A n c l) (hx : l[j]? = some x) (hv : Vls w (Nb base (.slice A n c)) A1 n1 c1 bag) :
    ∃ b u2, A = some ⟨b, 0, none⟩ ∧ base ≤ b ∧ b < w.heap.size ∧ w.cell? ⟨b, j * 3 + 2, none⟩ = some u2 ∧ w.frozen? ⟨b, j * 3 + 2, none⟩ = false ∧
      Only b w (w.setCell ⟨b, j * 3 + 2, none⟩ (.slice A1 n1 c1)) ∧ Gr 3 GivAt (w.setCell ⟨b, j * 3 + 2, none⟩ (.slice A1 n1 c1)) base 48 A n c (l.set j { x with bag := bag }) := by
  obtain ⟨⟨raw, h1, h2, h3, h4, h5⟩, hbs⟩ := h
  have hj : j < n := by have := (List.getElem?_eq_some_iff.1 hx).1; omega
  rcases h1.2 with ⟨hv, hn⟩ | ⟨b, cap, cur, hvv, hb, hg, hnc, hcm, hcs, ht⟩
  · omega
  · injection hvv with e1 e2 e3
    subst e1 e3
    have hlt : b < w.heap.size := by
      rcases Nat.lt_or_ge b w.heap.size with hlt | hge
      · exact hlt
      · rw [Array.getElem?_eq_none hge] at hg; cases hg
    have hr : raw[j]? = some raw[j] := List.getElem?_eq_getElem (by omega)
    have hfl : raw.flatten.length = n * 3 := by rw [flatten_len h4, h2]
    have hob : Ob w b 48 cur := hg
    have hcu : ∀ i : Nat, i < n * 3 → i < cur.size := fun i hi => by
      have := h1.cells (g := b) rfl i _ (List.getElem?_eq_getElem (by rw [hfl]; exact hi))
      have add : (⟨b, 0, none⟩ : Addr).add i = ⟨b, i, none⟩ := by by_cases hi0 : i = 0 <;> simp [Addr.add, hi0]
      rw [add, hob.cell] at this
      exact (Array.getElem?_eq_some_iff.1 this).1
    obtain ⟨s1, t1⟩ := h1.stored (j * 3 + 2) (.slice A1 n1 c1)
    have hon : Only b w (w.setCell ⟨b, j * 3 + 2, none⟩ (.slice A1 n1 c1)) := Only.refl.setCell (p := ⟨b, j * 3 + 2, none⟩) rfl _
    have K : Kept (Nb base (.slice (some ⟨b, 0, none⟩) n c)) w (w.setCell ⟨b, j * 3 + 2, none⟩ (.slice A1 n1 c1)) :=
      ⟨hon.le, fun k hk hl => hon.heap hl (fun e => hk.2 (by rw [e]; rfl))⟩
    have c2' := hcu (j * 3 + 2) (by omega)
    obtain ⟨Ax, nx, cx, hraw, hok, _⟩ := h5 j raw[j] x hr hx
    rw [hraw] at hr
    refine ⟨b, cur[j * 3 + 2], rfl, hb, hlt, by rw [hob.cell]; exact Array.getElem?_eq_getElem c2', hob.frozen _, hon, ⟨raw.set j [.int .i64 x.cat, .string x.name, .slice A1 n1 c1], ?_, by rw [List.length_set]; exact h2, by rw [List.length_set]; exact h3, fun z hz => ?_, fun i vs y a b' => ?_⟩, Nat.le_trans hbs hon.le⟩
    · rw [flatten_setc h4 hr]; exact s1
    · rcases List.mem_or_eq_of_mem_set hz with hz | hz
      · exact h4 z hz
      · rw [hz]; rfl
    · by_cases hij : j = i
      · subst hij
        rw [List.getElem?_set_self (by omega)] at a b'
        obtain rfl := Option.some.inj a
        obtain rfl := Option.some.inj b'
        exact ⟨A1, n1, c1, rfl, hok, hv.keep K (fun _ h _ => h)⟩
      · rw [List.getElem?_set_ne hij] at a b'
        exact (h5 i vs y a b').keep K (fun _ h _ => h)
/-- append to an empty row that was laid before. -/
theorem bag_one {V : World} {R : Nat → Prop} {A0 : Option Addr} {p0 c0 g base : Nat} {L0 : List Vl} (hg : Ob V g 25 #[]) (h0 : Vls V R A0 p0 c0 L0) (h : p0 ≤ 1000000) (hb : base ≤ g) (hbV : base ≤ V.heap.size) :
    ∃ A5 c5 w5, (Builtin.append_ #[45, 45] 45 #[.slice (some ⟨g, 0, none⟩) 0 0, .slice A0 p0 c0]).run Try.prog V = .ok (.slice A5 p0 c5) w5 ∧ Below base V w5 ∧ w5.ownsRow base 25 3 (.slice A5 p0 c5) p0 (cells3 L0) ∧ V.grownBy w5 (some g) ∧ (∀ b, (Value.slice A5 p0 c5).ownBlock = some b → b = g ∨ b = V.heap.size) := by
  obtain ⟨i, hi, hz, hs, hbb⟩ := val_parts
  have hown : V.ownsRow base 25 3 (.slice (some ⟨g, 0, none⟩) 0 0) 0 [] := own_ob hg hb
  obtain ⟨A5, c5, w5, r5, o5, b5, g5, t5⟩ := append_rows (ty := 45) (c2 := c0) (m := p0) Try.underlying45 hi hz hs hbb rfl (by omega) (by omega) hown (Rw.flat_fl h0 (by omega) Vl.one) (by omega) hbV
  rw [Nat.zero_add] at r5 o5 t5
  refine ⟨A5, c5, w5, r5, b5, by rw [cells3_flat]; exact o5, g5, fun b e => ?_⟩
  rcases t5 with t | t
  · rw [t] at e; injection e with e; exact .inl e.symm
  · rw [t] at e; injection e with e; exact .inr e.symm
theorem bag_two {V : World} {base h : Nat} {A0 : Option Addr} {p0 c0 : Nat} {L0 : List Vl} {v : Vl} (ho : V.ownsRow base 25 3 (.slice A0 p0 c0) p0 (cells3 L0)) (hv : v.ok) (hh : Vls V (fun _ => True) (some ⟨h, 0, none⟩) 1 1 [v]) (hp : p0 < 1000000) (hb : base ≤ V.heap.size) :
    ∃ A' c' w', (Builtin.append_ #[45, 45] 45 #[.slice A0 p0 c0, .slice (some ⟨h, 0, none⟩) 1 1]).run Try.prog V = .ok (.slice A' (p0 + 1) c') w' ∧
      w'.ownsRow base 25 3 (.slice A' (p0 + 1) c') (p0 + 1) (cells3 (L0 ++ [v])) ∧ Below base V w' := by
  obtain ⟨A', c', w', r, o, b, _⟩ := append_vals (ty := 45) ho hh.vs (by omega) hb
  exact ⟨A', c', w', r, o, b⟩
theorem vls_one (w : World) (v : Vl) (hv : v.ok) : Vls (w.alloc (.cells #[.int .i64 v.k, .int .i64 v.n, .string v.s] 25)) (fun _ => True) (some ⟨w.heap.size, 0, none⟩) 1 1 [v] := by
  have := Rw.lit (k := 3) (P := fun vs (v : Vl) => vs = v.cells ∧ v.ok) (R := fun _ => True) w 25 Vl.cells [v] (n := 1) rfl (by omega) trivial (fun _ _ => rfl) (fun x hx => by simp at hx; subst hx; exact ⟨rfl, hv⟩)
  rw [show [v].flatMap Vl.cells = v.cells by simp] at this
  exact this
theorem vls_grown {V w5 : World} {g : Nat} {A : Option Addr} {n c : Nat} {l : List Vl} (h : Vls V (fun _ => True) A n c l) (hg : V.grownBy w5 (some g)) (hne : ∀ b o, A = some ⟨b, o, none⟩ → b ≠ g) : Vls w5 (fun _ => True) A n c l := by
  obtain ⟨h1, h2, h3, h4⟩ := h
  refine ⟨h1, h2, h3, ?_⟩
  rcases h4 with h4 | ⟨b, o, e, _, hlt, hc⟩
  · exact .inl h4
  · have hb : w5.heap[b]? = V.heap[b]? := hg.block b hlt (fun e2 => hne b o e (by injection e2))
    refine .inr ⟨b, o, e, trivial, Nat.lt_of_lt_of_le hlt hg.size, fun j x hx => ?_⟩
    obtain ⟨vs, a1, a2, a3⟩ := hc j x hx
    exact ⟨vs, a1, fun i v hi => (World.cell?_of_block hb).trans (a2 i v hi), a3⟩
theorem bag_nb {va w6 : World} {base n c m c6 : Nat} {A A6 : Option Addr} {l : List Giv} {L : List Vl} (h : Gr 3 GivAt va base 48 A n c l) (o : w6.ownsRow va.heap.size 25 3 (.slice A6 m c6) m (cells3 L)) (hl : L.length = m) (hm : m ≤ 10000) (hok : ∀ v ∈ L, v.ok) : Vls w6 (Nb base (.slice A n c)) A6 m c6 L := by
  rw [cells3_flat] at o
  exact Rw.flat_own o (by omega) hl (fun _ => rfl) hok (fun ad _ hb => h.apart _ hb)
theorem tright_at {w : World} {R : Nat → Prop} {A : Option Addr} {n c : Nat} {l : List Giv} {r : Int} (hr : rightA l = r) (h : Gvs w R A n c l) :
    Calls Try.prog 21 #[.slice A n c] w fun e w' => e = .returned (.int .i64 r) ∧ Below w.heap.size w w' := by
  have := aright_any h
  rwa [hr] at this
end Go.Proofs.Ytjpkemamfccfdaa
/- A builtin append whose run is known, as an operation of a region's head. -/
namespace Go.Proofs.Ytjpkemamfccfdaa
set_option linter.unusedVariables false
open Go.RowKit

theorem oper_append {P : Program} {o : Oper} {a : Act} {w w' : World} {K : Act → World → Prop} {Q : Exit → Act → World → Prop} (s x : Operand) (t u : TypeId)
    (hop : o.op = Op.call { callee := Callee.builtin Builtin.append, args := #[s, x], argTypes := #[t, u] }) {sv xv v' : Value} (hs : a.eval s = sv) (hx : a.eval x = xv) (hrun : (Builtin.append_ #[t, u] o.type #[sv, xv]).run P w = .ok v' w') (hK : K (a.put o.dst v') w') : Oper.wp P o a w K Q := by
  unfold Oper.wp
  simp [execOp, hop, resolve, invoke, builtin, hs, hx, hrun, Result.andThen]
  exact hK
end Go.Proofs.Ytjpkemamfccfdaa
/- bailiffbook.Same over values: of a list and itself. -/
namespace Go.Proofs.Ytjpkemamfccfdaa
set_option linter.unusedVariables false
open Go.RowKit

set_option maxHeartbeats 800000 in
theorem vsame_any {w : World} {B B' n c c' : Nat} {A A' : Option Addr} {l : List Vl} (h : Vs w B A n c l) (h' : Vs w B' A' n c' l) :
    Calls Try.prog 31 #[.slice A n c, .slice A' n c'] w fun e w' => e = .returned (.bool true) ∧ ∃ k, w' = w.drewN k := by
  have hcap := h.2.2.1
  have hle := h.2.1
  have hle' := h'.2.1
  unfold maxLen at hcap
  have H := Lib.hid h
  have H' := Lib.hid h'
  clear h h'
  go_enter Try.func31, Try.ntmps31
  go_wp2
  go_loopw [5] (fun i wr => ∃ k : Nat, k ≤ n ∧ i = .int .i64 k ∧ ∃ q, wr = w.drewN q) (fun i _ => n - (intOf i).toNat)
  case atStart => exact ⟨0, Nat.zero_le _, rfl, 0, rfl⟩
  case round =>
    obtain ⟨k, hk, rfl, q, rfl⟩ := hrel
    by_cases hlt : k < n
    · obtain ⟨b, o, x, rfl, _, hx, _, x0, x1, x2⟩ := H.out.at_ hlt
      obtain ⟨b', o', y, rfl, _, hy, _, y0, y1, y2⟩ := H'.out.at_ hlt
      obtain rfl := Option.some.inj (hx.symm.trans hy)
      obtain ⟨kx, nx, sx⟩ := x
      have hve := val_eq kx nx kx nx sx sx
      rw [veq_true rfl] at hve
      clear hx hy
      go_wp2_with fail
      go_quiet (fail)
      go_wp2
      go_roundw
      case rel => exact ⟨k + 1, by omega, by go_num, _, rfl⟩
      case measure => simp [intOf]; omega
    · obtain rfl : k = n := by omega
      go_wp2
      go_ret
      exact ⟨rfl, _, rfl⟩
end Go.Proofs.Ytjpkemamfccfdaa
/- bailiffkeep.SameAsks, of two requests that say the same. -/
namespace Go.Proofs.Ytjpkemamfccfdaa
set_option linter.unusedVariables false
open Go.RowKit Go.Sort

/-- Same, of two rows that say the same. -/
theorem bsame_any {w : World} {R R' : Nat → Prop} {A A' : Option Addr} {n n' c c' : Nat} {l : List Vl} (h : Vls w R A n c l) (h' : Vls w R' A' n' c' l) :
    Calls Try.prog 31 #[.slice A n c, .slice A' n' c'] w fun e w' => e = .returned (.bool true) ∧ Below w.heap.size w w' := by
  obtain rfl : n = n' := by rw [← Rw.len h, ← Rw.len h']
  exact (vsame_any h.vs h'.vs).mono fun e w' ⟨he, k, hk⟩ => ⟨he, by rw [hk]; exact below_drewN (Below.refl _ _) k⟩

set_option maxRecDepth 100000 in
set_option maxHeartbeats 4000000 in
theorem same_asks {w : World} {R R' : Nat → Prop} {A A' : Option Addr} {n n' c c' : Nat} {l : List Giv} (h : Gvs w R A n c l) (h' : Gvs w R' A' n' c' l) :
    Calls Try.prog 32 #[.slice A n c, .slice A' n' c'] w fun e w' => e = .returned (.bool true) ∧ Below w.heap.size w w' := by
  obtain rfl : n = n' := by rw [← Rw.len h, ← Rw.len h']
  have hle := Rw.le h
  have hcap := Rw.cap h
  have hle' := Rw.le h'
  unfold maxLen at hcap
  have HL := Lib.hid (Rw.len h)
  have H := Lib.hid (fun W (hW : Below w.heap.size w W) => h.keep (Kept.all hW R) (fun _ h _ => h))
  have H' := Lib.hid (fun W (hW : Below w.heap.size w W) => h'.keep (Kept.all hW R') (fun _ h _ => h))
  clear h h'
  go_enter Try.func32, Try.ntmps32
  go_wp2
  go_loopw [13] (fun i wr => ∃ k : Nat, k ≤ n ∧ i = .int .i64 k ∧ Below w.heap.size w wr) (fun i _ => n - (intOf i).toNat)
  case atStart => exact ⟨0, Nat.zero_le _, rfl, Below.refl _ _⟩
  case round =>
    obtain ⟨k, hk, rfl, hb⟩ := hrel
    have HB := Lib.hid hb
    clear hb
    by_cases hlt : k < n
    · obtain ⟨b, o, x, Ax, nx, cx, rfl, _, _, hx, _, ⟨x0, x1, x2⟩, hin⟩ := (H.out wr HB.out).at_ hlt
      obtain ⟨b', o', y, Ay, ny, cy, rfl, _, _, hy, _, ⟨y0, y1, y2⟩, hin'⟩ := (H'.out wr HB.out).at_ hlt
      obtain rfl := Option.some.inj (hx.symm.trans hy)
      obtain ⟨xc, xn, xb⟩ := x
      simp only at x0 x1 x2 y0 y1 y2 hin hin'
      have I1 := Lib.hid hin
      have I2 := Lib.hid hin'
      have Q1 : Hid (∀ d os, Calls Try.prog 31 #[.slice Ax nx cx, .slice Ay ny cy] (grow (redrawn wr d) os) fun e w'' => e = .returned (.bool true) ∧ ∃ p : Regrown, w'' = grow (redrawn wr p.d) p.os) :=
        fun d os => Calls.regrown_of (bsame_any (I1.out.keep (Kept.all (below_regrown wr d os) R) (fun _ h _ => h)) (I2.out.keep (Kept.all (below_regrown wr d os) R') (fun _ h _ => h)))
      have x0' := fun d os => cell_regrown x0 d os
      have x1' := fun d os => cell_regrown x1 d os
      have x2' := fun d os => cell_regrown x2 d os
      have y0' := fun d os => cell_regrown y0 d os
      have y1' := fun d os => cell_regrown y1 d os
      have y2' := fun d os => cell_regrown y2 d os
      clear hx hy hin hin' x0 x1 x2 y0 y1 y2
      go_wp2_with fail
      refine wp_region_quiet_below (by kernel_rfl) (by kernel_rfl) ?_
      repeat (go_big_quiet_step ((go_at_call 31; exact Q1.out _ _)))
      refine wpQuiet_nil ?_
      intro _ hw'
      obtain ⟨⟨dq, osq⟩, hw''⟩ := hw'
      subst hw''
      have BQ := Lib.hid (HB.out.trans ((below_regrown wr dq osq).mono HB.out.size))
      clear x0' x1' x2' y0' y1' y2' Q1
      generalize grow (redrawn wr dq) osq = w5 at *
      go_wp2_with fail
      go_roundw
      case rel => exact ⟨k + 1, by omega, by go_num, BQ.out⟩
      case measure => simp [intOf]; omega
    · obtain rfl : k = n := by omega
      go_wp2
      go_ret
      exact ⟨rfl, HB.out⟩
end Go.Proofs.Ytjpkemamfccfdaa
/- Rows of numbers. -/
namespace Go.Proofs.Ytjpkemamfccfdaa
set_option linter.unusedVariables false
open Go.RowKit

def nv (l : List Int) : List Value := l.map fun n => Value.int .i64 n
theorem nv_get {l : List Int} {k : Nat} {x : Int} (h : l[k]? = some x) : (nv l)[k]? = some (.int .i64 x) := by simp [nv, h]
theorem Sl.nlen {w : World} {B n c : Nat} {A : Option Addr} {l : List Int} (h : Sl w B A n c (nv l)) : l.length = n := by have := h.1; simpa [nv] using this
theorem Sl.num {w : World} {B n c : Nat} {A : Option Addr} {l : List Int} (h : Sl w B A n c (nv l)) {k : Nat} (hk : k < n) : ∃ b o x, A = some ⟨b, o, none⟩ ∧ b < B ∧ l[k]? = some x ∧ w.cell? ⟨b, o + k, none⟩ = some (.int .i64 x) := by
  obtain ⟨b, o, u, e, hb, hx, hc⟩ := h.at_ hk
  have hl : k < l.length := by rw [h.nlen]; exact hk
  have hg := List.getElem?_eq_getElem hl
  rw [nv_get hg] at hx
  injection hx with hx
  subst hx
  exact ⟨b, o, l[k], e, hb, hg, hc⟩
end Go.Proofs.Ytjpkemamfccfdaa
/- bailiffbook.Within: a number brought between two bounds. -/
namespace Go.Proofs.Ytjpkemamfccfdaa
open Go.RowKit

def withinOf (n lo hi : Int) : Int := lo + n % (hi - lo + 1)
theorem within_le {n lo hi : Int} (h : lo ≤ hi) : lo ≤ withinOf n lo hi ∧ withinOf n lo hi ≤ hi := by
  unfold withinOf
  have h1 := Int.emod_nonneg n (b := hi - lo + 1) (by omega)
  have h2 := Int.emod_lt_of_pos n (b := hi - lo + 1) (by omega)
  omega

theorem tmod_emod {n m : Int} (hm : 0 < m) : -m ≤ n.tmod m ∧ n.tmod m < m ∧ ((n.tmod m < 0 ∧ n % m = n.tmod m + m) ∨ (0 ≤ n.tmod m ∧ n % m = n.tmod m)) := by
  have h1 := Int.emod_nonneg n (b := m) (by omega)
  have h2 := Int.emod_lt_of_pos n hm
  have e := Int.tmod_eq_emod (a := n) (b := m)
  split at e
  · omega
  · rw [Int.natAbs_of_nonneg (by omega)] at e
    omega

set_option maxHeartbeats 800000 in
theorem within_any {n lo hi : Int} {w : World} (h0 : 0 ≤ lo) (h1 : lo ≤ hi) (h2 : hi ≤ 4611686018427387904) :
    Calls Try.prog 34 #[.int .i64 n, .int .i64 lo, .int .i64 hi] w fun e w' => e = .returned (.int .i64 (withinOf n lo hi)) ∧ w = w' := by
  have hm := tmod_emod (n := n) (m := hi - lo + 1) (by omega)
  obtain ⟨hl, hb, hm⟩ := hm
  have HM := Lib.hid hm
  clear hm
  by_cases hneg : n.tmod (hi - lo + 1) < 0
  all_goals
    go_enter Try.func34, Try.ntmps34
    go_wp2_with fail
    go_ret
    refine ⟨ret_int ?_, rfl⟩
    have := HM.out
    unfold withinOf
    omega
end Go.Proofs.Ytjpkemamfccfdaa
/- Arguments that come in: a slice of bytes as Sl. -/
namespace Go.Proofs.Ytjpkemamfccfdaa
set_option linter.unusedVariables false
open Go.RowKit Go.ChangeShapes Go.WideShapes

theorem cell_lt {w : World} {p : Addr} {v : Value} (h : w.cell? p = some v) : p.block < w.heap.size := by
  rcases Nat.lt_or_ge p.block w.heap.size with hlt | hge
  · exact hlt
  · simp [World.cell?, Array.getElem?_eq_none hge] at h

theorem open_bytes {H : Type} {enc : TypeId × Value → H} {P : Program} {w : World} {base n c : Nat} {spare : Nat → Bool} {held : Bool} {t e : TypeId} {A : Option Addr} {d : DataW H} {p : List MemPlace}
    (ht : P.underlying t = some (.slice e)) (he : P.underlying e = some (.int .u8)) (hc : P.cellsOf e = 1) (h : DataW.Trod enc P w base spare held t (.slice A n c) d p) : ∃ l, Sl w w.heap.size A n c (bv l) := by
  obtain ⟨fuel, hf⟩ := h
  rcases open_ints ht he hc hf with ⟨hcs, _⟩ | ⟨a, len, cap, zs, hcs, _, hl, hm, hz, _, hcell, hwz⟩
  · simp [Value.cells] at hcs
    obtain ⟨rfl, rfl, rfl⟩ := hcs
    exact ⟨[], Sl.nil_ w _⟩
  · simp [Value.cells] at hcs
    obtain ⟨rfl, rfl, rfl⟩ := hcs
    have hzl : n ≤ zs.length := by rw [hz]; split <;> omega
    have hb : ∀ z ∈ zs, ((UInt8.ofNat z.toNat).toNat : Int) = z := by
      intro z hz'
      have := hwz z hz'
      simp only [Lit.wf, Bool.and_eq_true, decide_eq_true_eq] at this
      have h1 : (0 : Int) ≤ z := this.1
      have h2 : z ≤ 255 := this.2
      simp
      omega
    refine ⟨(zs.take n).map fun z => UInt8.ofNat z.toNat, by simp [bv]; omega, hl, hm, ?_⟩
    by_cases h0 : n = 0
    · exact .inl h0
    · right
      obtain ⟨b, o, spot⟩ := a
      have h00 := hcell 0 (by omega)
      have hspot : spot = none := by simpa [Addr.add] using World.cell?_spot h00
      subst hspot
      refine ⟨b, o, rfl, by have := cell_lt h00; simpa [Addr.add] using this, fun j u hj => ?_⟩
      have hjn : j < n := by
        rcases Nat.lt_or_ge j n with hlt | hge
        · exact hlt
        · rw [List.getElem?_eq_none (by simp [bv]; omega)] at hj; cases hj
      have hcj := hcell j (by omega)
      have ha : (⟨b, o, none⟩ : Addr).add j = ⟨b, o + j, none⟩ := by
        by_cases hj0 : j = 0 <;> simp [Addr.add, hj0]
      rw [ha] at hcj
      rw [hcj, ← hj]
      simp only [bv, List.map_map, List.getElem?_map, List.getElem?_take, hjn, if_true]
      rw [List.getElem?_eq_getElem (by omega : j < zs.length)]
      simp only [Option.map_some, Function.comp, List.getD, List.getElem?_eq_getElem (by omega : j < zs.length), Option.getD_some]
      rw [hb _ (List.getElem_mem _)]

theorem own_empty (w : World) (base e : Nat) (hb : base ≤ w.heap.size) : (w.alloc (.cells #[] e)).ownsRow base e 1 (.slice (some ⟨w.heap.size, 0, none⟩) 0 0) 0 [] :=
  ⟨rfl, .inr ⟨w.heap.size, 0, #[], rfl, hb, heap_alloc_new w _, Nat.le_refl _, by simp [maxLen], rfl, rfl⟩⟩

/-- An append whose run is known, under a guard that says yes. -/
theorem wpList_append_want {P : Program} {w w' : World} {ops : Array Oper} {rest : List Oper} {o : Oper} {a : Act} {Q : Exit → Act → World → Prop} (hgd : Region.wanted o (yielded ops a.tmps) = true) (s x : Operand) (t u : TypeId)
    (ho : o.op = .call { callee := .builtin .append, args := #[s, x], argTypes := #[t, u] }) {sv xv v' : Value} (hs : a.eval s = sv) (hx : a.eval x = xv)
    (hrun : (Builtin.append_ #[t, u] o.type #[sv, xv]).run P w = .ok v' w') (h : wpList P ops Q rest (a.put o.dst v') w') : wpList P ops Q (o :: rest) a w := by
  refine BigFrame.wpList_want hgd fun K hK => ?_
  unfold Oper.wp execOp
  simp only [ho, resolve, invoke, builtin, Sem.run_bind, Sem.run_pure, Result.andThen_ok, List.map_toArray, List.map_cons, List.map_nil, hs, hx, hrun]
  exact hK _ _ h
end Go.Proofs.Ytjpkemamfccfdaa
/- Arguments that come in: a list of numbers. -/
namespace Go.Proofs.Ytjpkemamfccfdaa
set_option linter.unusedVariables false
open Go.RowKit Go.ChangeShapes Go.WideShapes

theorem open_nums {H : Type} {enc : TypeId × Value → H} {w : World} {base n c : Nat} {spare : Nat → Bool} {held : Bool} {A : Option Addr} {d : DataW H} {p : List MemPlace}
    (h : DataW.Trod enc Try.prog w base spare held 43 (.slice A n c) d p) : ∃ l, Sl w w.heap.size A n c (nv l) := by
  obtain ⟨fuel, hf⟩ := h
  rcases open_ints Try.underlying43 Try.underlying3 (by kernel_rfl) hf with ⟨hcs, _⟩ | ⟨a, len, cap, zs, hcs, _, hl, hm, hz, _, hcell, hwz⟩
  · simp [Value.cells] at hcs
    obtain ⟨rfl, rfl, rfl⟩ := hcs
    exact ⟨[], Sl.nil_ w _⟩
  · simp [Value.cells] at hcs
    obtain ⟨rfl, rfl, rfl⟩ := hcs
    have hzl : n ≤ zs.length := by rw [hz]; split <;> omega
    refine ⟨zs.take n, by simp [nv]; omega, hl, hm, ?_⟩
    by_cases h0 : n = 0
    · exact .inl h0
    · right
      obtain ⟨b, o, spot⟩ := a
      have h00 := hcell 0 (by omega)
      have hspot : spot = none := by simpa [Addr.add] using World.cell?_spot h00
      subst hspot
      refine ⟨b, o, rfl, by have := cell_lt h00; simpa [Addr.add] using this, fun j u hj => ?_⟩
      have hjn : j < n := by
        rcases Nat.lt_or_ge j n with hlt | hge
        · exact hlt
        · rw [List.getElem?_eq_none (by simp [nv]; omega)] at hj; cases hj
      have hcj := hcell j (by omega)
      have ha : (⟨b, o, none⟩ : Addr).add j = ⟨b, o + j, none⟩ := by
        by_cases hj0 : j = 0 <;> simp [Addr.add, hj0]
      rw [ha] at hcj
      rw [hcj, ← hj]
      simp only [nv, List.getElem?_map, List.getElem?_take, hjn, if_true]
      rw [List.getElem?_eq_getElem (by omega : j < zs.length)]
      simp only [Option.map_some, List.getD, List.getElem?_eq_getElem (by omega : j < zs.length), Option.getD_some]
end Go.Proofs.Ytjpkemamfccfdaa
