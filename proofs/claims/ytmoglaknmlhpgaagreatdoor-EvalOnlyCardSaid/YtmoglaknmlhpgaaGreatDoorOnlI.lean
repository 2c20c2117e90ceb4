/- Several texts in one: AskMem, VBoxPut, AskCopied, AskPlace, AskGet, TgtW, TgtMet. -/
import Derived.Test.YtmoglaknmlhpgaaGreatDoorOnlB
import Derived.Test.YtmoglaknmlhpgaaGreatDoorOnlH
import Derived.Test.YtmoglaknmlhpgaaGreatDoorOnlA
import Derived.Test.YtmoglaknmlhpgaaGreatDoorOnlF
import Derived.Lib.MinMax
/- Requests in memory: rows of attributes, each with its bag. -/
namespace Go.Proofs.YtmoglaknmlhpgaaGreatDoor
set_option linter.unusedVariables false
open Go.RowKit

def Vls (w : World) (R : Nat → Prop) := Rw 3 (fun vs (v : Vl) => vs = v.cells ∧ v.ok) w R
def GivAt (w : World) (R : Nat → Prop) (vs : List Value) (g : Giv) : Prop := ∃ A n c, vs = [.int .i64 g.cat, .string g.name, .slice A n c] ∧ g.ok ∧ Vls w R A n c g.bag
def Gvs (w : World) (R : Nat → Prop) := Rw 3 (GivAt w R) w R
section
variable {w w' : World} {R R' : Nat → Prop} {A : Option Addr} {n c : Nat}
theorem Vls.keep {l : List Vl} (h : Vls w R A n c l) (hk : Kept R w w') (hR : ∀ b, R b → b < w.heap.size → R' b) : Vls w' R' A n c l := Rw.keep h hk hR fun _ _ _ h => h
theorem GivAt.keep {vs : List Value} {g : Giv} (h : GivAt w R vs g) (hk : Kept R w w') (hR : ∀ b, R b → b < w.heap.size → R' b) : GivAt w' R' vs g := by
 obtain ⟨A, n, c, e, h0, h1⟩ := h
 exact ⟨A, n, c, e, h0, h1.keep hk hR⟩
theorem Gvs.keep {l : List Giv} (h : Gvs w R A n c l) (hk : Kept R w w') (hR : ∀ b, R b → b < w.heap.size → R' b) : Gvs w' R' A n c l := Rw.keep h hk hR fun _ _ _ h => h.keep hk hR
theorem keeps_giv : Keeps GivAt := fun _ _ _ _ _ _ h hk hR => h.keep hk hR
theorem GivAt.one {w : World} {R : Nat → Prop} (vs : List Value) (g : Giv) (h : GivAt w R vs g) : ∀ v ∈ vs, v.oneCell' = true := by
 obtain ⟨A, n, c, rfl, _⟩ := h
 intro v hv
 simp at hv
 rcases hv with rfl | rfl | rfl <;> rfl
theorem Vl.one (v : Vl) : ∀ x ∈ v.cells, x.oneCell' = true := by
 intro x hx
 simp [Vl.cells] at hx
 rcases hx with rfl | rfl | rfl <;> rfl
theorem Vls.oks {l : List Vl} (h : Vls w R A n c l) : ∀ v ∈ l, v.ok := Rw.all h
theorem Vls.at_ {l : List Vl} (h : Vls w R A n c l) {j : Nat} (hj : j < n) : ∃ b o v, A = some ⟨b, o, none⟩ ∧ R b ∧ b < w.heap.size ∧ l[j]? = some v ∧ v.ok ∧
  (w.cell? ⟨b, o + j * 3, none⟩ = some (.int .i64 v.k) ∧ w.cell? ⟨b, o + j * 3 + 1, none⟩ = some (.int .i64 v.n) ∧ w.cell? ⟨b, o + j * 3 + 2, none⟩ = some (.string v.s)) := by
 obtain ⟨b, o, m, vs, e, hb, hlt, hm, hl, hv, rfl, hok⟩ := Rw.at_ h hj
 exact ⟨b, o, m, e, hb, hlt, hm, hok, hv 0 _ rfl, hv 1 _ rfl, hv 2 _ rfl⟩
theorem Gvs.at_ {l : List Giv} (h : Gvs w R A n c l) {j : Nat} (hj : j < n) : ∃ b o g A' n' c', A = some ⟨b, o, none⟩ ∧ R b ∧ b < w.heap.size ∧ l[j]? = some g ∧ g.ok ∧
  (w.cell? ⟨b, o + j * 3, none⟩ = some (.int .i64 g.cat) ∧ w.cell? ⟨b, o + j * 3 + 1, none⟩ = some (.string g.name) ∧ w.cell? ⟨b, o + j * 3 + 2, none⟩ = some (.slice A' n' c')) ∧ Vls w R A' n' c' g.bag := by
 obtain ⟨b, o, g, vs, e, hb, hlt, hm, hl, hv, A', n', c', rfl, hok, hin⟩ := Rw.at_ h hj
 exact ⟨b, o, g, A', n', c', e, hb, hlt, hm, hok, ⟨hv 0 _ rfl, hv 1 _ rfl, hv 2 _ rfl⟩, hin⟩
theorem Vls.vs {l : List Vl} (h : Vls w R A n c l) : Vs w w.heap.size A n c l := by
 refine ⟨Rw.len h, Rw.le h, Rw.cap h, ?_, h.oks⟩
 by_cases h0 : n = 0
 ·exact .inl h0
 ·right
  obtain ⟨b, o, v, e, hb, hlt, hv, _, _⟩ := h.at_ (j := 0) (by omega)
  refine ⟨b, o, e, hlt, fun j x hx => ?_⟩
  have hj : j < n := by have := (List.getElem?_eq_some_iff.1 hx).1; have := Rw.len h; omega
  obtain ⟨b', o', v', e', _, _, hv', _, c0, c1, c2⟩ := h.at_ hj
  rw [e] at e'
  injection e' with e'
  injection e' with e1 e2
  subst e1 e2
  rw [hx] at hv'
  injection hv' with hv'
  subst hv'
  exact ⟨c0, c1, c2⟩
theorem Gvs.oks {l : List Giv} (h : Gvs w R A n c l) : ∀ g ∈ l, g.ok ∧ ∀ v ∈ g.bag, v.ok := by
 intro g hg
 obtain ⟨j, hj, rfl⟩ := List.getElem_of_mem hg
 obtain ⟨b, o, x, A', n', c', e, _, _, hx, hok, _, hin⟩ := h.at_ (j := j) (by have := Rw.len h; omega)
 rw [List.getElem?_eq_getElem hj] at hx
 injection hx with hx
 rw [hx]
 exact ⟨hok, hin.oks⟩
end
theorem givinfo : (Tryz.prog.info? 34).map (fun i => (i.zero, i.size, i.bytes)) = some (some (.agg #[.int .i64 0, .string ⟨#[]⟩, .slice none 0 0]), 3, 48) := by kernel_rfl
theorem push_giv {w : World} {base n c : Nat} {A : Option Addr} {l : List Giv} {A1 : Option Addr} {n1 c1 : Nat} {g : Giv} (h : Gr 3 GivAt w base 34 A n c l) (hok : g.ok) (hx : Vls w (Nb base (.slice A n c)) A1 n1 c1 g.bag) (hn : n < 1000000) :
  ∃ A' c' w', (Builtin.append_ #[29, 29] 29 #[.slice A n c, .slice (some ⟨w.heap.size, 0, none⟩) 1 1]).run Tryz.prog (w.alloc (.cells #[.int .i64 g.cat, .string g.name, .slice A1 n1 c1] 34)) = .ok (.slice A' (n + 1) c') w' ∧ Gr 3 GivAt w' base 34 A' (n + 1) c' (l ++ [g]) ∧ Below base w w' := by
 obtain ⟨i, hi, hz, hs, hb⟩ := info_of givinfo
 exact Gr.push (vs := [.int .i64 g.cat, .string g.name, .slice A1 n1 c1]) (x := g) Tryz.underlying29 hi hz hs hb rfl (by omega) (by omega) keeps_giv h ⟨A1, n1, c1, rfl, hok, hx⟩ rfl (fun _ _ _ _ => GivAt.one _ _) hn
end Go.Proofs.YtmoglaknmlhpgaaGreatDoor
/- A value stored over another one in its block. -/
namespace Go.Proofs.YtmoglaknmlhpgaaGreatDoor
open Go.RowKit

theorem Bx.put {w : World} {g : Nat} {k n : Int} {s : ByteArray} (h : Bx w g k n s) (k' n' : Int) (s' : ByteArray) : Bx (((w.setCell ⟨g, 0, none⟩ (.int .i64 k')).setCell ⟨g, 1, none⟩ (.int .i64 n')).setCell ⟨g, 2, none⟩ (.string s')) g k' n' s' := by
 unfold Bx
 simpa using ((Ob.put h 0 (.int .i64 k')).put 1 (.int .i64 n')).put 2 (.string s')
theorem below_put {w0 w : World} {g B : Nat} (h : Below B w0 w) (hg : B ≤ g) (a b c : Value) : Below B w0 (((w.setCell ⟨g, 0, none⟩ a).setCell ⟨g, 1, none⟩ b).setCell ⟨g, 2, none⟩ c) :=
 ((h.setCell (p := ⟨g, 0, none⟩) hg a).setCell (p := ⟨g, 1, none⟩) hg b).setCell (p := ⟨g, 2, none⟩) hg c
end Go.Proofs.YtmoglaknmlhpgaaGreatDoor
/- copied: a bag in memory of its own, its texts too. -/
namespace Go.Proofs.YtmoglaknmlhpgaaGreatDoor
set_option linter.unusedVariables false
open Go.RowKit

def Shorts (l : List Vl) : Prop := ∀ v ∈ l, v.s.size ≤ 1000000

theorem take_one {α : Type} {l : List α} {k : Nat} {x : α} (h : l[k]? = some x) : l.take (k + 1) = l.take k ++ [x] := by
 obtain ⟨hk, rfl⟩ := List.getElem?_eq_some_iff.1 h
 rw [List.take_succ_eq_append_getElem hk]
theorem cells3_flat : ∀ l : List Vl, cells3 l = l.flatMap Vl.cells
 | [] => rfl
 | v :: r => by simp [cells3, Vl.cells, cells3_flat r]
theorem push_val {w : World} {base n c : Nat} {A : Option Addr} {l : List Vl} {v : Vl} (h : w.ownsRow base 31 3 (.slice A n c) n (cells3 l)) (hb : base ≤ w.heap.size) (hv : v.ok) (hn : n < 1000000) :
  ∃ A' c' w', (Builtin.append_ #[32, 32] 32 #[.slice A n c, .slice (some ⟨w.heap.size, 0, none⟩) 1 1]).run Tryz.prog (w.alloc (.cells #[.int .i64 v.k, .int .i64 v.n, .string v.s] 31)) = .ok (.slice A' (n + 1) c') w' ∧
   w'.ownsRow base 31 3 (.slice A' (n + 1) c') (n + 1) (cells3 (l ++ [v])) ∧ Below base w w' := by
 have e1 : Below w.heap.size w (w.alloc (.cells #[.int .i64 v.k, .int .i64 v.n, .string v.s] 31)) := (Below.refl _ _).alloc (Nat.le_refl _) _
 obtain ⟨A', c', w', r, o, b, _⟩ := append_vals (ty := 32) (h.alloc (.cells #[.int .i64 v.k, .int .i64 v.n, .string v.s] 31)) (Vs.lit1 w v hv) (by omega) (by rw [size_al]; omega)
 exact ⟨A', c', w', r, o, (e1.mono hb).trans b⟩

set_option maxHeartbeats 1600000 in
theorem copied_any {w : World} {R : Nat → Prop} {A : Option Addr} {n c : Nat} {l : List Vl} (h : Vls w R A n c l) (hs : Shorts l) (hn : n ≤ 100000) :
    Calls Tryz.prog 46 #[.slice A n c] w fun e w' => ∃ A' c', e = .returned (.slice A' n c') ∧ Below w.heap.size w w' ∧ Vls w' (fun b => w.heap.size ≤ b) A' n c' l := by
  have hle := Rw.le h
  have hcap := Rw.cap h
  have HL := Lib.hid (Rw.len h)
  have HOK := Lib.hid h.oks
  unfold maxLen at hcap
  have H := Lib.hid h
  have HS := Lib.hid hs
  clear h hs
  go_enter Tryz.func46, Tryz.ntmps46
  go_wp2
  go_loopw [3, 8] (fun out i wr => ∃ (k : Nat) (A' : Option Addr) (c' : Nat), k ≤ n ∧ i = .int .i64 k ∧ out = .slice A' k c' ∧ wr.ownsRow w.heap.size 31 3 (.slice A' k c') k (cells3 (l.take k)) ∧ Below w.heap.size w wr) (fun out i _ => n - (intOf i).toNat)
  case atStart => exact ⟨0, none, 0, Nat.zero_le _, rfl, rfl, World.ownsRow_nil w w.heap.size 31 3, Below.refl _ _⟩
  case round =>
    obtain ⟨k, A', c', hk, rfl, rfl, ho, hb⟩ := hrel
    have HO := Lib.hid ho
    have HB := Lib.hid hb
    clear ho hb
    by_cases hlt : k < n
    · obtain ⟨b, o, x, rfl, hRb, hbl, hx, hok, ⟨x0, x1, x2⟩⟩ := (H.out.keep (Kept.all HB.out R) (fun _ h _ => h)).at_ hlt
      have HX := Lib.hid hx
      have HK := Lib.hid hok
      have hlim := HS.out x (List.mem_of_getElem? hx)
      have HCL := Lib.hid (fun W => clone_any x.s W hlim)
      obtain ⟨xk, xn, xs⟩ := x
      simp only at x0 x1 x2 HCL hlim
      clear hx hok
      have hbx := Bx.made wr xk xn xs
      have D0 := Lib.hid ((Below.refl wr.heap.size wr).alloc (Nat.le_refl _) (.cells #[.int .i64 xk, .int .i64 xn, .string xs] 31))
      go_wp2_with (first
        | (go_at_call 45; refine (HCL.out _).mono ?_; rintro e w1 ⟨rfl, hb1⟩
           have q1 := hbx.then_ hb1
           have qs := q1.setS xs
           have q3 := q1.c3
           have q4 := q1.fz 2
           have d1 : Below wr.heap.size wr (w1.setCell ⟨wr.heap.size, 2, none⟩ (.string xs)) := (Below.lit hb1).setCell (Nat.le_refl _) _
           obtain ⟨A2, c2, w2, r2, o2, b2⟩ := push_val (v := ⟨xk, xn, xs⟩) (own_then HO.out d1) (Nat.le_trans HB.out.size d1.size) HK.out (by omega)
           have hz : (w1.setCell ⟨wr.heap.size, 2, none⟩ (.string xs)).heap.size = w1.heap.size := by simp [World.setCell]
           rw [hz] at r2
           simp only at r2
           have R2 := Lib.hid r2
           have O2 := Lib.hid o2
           have B2 := Lib.hid (HB.out.trans ((d1.mono HB.out.size).trans b2))
           have Q1 := Lib.hid q1
           clear hz r2 o2 b2 hb1 q1 qs d1)
        | (at_builtin; refine wpList_append_run rfl _ _ _ _ rfl rfl rfl R2.out ?_))
      go_roundw
      case rel => exact ⟨k + 1, A2, c2, by omega, by go_num, rfl, by rw [take_one HX.out]; exact O2.out, B2.out⟩
      case measure => simp [intOf]; omega
    · obtain rfl : k = n := by omega
      go_wp2
      go_ret
      refine ⟨A', c', rfl, HB.out, ?_⟩
      have ho := HO.out
      rw [List.take_of_length_le (by have := HL.out; omega), cells3_flat] at ho
      exact Rw.flat_own ho (by omega) HL.out (fun _ => rfl) HOK.out (fun _ _ h => h)
end Go.Proofs.YtmoglaknmlhpgaaGreatDoor
/- place: the first of a category and a name (by slices.IndexFunc). -/
namespace Go.Proofs.YtmoglaknmlhpgaaGreatDoor
set_option linter.unusedVariables false
open Go.RowKit

theorem isg_any {w : World} {h4 h5 : Nat} {c : Int} {s : ByteArray} (g : Giv) {A : Option Addr} {n k : Nat} (hp : Ob w h4 3 #[.int .i64 c]) (hi : Ob w h5 9 #[.string s]) :
  Calls Tryz.prog 48 #[.agg #[.int .i64 g.cat, .string g.name, .slice A n k], .pointer (some ⟨h4, 0, none⟩), .pointer (some ⟨h5, 0, none⟩)] w fun e w' => e = .returned (.bool (isG c s g)) ∧ Below w.heap.size w w' := by
 have c4 := hp.cell 0
 have c5 := hi.cell 0
 have l4 := hp.lt
 have l5 := hi.lt
 have HE : Hid (isG c s g = (decide (g.cat = c) && (g.name.toList == s.toList))) := by
  show isG c s g = _
  unfold isG
  rw [Bool.eq_iff_iff]
  simp only [Bool.and_eq_true, decide_eq_true_eq, beq_iff_eq]
  rw [show (g.name.toList = s.toList) = (g.name = s) from propext ⟨fun e => text_eq (by show g.name.data.toList = s.data.toList; rw [← ByteArray.toList_eq, ← ByteArray.toList_eq]; exact e), fun e => by rw [e]⟩]
 generalize isG c s g = r at *
 obtain ⟨gc, gn, gb⟩ := g
 simp only at HE ⊢
 clear hp hi
 by_cases h : gc = c
 ·have h' : (gc == c) = true := by simpa using h
  have H := Lib.hid h
  clear h
  go_enter Tryz.func48, Tryz.ntmps48
  go_wp2_with fail
  all_goals
   go_ret
   exact ⟨ret_bool (by rw [HE.out, decide_eq_true H.out, Bool.true_and]), (Below.refl _ _).alloc (Nat.le_refl _) _⟩
 ·have h' : (gc == c) = false := by simpa using h
  have H := Lib.hid h
  clear h
  go_enter Tryz.func48, Tryz.ntmps48
  go_wp2_with fail
  all_goals
   go_ret
   exact ⟨ret_bool (by rw [HE.out, decide_eq_false H.out, Bool.false_and]), (Below.refl _ _).alloc (Nat.le_refl _) _⟩

set_option maxHeartbeats 800000 in
theorem aindex_any {w : World} {R : Nat → Prop} {A : Option Addr} {n c : Nat} {l : List Giv} {h4 h5 : Nat} {q : Int} {s : ByteArray} (h : Gvs w R A n c l) (hp : Ob w h4 3 #[.int .i64 q]) (hi : Ob w h5 9 #[.string s]) :
  Calls Tryz.prog 47 #[.slice A n c, .func (.func 48) #[] #[.pointer (some ⟨h4, 0, none⟩), .pointer (some ⟨h5, 0, none⟩)]] w fun e w' => e = .returned (.int .i64 (placeI l q s)) ∧ Below w.heap.size w w' := by
 have hle := Rw.le h
 have hcap := Rw.cap h
 have HL := Lib.hid (Rw.len h)
 unfold maxLen at hcap
 have H := Lib.hid h
 have HP := Lib.hid hp
 have HI := Lib.hid hi
 clear h hp hi
 go_enter Tryz.func47, Tryz.ntmps47
 go_wp2
 go_loopw [8] (fun i wr => ∃ k : Nat, k ≤ n ∧ i = .int .i64 k ∧ (∀ (j : Nat) (x : Giv), l[j]? = some x → j < k → isG q s x = false) ∧ Below w.heap.size w wr) (fun i _ => n - (intOf i).toNat)
 case atStart => exact ⟨0, Nat.zero_le _, rfl, fun _ _ _ h => absurd h (Nat.not_lt_zero _), Below.refl _ _⟩
 case round =>
  obtain ⟨k, hk, rfl, hf, hb⟩ := hrel
  have HF := Lib.hid hf
  have HB := Lib.hid hb
  clear hf hb
  by_cases hlt : k < n
  ·obtain ⟨b, o, x, A', n', c', rfl, hRb, hbl, hx, hok, ⟨c0, c1, c2⟩, hin⟩ := (H.out.keep (Kept.all HB.out R) (fun _ h _ => h)).at_ hlt
   have HX := Lib.hid hx
   have HC := Lib.hid (isg_any x (A := A') (n := n') (k := c') (HP.out.below HB.out HP.out.lt) (HI.out.below HB.out HI.out.lt))
   clear hx
   cases hz : isG q s x
   ·have HZ := Lib.hid hz
    rw [hz] at HC
    clear hz
    go_wp2_with (go_at_call 48; refine HC.out.mono ?_; rintro e w1 ⟨rfl, hb1⟩; have B1 := Lib.hid hb1)
    go_roundw
    case rel => exact ⟨k + 1, by omega, by go_num, fun j y hy hj => by
     by_cases e : j = k
     ·subst e; rw [HX.out] at hy; injection hy with hy; subst hy; exact HZ.out
     ·exact HF.out j y hy (by omega), below_step HB.out B1.out⟩
    case measure => simp [intOf]; omega
   ·have HZ := Lib.hid hz
    rw [hz] at HC
    clear hz
    go_wp2_with (go_at_call 48; refine HC.out.mono ?_; rintro e w1 ⟨rfl, hb1⟩; have B1 := Lib.hid hb1)
    go_ret
    exact ⟨ret_int (place_at HX.out HZ.out HF.out).symm, below_step HB.out B1.out⟩
  ·obtain rfl : k = n := by omega
   go_wp2
   go_ret
   exact ⟨ret_int (place_none (fun j x hx => HF.out j x hx (by have := (List.getElem?_eq_some_iff.1 hx).1; have := HL.out; omega))).symm, HB.out⟩

theorem place_any {w : World} {R : Nat → Prop} {A : Option Addr} {n c : Nat} {l : List Giv} (q : Int) (s : ByteArray) (h : Gvs w R A n c l) :
  Calls Tryz.prog 24 #[.slice A n c, .int .i64 q, .string s] w fun e w' => e = .returned (.int .i64 (placeI l q s)) ∧ Below w.heap.size w w' := by
 have e1 : Below w.heap.size w ((w.alloc (.cells #[.int .i64 q] 3)).alloc (.cells #[.string s] 9)) := ((Below.refl _ _).alloc (Nat.le_refl _) _).alloc (by rw [size_al]; omega) _
 have hp : Ob ((w.alloc (.cells #[.int .i64 q] 3)).alloc (.cells #[.string s] 9)) w.heap.size 3 #[.int .i64 q] := (Ob.made w 3 #[.int .i64 q]).keep (Below.heap_alloc (w.alloc (.cells #[.int .i64 q] 3)) _ w.heap.size (by rw [size_al]; omega))
 have hi : Ob ((w.alloc (.cells #[.int .i64 q] 3)).alloc (.cells #[.string s] 9)) (w.heap.size + 1) 9 #[.string s] := by
  have := Ob.made (w.alloc (.cells #[.int .i64 q] 3)) 9 #[.string s]
  rwa [size_al] at this
 have HC := Lib.hid (aindex_any (h.keep (Kept.all e1 R) (fun _ h _ => h)) hp hi)
 have HE := Lib.hid e1
 clear h hp hi e1
 go_enter Tryz.func24, Tryz.ntmps24
 go_wp2_with (go_at_call 47; refine HC.out.mono ?_; rintro e w1 ⟨rfl, hb1⟩)
 go_ret
 exact ⟨rfl, HE.out.trans (hb1.mono HE.out.size)⟩
end Go.Proofs.YtmoglaknmlhpgaaGreatDoor
/- Get: what is there, in new memory. -/
namespace Go.Proofs.YtmoglaknmlhpgaaGreatDoor
set_option linter.unusedVariables false
open Go.RowKit

def ShortG (l : List Giv) : Prop := ∀ g ∈ l, Shorts g.bag ∧ g.bag.length ≤ 100000
theorem aget_any {w : World} {R : Nat → Prop} {A : Option Addr} {n c : Nat} {l : List Giv} (a : Atr) (h : Gvs w R A n c l) (hs : ShortG l) :
    Calls Tryz.prog 149 #[.slice A n c, .agg #[.int .i64 a.cat, .string a.name, .bool a.must]] w fun e w' => ∃ A' n' c', e = .returned (.tuple #[.slice A' n' c', .int .i64 (getE l a)]) ∧ Below w.heap.size w w' ∧ Vls w' (fun b => w.heap.size ≤ b) A' n' c' (getR l a) := by
  obtain ⟨ac, an, am⟩ := a
  have hle := Rw.le h
  have hcap := Rw.cap h
  have HL := Lib.hid (Rw.len h)
  unfold maxLen at hcap
  have H := Lib.hid h
  have HS := Lib.hid hs
  have HP := Lib.hid (fun W (hW : Below w.heap.size w W) => place_any ac an (h.keep (Kept.all hW R) (fun _ h _ => h)))
  clear h hs
  by_cases hi : idxA l ac an < l.length
  · obtain ⟨g, hg, hgg, hb⟩ := idx_hit hi
    have hp : placeI l ac an = (idxA l ac an : Int) := place_pos hi
    rw [hp] at HP
    have hin : idxA l ac an < n := by have := HL.out; omega
    have HB : Hid (getB l ⟨ac, an, am⟩ = g.bag) := hb
    have HG := Lib.hid hg
    generalize idxA l ac an = k at *
    obtain ⟨hsh, hln⟩ := HS.out g (List.mem_of_getElem? hg)
    have HSH := Lib.hid hsh
    have HLN := Lib.hid hln
    clear hi hp hg hgg hb hsh hln
    have atW := fun W (hW : Below w.heap.size w W) => (H.out.keep (Kept.all hW R) (fun _ h _ => h)).at_ hin
    have AW := Lib.hid atW
    clear atW
    obtain ⟨b, o, g0, A', n', c', rfl, _, hbl, hx, _, ⟨_, _, c2⟩, hin0⟩ := AW.out w (Below.refl _ _)
    have hgx := HG.out
    rw [hx] at hgx
    injection hgx with hgx
    subst hgx
    have HIN := Lib.hid hin0
    have hn' : n' ≤ 100000 := by have := Rw.len hin0; have := HLN.out; omega
    have hlen' : g0.bag.length = n' := Rw.len hin0
    have C2 := Lib.hid c2
    have HBL := Lib.hid hbl
    have HE : Hid (getE l ⟨ac, an, am⟩ = if am = true ∧ n' = 0 then 4 else 0) := by
      show getE l ⟨ac, an, am⟩ = _
      unfold getE
      have e0 : (g0.bag = []) = (n' = 0) := by rw [← hlen', List.length_eq_zero_iff]
      rw [HB.out]
      simp only [e0]
    have HR : Hid (getR l ⟨ac, an, am⟩ = if am = true ∧ n' = 0 then [] else g0.bag) := by
      show getR l ⟨ac, an, am⟩ = _
      unfold getR
      rw [HB.out, HE.out]
      by_cases e : am = true ∧ n' = 0 <;> simp [e]
    have HNN := Lib.hid hlen'
    clear hx c2 hin0 hbl AW hlen'
    generalize getE l ⟨ac, an, am⟩ = ee at *
    generalize getR l ⟨ac, an, am⟩ = rr at *
    rcases Nat.eq_zero_or_pos n' with rfl | hpos
    · cases am
      · have HE2 : Hid (ee = 0) := by show ee = 0; rw [HE.out]; simp
        have HR2 : Hid (rr = g0.bag) := by show rr = _; rw [HR.out]; simp
        clear HE HR
        go_enter Tryz.func149, Tryz.ntmps149
        go_wp2_with (first
          | (go_at_call 24; refine (HP.out _ ((Below.refl _ _).alloc (Nat.le_refl _) _)).mono ?_; rintro e w1 ⟨rfl, hb1⟩
             have OB1 := Lib.hid (Ob.below (Ob.made _ _ _) hb1 (by simp))
             have B1 := Lib.hid (Below.lit hb1)
             have q2 := (World.cell?_of_block (B1.out.block _ HBL.out)).trans C2.out
             have CP := Lib.hid (copied_any (HIN.out.keep (Kept.all B1.out R) (fun _ h _ => h)) HSH.out hn')
             clear hb1)
          | (go_at_call 46; refine CP.out.mono ?_; rintro e w2 ⟨A2, k2, rfl, hb2, hi2⟩
             have c9 := (Ob.below OB1.out hb2 (Ob.lt OB1.out)).cell 2
             have B2 := Lib.hid (below_step B1.out hb2)
             have I2 := Lib.hid (hi2.keep (Kept.refl _ _) (R' := fun b => w.heap.size ≤ b) (fun b h _ => Nat.le_trans B1.out.size h))
             clear hb2 hi2))
        go_ret2
        exact ⟨A2, 0, k2, by rw [HE2.out]; rfl, B2.out, by rw [HR2.out]; exact I2.out⟩
      · have HE2 : Hid (ee = 4) := by show ee = 4; rw [HE.out]; simp
        have HR2 : Hid (rr = []) := by show rr = _; rw [HR.out]; simp
        clear HE HR
        go_enter Tryz.func149, Tryz.ntmps149
        go_wp2_with (first
          | (go_at_call 24; refine (HP.out _ ((Below.refl _ _).alloc (Nat.le_refl _) _)).mono ?_; rintro e w1 ⟨rfl, hb1⟩
             have OB1 := Lib.hid (Ob.below (Ob.made _ _ _) hb1 (by simp))
             have B1 := Lib.hid (Below.lit hb1)
             have q2 := (World.cell?_of_block (B1.out.block _ HBL.out)).trans C2.out
             have CP := Lib.hid (copied_any (HIN.out.keep (Kept.all B1.out R) (fun _ h _ => h)) HSH.out hn')
             clear hb1)
          | (go_at_call 46; refine CP.out.mono ?_; rintro e w2 ⟨A2, k2, rfl, hb2, hi2⟩
             have c9 := (Ob.below OB1.out hb2 (Ob.lt OB1.out)).cell 2
             have B2 := Lib.hid (below_step B1.out hb2)
             have I2 := Lib.hid (hi2.keep (Kept.refl _ _) (R' := fun b => w.heap.size ≤ b) (fun b h _ => Nat.le_trans B1.out.size h))
             clear hb2 hi2))
        go_ret2
        exact ⟨none, 0, 0, by rw [HE2.out]; rfl, B2.out, by rw [HR2.out]; exact Rw.nil_ _ _ _ _⟩
    · have hne : ¬ (n' : Int) = 0 := by omega
      have hne2 : ((n' : Int) == 0) = false := by simpa using hne
      have HE2 : Hid (ee = 0) := by show ee = 0; rw [HE.out, if_neg (by omega)]
      have HR2 : Hid (rr = g0.bag) := by show rr = _; rw [HR.out, if_neg (by omega)]
      clear HE HR
      cases am
      all_goals
        go_enter Tryz.func149, Tryz.ntmps149
        go_wp2_with (first
          | (go_at_call 24; refine (HP.out _ ((Below.refl _ _).alloc (Nat.le_refl _) _)).mono ?_; rintro e w1 ⟨rfl, hb1⟩
             have OB1 := Lib.hid (Ob.below (Ob.made _ _ _) hb1 (by simp))
             have B1 := Lib.hid (Below.lit hb1)
             have q2 := (World.cell?_of_block (B1.out.block _ HBL.out)).trans C2.out
             have CP := Lib.hid (copied_any (HIN.out.keep (Kept.all B1.out R) (fun _ h _ => h)) HSH.out hn')
             clear hb1)
          | (go_at_call 46; refine CP.out.mono ?_; rintro e w2 ⟨A2, k2, rfl, hb2, hi2⟩
             have c9 := (Ob.below OB1.out hb2 (Ob.lt OB1.out)).cell 2
             have B2 := Lib.hid (below_step B1.out hb2)
             have I2 := Lib.hid (hi2.keep (Kept.refl _ _) (R' := fun b => w.heap.size ≤ b) (fun b h _ => Nat.le_trans B1.out.size h))
             clear hb2 hi2))
        go_ret2
        exact ⟨A2, n', k2, by rw [HE2.out]; rfl, B2.out, by rw [HR2.out]; exact I2.out⟩
  · have HB : Hid (getB l ⟨ac, an, am⟩ = []) := bag_none hi
    have hp : placeI l ac an = -1 := place_neg hi
    rw [hp] at HP
    clear hp hi
    have HE : Hid (getE l ⟨ac, an, am⟩ = if am = true then 4 else 0) := by show getE l ⟨ac, an, am⟩ = _; unfold getE; rw [HB.out]; simp
    have HR : Hid (getR l ⟨ac, an, am⟩ = []) := by show getR l ⟨ac, an, am⟩ = _; unfold getR; rw [HB.out]; simp
    generalize getE l ⟨ac, an, am⟩ = ee at *
    generalize getR l ⟨ac, an, am⟩ = rr at *
    cases am
    all_goals
      go_enter Tryz.func149, Tryz.ntmps149
      go_wp2_with (go_at_call 24; refine (HP.out _ ((Below.refl _ _).alloc (Nat.le_refl _) _)).mono ?_; rintro e w1 ⟨rfl, hb1⟩; have c0 := (Ob.below (Ob.made _ _ _) hb1 (by simp)).cell 2)
      go_ret2
      refine ⟨none, 0, 0, by rw [HE.out]; rfl, Below.lit hb1, by rw [HR.out]; exact Rw.nil_ _ _ _ _⟩
end Go.Proofs.YtmoglaknmlhpgaaGreatDoor
/- Package target, walked: truth, same, less, held, Match, All, one, Met. -/
namespace Go.Proofs.YtmoglaknmlhpgaaGreatDoor
set_option linter.unusedVariables false
open Go.RowKit

theorem tgtruth_any (b : Bool) (w : World) :
  Calls Tryz.prog 173 #[.bool b] w fun e w' => e = .returned (.int .i64 (trI b)) ∧ Below w.heap.size w w' := by
 cases b
 all_goals
  go_enter Tryz.func173, Tryz.ntmps173
  go_wp2_with fail
  go_ret
  exact ⟨rfl, Below.refl _ _⟩
theorem tgalloc2 (w : World) (x y : Obj) : Below w.heap.size w ((w.alloc x).alloc y) := ((Below.refl _ _).alloc (Nat.le_refl _) _).alloc (by rw [size_al]; omega) _
set_option maxHeartbeats 1600000 in
theorem tgsame_any (a b : Vl) (w : World) :
  Calls Tryz.prog 161 #[a.val, b.val] w fun e w' => e = .returned (.int .i64 (sameI a b)) ∧ Below w.heap.size w w' := by
 obtain ⟨k, n, s⟩ := a
 obtain ⟨k', n', s'⟩ := b
 show Calls _ _ #[.agg #[.int .i64 k, .int .i64 n, .string s], .agg #[.int .i64 k', .int .i64 n', .string s']] w _
 have HT := Lib.hid tgtruth_any
 have HS : Hid (sameI ⟨k, n, s⟩ ⟨k', n', s'⟩ = if k = k' then trI (veq ⟨k, n, s⟩ ⟨k', n', s'⟩) else 1) := rfl
 have e1 := fun W => val_eq k n k' n' s s' W
 generalize veq ⟨k, n, s⟩ ⟨k', n', s'⟩ = q at *
 generalize sameI ⟨k, n, s⟩ ⟨k', n', s'⟩ = r at *
 by_cases h : k = k'
 ·have h1 : (k != k') = false := by rw [bne_eq_false_iff_eq]; exact h
  have HR : Hid (r = trI q) := by show _ = _; rw [HS.out, if_pos h]
  clear h HS
  go_enter Tryz.func161, Tryz.ntmps161
  go_wp2_with (go_at_call 173; refine (HT.out _ _).mono ?_; rintro e w1 ⟨rfl, hb1⟩)
  go_ret
  exact ⟨by rw [HR.out]; rfl, Below.lit (Below.lit hb1)⟩
 ·have h1 : (k != k') = true := by rw [bne_iff_ne]; exact h
  have HR : Hid (r = 1) := by show _ = _; rw [HS.out, if_neg h]
  clear h HS
  go_enter Tryz.func161, Tryz.ntmps161
  go_wp2_with fail
  go_ret
  exact ⟨by rw [HR.out]; rfl, tgalloc2 _ _ _⟩
set_option maxHeartbeats 1600000 in
theorem tgless_any (a b : Vl) (ha : a.s.size ≤ maxLen) (hb : b.s.size ≤ maxLen) (w : World) :
  Calls Tryz.prog 162 #[a.val, b.val] w fun e w' => e = .returned (.int .i64 (lessI a b)) ∧ Below w.heap.size w w' := by
 have HL := Lib.hid (less_any a b ha hb)
 clear ha hb
 have HS : Hid (lessI a b = if (lessOf a b).2 = 0 then trI (lessOf a b).1 else 1) := rfl
 generalize lessI a b = r at *
 generalize lessOf a b = lo at *
 obtain ⟨q, x⟩ := lo
 dsimp only at HL HS
 obtain ⟨k, n, s⟩ := a
 obtain ⟨k', n', s'⟩ := b
 show Calls _ _ #[.agg #[.int .i64 k, .int .i64 n, .string s], .agg #[.int .i64 k', .int .i64 n', .string s']] w _
 have HT := Lib.hid tgtruth_any
 by_cases h : x = 0
 ·have h1 : (x != 0) = false := by rw [bne_eq_false_iff_eq]; exact h
  have HR : Hid (r = trI q) := by show _ = _; rw [HS.out, if_pos h]
  clear h HS
  go_enter Tryz.func162, Tryz.ntmps162
  go_wp2_with (first
   | (go_at_call 174; refine (HL.out _).mono ?_; rintro e w1 ⟨rfl, hb1⟩; have B1 := Lib.hid (Below.lit (Below.lit hb1)); clear hb1)
   | (go_at_call 173; refine (HT.out _ _).mono ?_; rintro e w2 ⟨rfl, hb1⟩))
  go_ret
  exact ⟨by rw [HR.out]; rfl, below_step B1.out hb1⟩
 ·have h1 : (x != 0) = true := by rw [bne_iff_ne]; exact h
  have HR : Hid (r = 1) := by show _ = _; rw [HS.out, if_neg h]
  clear h HS
  go_enter Tryz.func162, Tryz.ntmps162
  go_wp2_with (go_at_call 174; refine (HL.out _).mono ?_; rintro e w1 ⟨rfl, hb1⟩; have B1 := Lib.hid (Below.lit (Below.lit hb1)); clear hb1)
  go_ret
  exact ⟨by rw [HR.out]; rfl, B1.out⟩
set_option maxHeartbeats 3200000 in
theorem tgheld_any (m : Mat) (v : Vl) (hm : m.v.s.size ≤ maxLen) (hv : v.s.size ≤ maxLen) (w : World) :
  Calls Tryz.prog 150 #[m.val, v.val] w fun e w' => e = .returned (.int .i64 (heldI m v)) ∧ Below w.heap.size w w' := by
 have C1 := Lib.hid (tgsame_any v m.v)
 have C2 := Lib.hid (tgless_any v m.v hv hm)
 have C3 := Lib.hid (tgless_any m.v v hm hv)
 clear hm hv
 have HS : Hid (heldI m v = if m.op = 1 then sameI v m.v else if m.op = 2 then lessI v m.v else lessI m.v v) := rfl
 generalize heldI m v = r at *
 obtain ⟨⟨mc, mn, mu⟩, op, ⟨k, n, s⟩⟩ := m
 obtain ⟨k', n', s'⟩ := v
 show Calls _ _ #[.agg #[.int .i64 mc, .string mn, .bool mu, .int .i64 op, .int .i64 k, .int .i64 n, .string s], .agg #[.int .i64 k', .int .i64 n', .string s']] w _
 simp only at C1 C2 C3 HS
 by_cases h : op = 1
 ·subst h
  have HR : Hid (r = sameI ⟨k', n', s'⟩ ⟨k, n, s⟩) := by show _ = _; rw [HS.out, if_pos rfl]
  go_enter Tryz.func150, Tryz.ntmps150
  go_wp2_with (go_at_call 161; refine (C1.out _).mono ?_; rintro e w1 ⟨rfl, hb1⟩)
  go_ret
  exact ⟨by rw [HR.out]; rfl, Below.lit (Below.lit hb1)⟩
 ·have h1 : (op == 1) = false := by rw [beq_eq_false_iff_ne]; exact h
  by_cases h' : op = 2
  ·subst h'
   have HR : Hid (r = lessI ⟨k', n', s'⟩ ⟨k, n, s⟩) := by show _ = _; rw [HS.out, if_neg h, if_pos rfl]
   go_enter Tryz.func150, Tryz.ntmps150
   go_wp2_with (go_at_call 162; refine (C2.out _).mono ?_; rintro e w1 ⟨rfl, hb1⟩)
   go_ret
   exact ⟨by rw [HR.out]; rfl, Below.lit (Below.lit hb1)⟩
  ·have h2 : (op == 2) = false := by rw [beq_eq_false_iff_ne]; exact h'
   have HR : Hid (r = lessI ⟨k, n, s⟩ ⟨k', n', s'⟩) := by show _ = _; rw [HS.out, if_neg h, if_neg h']
   clear h h'
   go_enter Tryz.func150, Tryz.ntmps150
   go_wp2_with (go_at_call 162; refine (C3.out _).mono ?_; rintro e w1 ⟨rfl, hb1⟩)
   go_ret
   exact ⟨by rw [HR.out]; rfl, Below.lit (Below.lit hb1)⟩
end Go.Proofs.YtmoglaknmlhpgaaGreatDoor
/- Package target, walked: Match, All, one, Met. -/
namespace Go.Proofs.YtmoglaknmlhpgaaGreatDoor
set_option linter.unusedVariables false
open Go.RowKit

set_option maxHeartbeats 3200000 in
theorem tgmatch_any {w : World} {R : Nat → Prop} {A : Option Addr} {n c : Nat} {l : List Giv} (m : Mat) (hm : m.v.s.size ≤ maxLen) (h : Gvs w R A n c l) (hs : ShortG l) :
  Calls Tryz.prog 125 #[m.val, .slice A n c] w fun e w' => e = .returned (.int .i64 (matchI l m)) ∧ Below w.heap.size w w' := by
 have HG := Lib.hid (fun W (hW : Below w.heap.size w W) => aget_any (w := W) m.a (h.keep (Kept.all hW R) (fun _ h _ => h)) hs)
 have HH := Lib.hid (fun v (hv : v.s.size ≤ maxLen) W => tgheld_any m v hm hv W)
 have HT := Lib.hid (tri_held m)
 have HE : Hid (matchI l m = if getE l m.a = 0 then most (heldI m) (getR l m.a) else 1) := rfl
 generalize matchI l m = r at *
 generalize heldI m = f at *
 obtain ⟨⟨mc, mn, mu⟩, op, ⟨k, nn, s⟩⟩ := m
 simp only at HG HE
 generalize getE l _ = ee at *
 generalize getR l _ = bag at *
 show Calls _ _ #[.agg #[.int .i64 mc, .string mn, .bool mu, .int .i64 op, .int .i64 k, .int .i64 nn, .string s], .slice A n c] w _
 have OM := Lib.hid (Ob.made w 116 #[.int .i64 mc, .string mn, .bool mu, .int .i64 op, .int .i64 k, .int .i64 nn, .string s])
 have BM := Lib.hid ((Below.refl w.heap.size w).alloc (Nat.le_refl _) (.cells #[.int .i64 mc, .string mn, .bool mu, .int .i64 op, .int .i64 k, .int .i64 nn, .string s] 116))
 clear h hs hm
 by_cases h : ee = 0
 rotate_left
 ·have h1 : (ee != 0) = true := by rw [bne_iff_ne]; exact h
  have HR : Hid (r = 1) := by show _ = _; rw [HE.out, if_neg h]
  clear h HE
  go_enter Tryz.func125, Tryz.ntmps125
  go_wp2_with (go_at_call 149; refine (HG.out _ BM.out).mono ?_; rintro e w1 ⟨A', n', c', rfl, hb1, hbag⟩)
  go_ret
  exact ⟨by rw [HR.out]; rfl, below_step BM.out hb1⟩
 have h1 : (ee != 0) = false := by rw [bne_eq_false_iff_eq]; exact h
 have HR : Hid (r = most f bag) := by show _ = _; rw [HE.out, if_pos h]
 clear h HE
 go_enter Tryz.func125, Tryz.ntmps125
 go_wp2_with (go_at_call 149; refine (HG.out _ BM.out).mono ?_; rintro e w1 ⟨A', n', c', rfl, hb1, hbag⟩; have B1 := Lib.hid (below_step BM.out hb1); have O1 := Lib.hid (OM.out.below hb1 OM.out.lt); have V1 := Lib.hid (Vls.keep hbag (Kept.refl _ _) (R' := fun _ => True) (fun _ _ _ => trivial)); have hle := Rw.le hbag; have hcap := Rw.cap hbag; have HL := Lib.hid (Rw.len hbag); clear hb1 hbag)
 unfold maxLen at hcap
 go_loopw [7, 21] (fun x i wr => ∃ j : Nat, j ≤ n' ∧ i = .int .i64 j ∧ x = .int .i64 (most f (bag.take j)) ∧ Below w1.heap.size w1 wr) (fun _ i _ => n' - (intOf i).toNat)
 case atStart => exact ⟨0, Nat.zero_le _, rfl, rfl, Below.refl _ _⟩
 case round =>
  obtain ⟨j, hj, rfl, rfl, hb⟩ := hrel
  have HB := Lib.hid hb
  have BW := Lib.hid (below_step B1.out hb)
  have OW := O1.out.below hb O1.out.lt
  have q0 := OW.cell 0
  have q1 := OW.cell 1
  have q2 := OW.cell 2
  have q3 := OW.cell 3
  have q4 := OW.cell 4
  have q5 := OW.cell 5
  have q6 := OW.cell 6
  have OL := Lib.hid OW
  clear hb OW
  by_cases hlt : j < n'
  ·obtain ⟨b, o, v, rfl, _, hbl, hx, hok, c0, c1, c2⟩ := (V1.out.keep (Kept.all HB.out _) (R' := fun _ => True) (fun _ _ _ => trivial)).at_ hlt
   have HS := Lib.hid (most_step hx (HT.out v).1)
   have HC := Lib.hid (HH.out v hok.2.2)
   obtain ⟨vk, vn, vs⟩ := v
   simp only at c0 c1 c2
   have HC2 : Hid (∀ W : World, Calls Tryz.prog 150 #[.agg #[.int .i64 mc, .string mn, .bool mu, .int .i64 op, .int .i64 k, .int .i64 nn, .string s], .agg #[.int .i64 vk, .int .i64 vn, .string vs]] W fun e w' => e = .returned (.int .i64 (f ⟨vk, vn, vs⟩)) ∧ Below W.heap.size W w') := HC.out
   clear HC hx hok
   generalize f ⟨vk, vn, vs⟩ = y at *
   generalize most f (bag.take j) = x at *
   generalize hz : most f (bag.take (j + 1)) = z at *
   have HZ := Lib.hid hz
   clear hz
   have OX := OL.out.keep (w' := wr.alloc (.cells #[.int .i64 vk, .int .i64 vn, .string vs] 31)) (Below.heap_alloc _ _ _ OL.out.lt)
   have p0 := OX.cell 0
   have p1 := OX.cell 1
   have p2 := OX.cell 2
   have p3 := OX.cell 3
   have p4 := OX.cell 4
   have p5 := OX.cell 5
   have p6 := OX.cell 6
   clear OX
   go_wp2_with (go_at_call 150; refine (HC2.out _).mono ?_; rintro e w2 ⟨rfl, hb2⟩; have B2 := Lib.hid (below_step HB.out (Below.lit hb2)); clear hb2)
   go_roundw
   case rel => exact ⟨j + 1, by omega, by go_num, by rw [HZ.out, HS.out], B2.out⟩
   case measure => simp [intOf]; omega
  ·obtain rfl : j = n' := by omega
   go_wp2
   go_ret
   exact ⟨by rw [HR.out, List.take_of_length_le (by have := HL.out; omega)]; rfl, BW.out⟩
set_option maxHeartbeats 3200000 in
theorem tgall_any {w : World} {R R1 : Nat → Prop} {A A1 : Option Addr} {n c n1 c1 : Nat} {l : List Giv} {ms : List Mat} (h1 : Ms w R1 A1 n1 c1 ms) (h : Gvs w R A n c l) (hs : ShortG l) :
  Calls Tryz.prog 97 #[.slice A1 n1 c1, .slice A n c] w fun e w' => e = .returned (.int .i64 (allI l ms)) ∧ Below w.heap.size w w' := by
 have HM := Lib.hid (fun W (hW : Below w.heap.size w W) (m : Mat) (hm : m.v.s.size ≤ maxLen) => tgmatch_any (w := W) m hm (h.keep (Kept.all hW R) (fun _ h _ => h)) hs)
 have HT := Lib.hid (tri_match l)
 have HE : Hid (allI l ms = least (matchI l) ms) := rfl
 generalize allI l ms = r at *
 generalize matchI l = f at *
 have hle := Rw.le h1
 have hcap := Rw.cap h1
 have HL := Lib.hid (Rw.len h1)
 unfold maxLen at hcap
 have H1 := Lib.hid h1
 clear h h1 hs
 go_enter Tryz.func97, Tryz.ntmps97
 go_wp2
 go_loopw [5, 10] (fun x i wr => ∃ j : Nat, j ≤ n1 ∧ i = .int .i64 j ∧ x = .int .i64 (least f (ms.take j)) ∧ Below w.heap.size w wr) (fun _ i _ => n1 - (intOf i).toNat)
 case atStart => exact ⟨0, Nat.zero_le _, rfl, rfl, Below.refl _ _⟩
 case round =>
  obtain ⟨j, hj, rfl, rfl, hb⟩ := hrel
  have HB := Lib.hid hb
  clear hb
  by_cases hlt : j < n1
  ·obtain ⟨b, o, m, rfl, _, hbl, hx, hok, c0, c1, c2, c3, c4, c5, c6⟩ := (H1.out.keep (Kept.all HB.out _) (R' := fun _ => True) (fun _ _ _ => trivial)).at_ hlt
   have HS := Lib.hid (least_step hx (HT.out m).2)
   have HC := Lib.hid (fun W hW => HM.out W hW m hok.2.2.2.2)
   obtain ⟨⟨mc, mn, mu⟩, op, ⟨k, nn, s⟩⟩ := m
   simp only at c0 c1 c2 c3 c4 c5 c6
   have HC2 : Hid (∀ W : World, Below w.heap.size w W → Calls Tryz.prog 125 #[.agg #[.int .i64 mc, .string mn, .bool mu, .int .i64 op, .int .i64 k, .int .i64 nn, .string s], .slice A n c] W fun e w' => e = .returned (.int .i64 (f ⟨⟨mc, mn, mu⟩, op, ⟨k, nn, s⟩⟩)) ∧ Below W.heap.size W w') := HC.out
   clear HC hx hok
   generalize f _ = y at *
   generalize least f (ms.take j) = x at *
   generalize hz : least f (ms.take (j + 1)) = z at *
   have HZ := Lib.hid hz
   clear hz
   go_wp2_with (go_at_call 125; refine (HC2.out _ (HB.out.alloc HB.out.size _)).mono ?_; rintro e w2 ⟨rfl, hb2⟩; have B2 := Lib.hid (below_step HB.out (Below.lit hb2)); clear hb2)
   go_roundw
   case rel => exact ⟨j + 1, by omega, by go_num, by rw [HZ.out, HS.out], B2.out⟩
   case measure => simp [intOf]; omega
  ·obtain rfl : j = n1 := by omega
   go_wp2
   go_ret
   exact ⟨by rw [HE.out, List.take_of_length_le (by have := HL.out; omega)]; rfl, HB.out⟩
set_option maxHeartbeats 3200000 in
theorem tgone_any {w : World} {R R1 : Nat → Prop} {A A1 : Option Addr} {n c n1 c1 : Nat} {l : List Giv} {ms : List (List Mat)} (h1 : Als w R1 A1 n1 c1 ms) (h : Gvs w R A n c l) (hs : ShortG l) :
  Calls Tryz.prog 63 #[.slice A1 n1 c1, .slice A n c] w fun e w' => e = .returned (.int .i64 (oneI l ms)) ∧ Below w.heap.size w w' := by
 have HM := Lib.hid (fun W (hW : Below w.heap.size w W) (A2 : Option Addr) (n2 c2 : Nat) (m : List Mat) (hm : Ms W (fun _ => True) A2 n2 c2 m) => tgall_any (w := W) hm (h.keep (Kept.all hW R) (fun _ h _ => h)) hs)
 have HT := Lib.hid (tri_all l)
 have HE : Hid (oneI l ms = most (allI l) ms) := rfl
 generalize oneI l ms = r at *
 generalize allI l = f at *
 have hle := Rw.le h1
 have hcap := Rw.cap h1
 have HL := Lib.hid (Rw.len h1)
 unfold maxLen at hcap
 have H1 := Lib.hid h1
 clear h h1 hs
 go_enter Tryz.func63, Tryz.ntmps63
 go_wp2
 go_loopw [5, 10] (fun x i wr => ∃ j : Nat, j ≤ n1 ∧ i = .int .i64 j ∧ x = .int .i64 (most f (ms.take j)) ∧ Below w.heap.size w wr) (fun _ i _ => n1 - (intOf i).toNat)
 case atStart => exact ⟨0, Nat.zero_le _, rfl, rfl, Below.refl _ _⟩
 case round =>
  obtain ⟨j, hj, rfl, rfl, hb⟩ := hrel
  have HB := Lib.hid hb
  clear hb
  by_cases hlt : j < n1
  ·obtain ⟨b, o, m, A2, n2, c2, rfl, _, hbl, hx, c0, hin⟩ := (H1.out.keep (Kept.all HB.out _) (R' := fun _ => True) (fun _ _ _ => trivial)).at_ hlt
   have HS := Lib.hid (most_step hx (HT.out m).1)
   have HC := Lib.hid (HM.out wr HB.out A2 n2 c2 m hin)
   clear hx hin
   generalize f m = y at *
   generalize most f (ms.take j) = x at *
   generalize hz : most f (ms.take (j + 1)) = z at *
   have HZ := Lib.hid hz
   clear hz
   go_wp2_with (go_at_call 97; refine HC.out.mono ?_; rintro e w2 ⟨rfl, hb2⟩; have B2 := Lib.hid (below_step HB.out hb2); clear hb2)
   go_roundw
   case rel => exact ⟨j + 1, by omega, by go_num, by rw [HZ.out, HS.out], B2.out⟩
   case measure => simp [intOf]; omega
  ·obtain rfl : j = n1 := by omega
   go_wp2
   go_ret
   exact ⟨by rw [HE.out, List.take_of_length_le (by have := HL.out; omega)]; rfl, HB.out⟩
set_option maxHeartbeats 3200000 in
theorem tgmet_any {w : World} {R R1 : Nat → Prop} {A A1 : Option Addr} {n c n1 c1 : Nat} {l : List Giv} {ms : Tgt} (h1 : Tg w R1 A1 n1 c1 ms) (h : Gvs w R A n c l) (hs : ShortG l) :
  Calls Tryz.prog 32 #[.slice A1 n1 c1, .slice A n c] w fun e w' => e = .returned (.int .i64 (metI l ms)) ∧ Below w.heap.size w w' := by
 have HM := Lib.hid (fun W (hW : Below w.heap.size w W) (A2 : Option Addr) (n2 c2 : Nat) (m : List (List Mat)) (hm : Als W (fun _ => True) A2 n2 c2 m) => tgone_any (w := W) hm (h.keep (Kept.all hW R) (fun _ h _ => h)) hs)
 have HT := Lib.hid (tri_one l)
 have HE : Hid (metI l ms = least (oneI l) ms) := rfl
 generalize metI l ms = r at *
 generalize oneI l = f at *
 have hle := Rw.le h1
 have hcap := Rw.cap h1
 have HL := Lib.hid (Rw.len h1)
 unfold maxLen at hcap
 have H1 := Lib.hid h1
 clear h h1 hs
 go_enter Tryz.func32, Tryz.ntmps32
 go_wp2
 go_loopw [5, 10] (fun x i wr => ∃ j : Nat, j ≤ n1 ∧ i = .int .i64 j ∧ x = .int .i64 (least f (ms.take j)) ∧ Below w.heap.size w wr) (fun _ i _ => n1 - (intOf i).toNat)
 case atStart => exact ⟨0, Nat.zero_le _, rfl, rfl, Below.refl _ _⟩
 case round =>
  obtain ⟨j, hj, rfl, rfl, hb⟩ := hrel
  have HB := Lib.hid hb
  clear hb
  by_cases hlt : j < n1
  ·obtain ⟨b, o, m, A2, n2, c2, rfl, _, hbl, hx, c0, hin⟩ := (H1.out.keep (Kept.all HB.out _) (R' := fun _ => True) (fun _ _ _ => trivial)).at_ hlt
   have HS := Lib.hid (least_step hx (HT.out m).2)
   have HC := Lib.hid (HM.out wr HB.out A2 n2 c2 m hin)
   clear hx hin
   generalize f m = y at *
   generalize least f (ms.take j) = x at *
   generalize hz : least f (ms.take (j + 1)) = z at *
   have HZ := Lib.hid hz
   clear hz
   go_wp2_with (go_at_call 63; refine HC.out.mono ?_; rintro e w2 ⟨rfl, hb2⟩; have B2 := Lib.hid (below_step HB.out hb2); clear hb2)
   go_roundw
   case rel => exact ⟨j + 1, by omega, by go_num, by rw [HZ.out, HS.out], B2.out⟩
   case measure => simp [intOf]; omega
  ·obtain rfl : j = n1 := by omega
   go_wp2
   go_ret
   exact ⟨by rw [HE.out, List.take_of_length_le (by have := HL.out; omega)]; rfl, HB.out⟩
end Go.Proofs.YtmoglaknmlhpgaaGreatDoor
