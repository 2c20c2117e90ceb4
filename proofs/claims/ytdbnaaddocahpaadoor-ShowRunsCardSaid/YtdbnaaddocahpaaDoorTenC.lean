/- Several texts in one: PolEq, PolHolds, PolExpr, PolEach, PolWalk, PolOr, QTail, PolRule, PolPol, KeepSmall, PolCountsM, ShowPol. -/
import Derived.Test.YtdbnaaddocahpaaDoorTenB
import Derived.Test.YtdbnaaddocahpaaDoorTenA
import Derived.Maps.OwnOps
import Derived.Maps.Views
import Derived.StillTail
import Derived.Lib.QuietBelow
import Derived.BigQuiet
/- Attributes, nodes, matches, duties held against each other by ==. -/
namespace Go.Proofs.YtdbnaaddocahpaaDoor
set_option linter.unusedVariables false
open Go.RowKit

theorem text_same (s s' : ByteArray) : (s.toList = s'.toList) = (s = s') := propext ⟨fun c => text_eq (by show s.data.toList = s'.data.toList; rw [← ByteArray.toList_eq, ← ByteArray.toList_eq]; exact c), fun h => by rw [h]⟩

theorem vl_ext {a b : Vl} (h1 : a.k = b.k) (h2 : a.n = b.n) (h3 : a.s = b.s) : a = b := by cases a; cases b; simp_all
theorem attr_eq (k k' : Int) (s s' : ByteArray) (m m' : Bool) (w : World) :
    (Op.equalIn 10000 23 (.agg #[.int .i64 k, .string s, .bool m]) (.agg #[.int .i64 k', .string s', .bool m'])).run Tryd.prog w = .ok (decide ((⟨k, s, m⟩ : Atr) = ⟨k', s', m'⟩)) w := by
  have u3 := Tryd.underlying3
  have a3 := Tryd.isAgg3
  have z3 := Tryd.sizeOf3
  have u9 := Tryd.underlying9
  have a9 := Tryd.isAgg9
  have z9 := Tryd.sizeOf9
  have u4 := Tryd.underlying4
  have a4 := Tryd.isAgg4
  have z4 := Tryd.sizeOf4
  have hS : Tryd.prog.underlying 23 = some (.struct (Tryd.prog.fieldsOf 23)) := by kernel_rfl
  have hp : Tryd.prog.stoodInHeld 23 = false := by kernel_rfl
  rw [show (10000 : Nat) = 9999 + 1 from rfl, run_equalIn_agg w 9999 23 _ _ hS hp]
  simp only [Program.fieldsOf, Tryd.underlying23]
  go_simp
  simp only [text_same]
  by_cases h1 : k = k' <;> by_cases h2 : s = s' <;> by_cases h3 : m = m' <;> simp [h1, h2, h3]

set_option maxRecDepth 100000 in
set_option maxHeartbeats 800000 in
theorem nod_eq (a b : Nod) (w : World) : (Op.equalIn 10000 33 (.agg #[.int .i64 a.op, .int .i64 a.v.k, .int .i64 a.v.n, .string a.v.s, .int .i64 a.a.cat, .string a.a.name, .bool a.a.must]) (.agg #[.int .i64 b.op, .int .i64 b.v.k, .int .i64 b.v.n, .string b.v.s, .int .i64 b.a.cat, .string b.a.name, .bool b.a.must])).run Tryd.prog w = .ok (decide (a = b)) w := by
  have u3 := Tryd.underlying3
  have a3 := Tryd.isAgg3
  have z3 := Tryd.sizeOf3
  have u9 := Tryd.underlying9
  have a9 := Tryd.isAgg9
  have z9 := Tryd.sizeOf9
  have u4 := Tryd.underlying4
  have a4 := Tryd.isAgg4
  have z4 := Tryd.sizeOf4
  have hS : Tryd.prog.underlying 33 = some (.struct (Tryd.prog.fieldsOf 33)) := by kernel_rfl
  have hp : Tryd.prog.stoodInHeld 33 = false := by kernel_rfl
  rw [show (10000 : Nat) = 9999 + 1 from rfl, run_equalIn_agg w 9999 33 _ _ hS hp]
  simp only [Program.fieldsOf, Tryd.underlying33]
  go_simp
  simp only [text_same]
  repeat' split
  all_goals first
    | (rw [decide_eq_true]; exact Nod.ext' (by assumption) (vl_ext (by assumption) (by assumption) (by assumption)) (Atr.ext' (by assumption) (by assumption) (by assumption)))
    | (rw [decide_eq_false]; rintro rfl; rename_i hne; exact hne rfl)

set_option maxRecDepth 100000 in
set_option maxHeartbeats 800000 in
theorem mat_eq (a b : Mat) (w : World) : (Op.equalIn 10000 27 (.agg #[.int .i64 a.a.cat, .string a.a.name, .bool a.a.must, .int .i64 a.op, .int .i64 a.v.k, .int .i64 a.v.n, .string a.v.s]) (.agg #[.int .i64 b.a.cat, .string b.a.name, .bool b.a.must, .int .i64 b.op, .int .i64 b.v.k, .int .i64 b.v.n, .string b.v.s])).run Tryd.prog w = .ok (decide (a = b)) w := by
  have u3 := Tryd.underlying3
  have a3 := Tryd.isAgg3
  have z3 := Tryd.sizeOf3
  have u9 := Tryd.underlying9
  have a9 := Tryd.isAgg9
  have z9 := Tryd.sizeOf9
  have u4 := Tryd.underlying4
  have a4 := Tryd.isAgg4
  have z4 := Tryd.sizeOf4
  have hS : Tryd.prog.underlying 27 = some (.struct (Tryd.prog.fieldsOf 27)) := by kernel_rfl
  have hp : Tryd.prog.stoodInHeld 27 = false := by kernel_rfl
  rw [show (10000 : Nat) = 9999 + 1 from rfl, run_equalIn_agg w 9999 27 _ _ hS hp]
  simp only [Program.fieldsOf, Tryd.underlying27]
  go_simp
  simp only [text_same]
  repeat' split
  all_goals first
    | (rw [decide_eq_true]; exact Mat.ext' (Atr.ext' (by assumption) (by assumption) (by assumption)) (by assumption) (vl_ext (by assumption) (by assumption) (by assumption)))
    | (rw [decide_eq_false]; rintro rfl; rename_i hne; exact hne rfl)

set_option maxRecDepth 100000 in
set_option maxHeartbeats 800000 in
theorem dut_eq (a b : Dut) (w : World) : (Op.equalIn 10000 40 (.agg #[.int .i64 a.on, .int .i64 a.kind, .string a.arg]) (.agg #[.int .i64 b.on, .int .i64 b.kind, .string b.arg])).run Tryd.prog w = .ok (decide (a = b)) w := by
  have u3 := Tryd.underlying3
  have a3 := Tryd.isAgg3
  have z3 := Tryd.sizeOf3
  have u9 := Tryd.underlying9
  have a9 := Tryd.isAgg9
  have z9 := Tryd.sizeOf9
  have u4 := Tryd.underlying4
  have a4 := Tryd.isAgg4
  have z4 := Tryd.sizeOf4
  have hS : Tryd.prog.underlying 40 = some (.struct (Tryd.prog.fieldsOf 40)) := by kernel_rfl
  have hp : Tryd.prog.stoodInHeld 40 = false := by kernel_rfl
  rw [show (10000 : Nat) = 9999 + 1 from rfl, run_equalIn_agg w 9999 40 _ _ hS hp]
  simp only [Program.fieldsOf, Tryd.underlying40]
  go_simp
  simp only [text_same]
  repeat' split
  all_goals first
    | (rw [decide_eq_true]; exact Dut.ext' (by assumption) (by assumption) (by assumption))
    | (rw [decide_eq_false]; rintro rfl; rename_i hne; exact hne rfl)

end Go.Proofs.YtdbnaaddocahpaaDoor
/- What a node is of, what it makes, and what it may have beside its Op. -/
namespace Go.Proofs.YtdbnaaddocahpaaDoor
set_option linter.unusedVariables false
open Go.RowKit

def ofT (op : Int) : ByteArray := lf ((patX op).getD [])
def makesT (op : Int) : ByteArray := match patX op with | none => lf [] | some _ => lf [makesX op]
set_option maxHeartbeats 1600000 in
theorem shape_any (op : Int) (w : World) :
    Calls Tryd.prog 61 #[.int .i64 op] w fun e w' => e = .returned (.tuple #[.string (ofT op), .string (makesT op)]) ∧ w' = w := by
  rcases ops_cases op with rfl | rfl | rfl | rfl | rfl | rfl | rfl | rfl | rfl | rfl | rfl | rfl | rfl | h
  case inr.inr.inr.inr.inr.inr.inr.inr.inr.inr.inr.inr.inr =>
    have HE : Hid (ofT op = ⟨#[]⟩ ∧ makesT op = ⟨#[]⟩) := by
      show ofT op = ⟨#[]⟩ ∧ makesT op = ⟨#[]⟩
      obtain ⟨h1, h2, h3, h4, h5, h6, h7, h8, h9, h10, h11, h12, h13⟩ := h
      have : patX op = none := by simp [patX, h1, h2, h3, h4, h5, h6, h7, h8, h9, h10, h11, h12, h13]
      unfold ofT makesT
      rw [this]
      exact ⟨rfl, rfl⟩
    simp only [ne_eq, ← beq_eq_false_iff_ne] at h
    obtain ⟨h1, h2, h3, h4, h5, h6, h7, h8, h9, h10, h11, h12, h13⟩ := h
    go_enter Tryd.func61, Tryd.ntmps61
    go_wp2_with fail
    go_ret2
    exact ⟨by rw [HE.out.1, HE.out.2]; rfl, rfl⟩
  all_goals
    go_enter Tryd.func61, Tryd.ntmps61
    go_wp2_with fail
    go_ret2
    exact ⟨rfl, rfl⟩

theorem empty_iff (s : ByteArray) : (s = ByteArray.empty) = (s.toList = []) := propext ⟨fun h => by rw [h, ByteArray.toList_eq]; rfl, fun h => text_eq (by show s.data.toList = []; rw [← ByteArray.toList_eq]; exact h)⟩
theorem zeroA_iff (c : Int) (nm : ByteArray) (mu : Bool) : decide ((⟨c, nm, mu⟩ : Atr) = zeroA) = (decide (c = 0) && decide (nm.toList = []) && decide (mu = false)) := by
  rw [Bool.eq_iff_iff]
  simp only [Bool.and_eq_true, decide_eq_true_eq, ← empty_iff, zeroA, Atr.mk.injEq, and_assoc]
theorem zeroV_iff (k n : Int) (s : ByteArray) : decide ((⟨k, n, s⟩ : Vl) = zeroV) = (decide (k = 0) && decide (n = 0) && decide (s.toList = [])) := by
  rw [Bool.eq_iff_iff]
  simp only [Bool.and_eq_true, decide_eq_true_eq, ← empty_iff, zeroV, Vl.mk.injEq, and_assoc]

set_option maxHeartbeats 1600000 in
theorem holds_any (x : Nod) (hok : x.ok) (w : World) :
    Calls Tryd.prog 63 #[.agg #[.int .i64 x.op, .int .i64 x.v.k, .int .i64 x.v.n, .string x.v.s, .int .i64 x.a.cat, .string x.a.name, .bool x.a.must]] w fun e w' => e = .returned (.bool (holdsB x)) ∧ Below w.heap.size w w' := by
  obtain ⟨op, ⟨k, n, s⟩, ⟨c, nm, mu⟩⟩ := x
  obtain ⟨hop, hv, ha⟩ := hok
  simp only at hop hv ha ⊢
  have HV := Lib.hid (right_any k n s hv.2.2)
  have HA := Lib.hid (attr_any ⟨c, nm, mu⟩ ha)
  have HE : Hid (holdsB ⟨op, ⟨k, n, s⟩, ⟨c, nm, mu⟩⟩ = if op = 1 then decide (RightV k n s.data.toList) && (decide (c = 0) && decide (nm.toList = []) && decide (mu = false)) else if op = 2 then (decide (k = 0) && decide (n = 0) && decide (s.toList = [])) && attrB ⟨c, nm, mu⟩
      else (decide (k = 0) && decide (n = 0) && decide (s.toList = [])) && (decide (c = 0) && decide (nm.toList = []) && decide (mu = false))) := by
    rw [← zeroA_iff, ← zeroV_iff]; exact rfl
  clear hop hv ha
  generalize decide (RightV k n s.data.toList) = rv at *
  generalize attrB ⟨c, nm, mu⟩ = ab at *
  generalize holdsB ⟨op, ⟨k, n, s⟩, ⟨c, nm, mu⟩⟩ = r at *
  have two : op = 1 ∨ op = 2 ∨ ((op == 1) = false ∧ (op == 2) = false) := by simp only [beq_eq_false_iff_ne]; omega
  rcases two with rfl | rfl | ⟨t1, t2⟩
  · go_enter Tryd.func63, Tryd.ntmps63
    go_wp2_with (first
      | (go_at_call 70; refine (HV.out _).mono ?_; rintro e w1 ⟨rfl, hb1⟩; have B1 := Lib.hid (Below.lit hb1); have C1 := Lib.hid (Ob.below (Ob.made _ _ _) hb1 (by simp)); have c4 := C1.out.cell 4; have c5 := C1.out.cell 5; have c6 := C1.out.cell 6))
    all_goals
      go_ret
      refine ⟨ret_bool ?_, B1.out⟩
      rw [HE.out]
      clear HA HV HE B1 C1
      simp_all
  · go_enter Tryd.func63, Tryd.ntmps63
    go_wp2_with (first
      | (go_at_call 71; refine (HA.out _).mono ?_; rintro e w1 ⟨rfl, hb1⟩; have B1 := Lib.hid (Below.lit hb1)))
    all_goals
      go_ret
      refine ⟨ret_bool ?_, by first | exact B1.out | exact (Below.refl _ _).alloc (Nat.le_refl _) _⟩
      rw [HE.out]
      clear HA HV HE
      simp_all
  · have HT : Hid (op ≠ 1 ∧ op ≠ 2) := ⟨by simpa using t1, by simpa using t2⟩
    go_enter Tryd.func63, Tryd.ntmps63
    go_wp2_with fail
    all_goals
      go_ret
      refine ⟨ret_bool ?_, (Below.refl _ _).alloc (Nat.le_refl _) _⟩
      have ht := HT.out
      rw [HE.out]
      clear HA HV HE HT
      simp_all
end Go.Proofs.YtdbnaaddocahpaaDoor
/- Expressions: the project's. -/
namespace Go.Proofs.YtdbnaaddocahpaaDoor
set_option linter.unusedVariables false
open Go.RowKit

theorem runX_app : ∀ (l m : List Nod) (st : List Bool), runX (l ++ m) st = (match runX l st with | some st' => runX m st' | none => none)
  | [], m, st => rfl
  | x :: l, m, st => by
    simp only [List.cons_append, runX]
    cases stepX x st with
    | none => rfl
    | some st' => exact runX_app l m st'
/-- So far. -/
def RunTo (l : List Nod) (k : Nat) (st : List Bool) : Prop := runX (l.take k) [] = some st
theorem RunTo.zero (l : List Nod) : RunTo l 0 [] := rfl
theorem take_next {α : Type} {l : List α} {k : Nat} {x : α} (h : l[k]? = some x) : l.take (k + 1) = l.take k ++ [x] := by
  obtain ⟨hk, rfl⟩ := List.getElem?_eq_some_iff.1 h
  exact List.take_succ_eq_append_getElem hk
theorem RunTo.step {l : List Nod} {k : Nat} {st st' : List Bool} {x : Nod} (h : RunTo l k st) (hx : l[k]? = some x) (hs : stepX x st = some st') : RunTo l (k + 1) st' := by
  unfold RunTo at h ⊢
  rw [take_next hx, runX_app, h]
  simp only [runX, hs]
theorem RunTo.err {l : List Nod} {k : Nat} {st : List Bool} {x : Nod} (h : RunTo l k st) (hx : l[k]? = some x) (hs : stepX x st = none) : runX l [] = none := by
  rw [← List.take_append_drop (k + 1) l, runX_app, take_next hx, runX_app, h]
  simp only [runX, hs]
theorem RunTo.all {l : List Nod} {n : Nat} {st : List Bool} (h : RunTo l n st) (hn : l.length = n) : runX l [] = some st := by
  unfold RunTo at h
  rwa [List.take_of_length_le (by omega)] at h
theorem expr_err {l : List Nod} (hl : l.length ≤ 32) (h : runX l [] = none) : exprE l = 1 := by
  unfold exprE
  rw [if_neg (by omega), h]
theorem expr_end {l : List Nod} {st : List Bool} (hl : l.length ≤ 32) (h : runX l [] = some st) : exprE l = if l = [] ∨ st = [false] then 0 else 1 := by
  unfold exprE
  rw [if_neg (by omega), h]

set_option maxHeartbeats 1600000 in
theorem expr_any {R : Nat → Prop} {A : Option Addr} {n c : Nat} {l : List Nod} (w : World) (h : Nds w R A n c l) :
    Calls Tryd.prog 51 #[.slice A n c] w fun e w' => e = .returned (.int .i64 (exprE l)) ∧ Below w.heap.size w w' := by
  have hle := Rw.le h
  have hcap := Rw.cap h
  have HL := Lib.hid (Rw.len h)
  unfold maxLen at hcap
  have H := Lib.hid h
  clear h
  by_cases h32 : 32 < n
  · have HE : Hid (exprE l = 6) := by
      show exprE l = _
      unfold exprE
      rw [HL.out, if_pos h32]
    have hb : (32 : Int) < (n : Int) := by omega
    go_enter Tryd.func51, Tryd.ntmps51
    go_wp2_with fail
    go_ret
    exact ⟨ret_int HE.out.symm, Below.refl _ _⟩
  have hb : ¬ (32 : Int) < (n : Int) := by omega
  go_enter Tryd.func51, Tryd.ntmps51
  go_wp2
  go_loopw [3, 15] (fun s i wr => ∃ (k : Nat) (st : List Bool), k ≤ n ∧ i = .int .i64 k ∧ s = .string (lf st) ∧ st.length ≤ k ∧ RunTo l k st ∧ Below w.heap.size w wr) (fun _ i _ => n - (intOf i).toNat)
  case atStart => exact ⟨0, [], Nat.zero_le _, rfl, rfl, Nat.le_refl _, RunTo.zero _, Below.refl _ _⟩
  case round =>
    obtain ⟨k, st, hk, rfl, rfl, hst, hf, hb⟩ := hrel
    have HF := Lib.hid hf
    have HB := Lib.hid hb
    clear hf hb
    by_cases hlt : k < n
    · obtain ⟨b, o, x, rfl, hRb, hbl, hx, hok, c0, c1, c2, c3, c4, c5, c6⟩ := (H.out.keep (Kept.all HB.out R) (fun _ h _ => h)).at_ hlt
      have HX := Lib.hid hx
      have hsh := fun W => shape_any x.op W
      have hho := fun W => holds_any x hok W
      have HS : Hid (stepX x st = if holdsB x = true then popX x.op st else none) := rfl
      rw [popX_pat] at HS
      obtain ⟨op, ⟨kx, nx, sx⟩, ⟨cx, mx, ux⟩⟩ := x
      simp only at c0 c1 c2 c3 c4 c5 c6 hsh hho HS
      have HHO := Lib.hid hho
      have hl32 := HL.out
      have hst' : st.length ≤ 1000 := by omega
      have HK := Lib.hid hst
      clear hok hho hx hst
      unfold ofT makesT at hsh
      cases hpat : patX op with
      | none =>
        rw [hpat] at hsh HS
        have hcut := fun W => cut_any st [] hst' (by simp) W
        simp only [Option.getD_none, hasP, List.take_zero, List.length_nil, decide_true, if_true, List.drop_zero, lf_nil] at hsh hcut
        have HSH := Lib.hid hsh
        have HCUT := Lib.hid hcut
        have HERR : Hid (exprE l = 1) := expr_err (by omega) (HF.out.err HX.out (by rw [HS.out]; simp))
        clear hsh hcut hpat HS hl32 hst'
        generalize lf st = ls at *
        go_wp2_with (first
          | (go_at_call 61; refine (HSH.out _).mono ?_; rintro e w1 ⟨rfl, rfl⟩)
          | (go_at_call 62; refine (HCUT.out _).mono ?_; rintro e w2 ⟨rfl, rfl⟩))
        go_ret
        exact ⟨ret_int HERR.out.symm, HB.out.alloc HB.out.size _⟩
      | some p =>
        rw [hpat] at hsh HS
        have hcut := fun W => cut_any st p hst' (by have := patX_len hpat; omega) W
        simp only [Option.getD_some] at hsh hcut HS
        by_cases hpp : hasP p st = true
        · simp only [hpp, if_true] at hcut HS
          obtain ⟨d, hd⟩ : ∃ d, d = st.drop p.length := ⟨_, rfl⟩
          have hdl : d.length ≤ st.length := by rw [hd, List.length_drop]; omega
          rw [← hd] at hcut HS
          obtain ⟨hb, hhb⟩ : ∃ hb, hb = holdsB ⟨op, ⟨kx, nx, sx⟩, ⟨cx, mx, ux⟩⟩ := ⟨_, rfl⟩
          rw [← hhb] at HHO HS
          have hpush := lf_push d (makesX op)
          have hds := lf_size d
          have HSH := Lib.hid hsh
          have HCUT := Lib.hid hcut
          have hx1 : (9223372036854775807 < (lf d).size + 1) = False := eq_false (by have := HK.out; omega)
          have HD : Hid ((makesX op :: d).length ≤ k + 1) := by
            show (makesX op :: d).length ≤ k + 1
            have := HK.out
            rw [List.length_cons]
            omega
          clear hsh hcut hpat hl32 hst' hpp hd hdl hhb hds
          obtain ⟨mb, hmb⟩ : ∃ mb, mb = makesX op := ⟨_, rfl⟩
          rw [← hmb] at HSH hpush HS HD
          have HP := Lib.hid hpush
          clear hmb hpush
          generalize hls : lf st = ls at *
          generalize hlp : lf p = lp at *
          have HTX := Lib.hid (rfl : lf d = lf d)
          generalize htx : lf d = tx at *
          have HTX := Lib.hid htx
          clear hls hlp htx
          cases hb
          · have HERR : Hid (exprE l = 1) := expr_err (by have := HL.out; omega) (HF.out.err HX.out (by rw [HS.out]; simp))
            clear HS
            cases mb
            all_goals
              simp only [show lf [false] = (⟨#[118]⟩ : ByteArray) from rfl, show lf [true] = (⟨#[98]⟩ : ByteArray) from rfl] at HSH
              go_wp2_with (first
                | (go_at_call 61; refine (HSH.out _).mono ?_; rintro e w1 ⟨rfl, rfl⟩)
                | (go_at_call 62; refine (HCUT.out _).mono ?_; rintro e w2 ⟨rfl, rfl⟩)
                | (go_at_call 63; refine (HHO.out _).mono ?_; rintro e w3 ⟨rfl, hb3⟩; have B3 := Lib.hid (Below.lit hb3)))
              go_ret
              exact ⟨ret_int HERR.out.symm, below_step HB.out B3.out⟩
          · have HNEXT : Hid (RunTo l (k + 1) (mb :: d)) := HF.out.step HX.out (by rw [HS.out]; simp)
            clear HS
            cases mb
            all_goals
              simp only [show lf [false] = (⟨#[118]⟩ : ByteArray) from rfl, show lf [true] = (⟨#[98]⟩ : ByteArray) from rfl] at HSH HP
              go_wp2_with (first
                | (go_at_call 61; refine (HSH.out _).mono ?_; rintro e w1 ⟨rfl, rfl⟩)
                | (go_at_call 62; refine (HCUT.out _).mono ?_; rintro e w2 ⟨rfl, rfl⟩)
                | (go_at_call 63; refine (HHO.out _).mono ?_; rintro e w3 ⟨rfl, hb3⟩; have B3 := Lib.hid (Below.lit hb3)))
              go_roundw
              case rel => exact ⟨k + 1, _, by omega, by go_num, by rw [HP.out], HD.out, HNEXT.out, below_step HB.out B3.out⟩
              case measure => simp [intOf]; omega
        · rw [Bool.not_eq_true] at hpp
          simp only [hpp] at hcut HS
          have HSH := Lib.hid hsh
          have HCUT := Lib.hid hcut
          have HERR : Hid (exprE l = 1) := expr_err (by omega) (HF.out.err HX.out (by rw [HS.out]; simp))
          clear hsh hcut hpat HS hl32 hst' hpp
          generalize lf st = ls at *
          generalize lf p = lp at *
          generalize lf [makesX op] = lm at *
          go_wp2_with (first
            | (go_at_call 61; refine (HSH.out _).mono ?_; rintro e w1 ⟨rfl, rfl⟩)
            | (go_at_call 62; refine (HCUT.out _).mono ?_; rintro e w2 ⟨rfl, rfl⟩))
          go_ret
          exact ⟨ret_int HERR.out.symm, HB.out.alloc HB.out.size _⟩
    · obtain rfl : k = n := by omega
      have HEND := Lib.hid (expr_end (by have := HL.out; omega) (HF.out.all HL.out))
      by_cases hk0 : k = 0
      · subst hk0
        have HZ : Hid (exprE l = 0) := HEND.out.trans (if_pos (.inl (List.eq_nil_of_length_eq_zero HL.out)))
        generalize lf st = ls at *
        go_wp2_with fail
        go_ret
        exact ⟨ret_int HZ.out.symm, HB.out⟩
      · have hlpos : (0 : Int) < (k : Int) := by omega
        have hne : ¬ l = [] := by rintro rfl; have := HL.out; simp at this; omega
        by_cases hv : st = [false]
        · subst hv
          have HZ : Hid (exprE l = 0) := HEND.out.trans (if_pos (.inr rfl))
          simp only [show lf [false] = (⟨#[118]⟩ : ByteArray) from rfl]
          go_wp2_with fail
          go_ret
          exact ⟨ret_int HZ.out.symm, HB.out⟩
        · have HZ : Hid (exprE l = 1) := HEND.out.trans (if_neg (fun e => e.elim hne hv))
          have hls : ((lf st).toList == [118]) = false := beq_eq_false_iff_ne.2 (fun e => hv (lf_inj (text_eq (by show (lf st).data.toList = _; rw [← ByteArray.toList_eq, e]; rfl))))
          generalize lf st = ls at *
          clear hne hv
          go_wp2_with fail
          go_ret
          exact ⟨ret_int HZ.out.symm, HB.out⟩
end Go.Proofs.YtdbnaaddocahpaaDoor
/- The first error of a list: the project's each, over matches, AllOfs, AnyOfs, duties; targets and duties by it. -/
namespace Go.Proofs.YtdbnaaddocahpaaDoor
set_option linter.unusedVariables false
open Go.RowKit

set_option maxHeartbeats 800000 in
theorem each_match {w : World} {R : Nat → Prop} {A : Option Addr} {n c : Nat} {l : List Mat} (h : Ms w R A n c l) :
    Calls Tryd.prog 75 #[.slice A n c, .func (.func 76) #[] #[]] w fun e w' => e = .returned (.int .i64 (firstE matE l)) ∧ Below w.heap.size w w' := by
  have hle := Rw.le h
  have hcap := Rw.cap h
  have HL := Lib.hid (Rw.len h)
  unfold maxLen at hcap
  have H := Lib.hid h
  clear h
  go_enter Tryd.func75, Tryd.ntmps75
  go_wp2
  go_loopw [10] (fun i wr => ∃ k : Nat, k ≤ n ∧ i = .int .i64 k ∧ FineTo matE l k ∧ Below w.heap.size w wr) (fun i _ => n - (intOf i).toNat)
  case atStart => exact ⟨0, Nat.zero_le _, rfl, FineTo.zero _ _, Below.refl _ _⟩
  case round =>
    obtain ⟨k, hk, rfl, hf, hb⟩ := hrel
    have HF := Lib.hid hf
    have HB := Lib.hid hb
    clear hf hb
    by_cases hlt : k < n
    · obtain ⟨b, o, x, rfl, hRb, hbl, hx, hok, c0, c1, c2, c3, c4, c5, c6⟩ := (H.out.keep (Kept.all HB.out R) (fun _ h _ => h)).at_ hlt
      have HX := Lib.hid hx
      have hcon := fun W => match_any x hok W
      clear hx
      by_cases hz : matE x = 0
      · have HZ := Lib.hid hz
        rw [hz] at hcon
        have HC := Lib.hid hcon
        clear hz hcon
        go_wp2_with (go_at_call 76; refine (HC.out _).mono ?_; rintro e w1 ⟨rfl, hb1⟩; have B1 := Lib.hid (Below.lit hb1))
        go_roundw
        case rel => exact ⟨k + 1, by omega, by go_num, HF.out.step HX.out HZ.out, below_step HB.out B1.out⟩
        case measure => simp [intOf]; omega
      · have HZ := Lib.hid hz
        obtain ⟨r, hr⟩ : ∃ r, r = matE x := ⟨_, rfl⟩
        have HR := Lib.hid hr
        rw [← hr] at hz hcon
        have hne : (r != 0) = true := by simpa using hz
        have HC := Lib.hid hcon
        clear hz hcon hr
        go_wp2_with (go_at_call 76; refine (HC.out _).mono ?_; rintro e w1 ⟨rfl, hb1⟩; have B1 := Lib.hid (Below.lit hb1))
        go_ret
        exact ⟨ret_int (HR.out.trans (HF.out.err HX.out HZ.out).symm), below_step HB.out B1.out⟩
    · obtain rfl : k = n := by omega
      go_wp2
      go_ret
      exact ⟨ret_int (HF.out.all HL.out).symm, HB.out⟩

theorem allOf_any {R : Nat → Prop} {A : Option Addr} {n c : Nat} {l : List Mat} (w : World) (h : Ms w R A n c l) :
    Calls Tryd.prog 68 #[.slice A n c] w fun e w' => e = .returned (.int .i64 (allE l)) ∧ Below w.heap.size w w' := by
  have hle := Rw.le h
  have hcap := Rw.cap h
  have HL := Lib.hid (Rw.len h)
  unfold maxLen at hcap
  have H := Lib.hid h
  clear h
  obtain ⟨r, hr⟩ : ∃ r, r = partsE n := ⟨_, rfl⟩
  have HR := Lib.hid hr
  by_cases hz : r = 0
  · have HP : ∀ W, Calls Tryd.prog 66 #[.int .i64 n] W fun e w' => e = .returned (.int .i64 0) ∧ w' = W := fun W => by have := parts_any n W; rwa [← hr, hz] at this
    have HE : Hid (allE l = firstE matE l) := by
      show allE l = _
      unfold allE
      rw [HL.out, ← hr, hz]; simp
    have HPP := Lib.hid HP
    clear hz hr HP
    go_enter Tryd.func68, Tryd.ntmps68
    go_wp2_with (first
      | (go_at_call 66; refine (HPP.out _).mono ?_; rintro e w1 ⟨rfl, rfl⟩)
      | (go_at_call 75; refine (each_match H.out).mono ?_; rintro e w2 ⟨rfl, hb2⟩; have B2 := Lib.hid hb2))
    go_ret
    exact ⟨ret_int HE.out.symm, B2.out⟩
  · have HP : ∀ W, Calls Tryd.prog 66 #[.int .i64 n] W fun e w' => e = .returned (.int .i64 r) ∧ w' = W := fun W => by have := parts_any n W; rwa [← hr] at this
    have HE : Hid (allE l = r) := by
      show allE l = _
      unfold allE
      rw [HL.out, ← hr, if_pos hz]
    have hne : (r != 0) = true := by simpa using hz
    have HPP := Lib.hid HP
    clear hz hr HP
    go_enter Tryd.func68, Tryd.ntmps68
    go_wp2_with (first
      | (go_at_call 66; refine (HPP.out _).mono ?_; rintro e w1 ⟨rfl, rfl⟩))
    go_ret
    exact ⟨ret_int HE.out.symm, Below.refl _ _⟩

set_option maxHeartbeats 800000 in
theorem each_allOf {w : World} {R : Nat → Prop} {A : Option Addr} {n c : Nat} {l : List (List Mat)} (h : Als w R A n c l) :
    Calls Tryd.prog 67 #[.slice A n c, .func (.func 68) #[] #[]] w fun e w' => e = .returned (.int .i64 (firstE allE l)) ∧ Below w.heap.size w w' := by
  have hle := Rw.le h
  have hcap := Rw.cap h
  have HL := Lib.hid (Rw.len h)
  unfold maxLen at hcap
  have H := Lib.hid h
  clear h
  go_enter Tryd.func67, Tryd.ntmps67
  go_wp2
  go_loopw [10] (fun i wr => ∃ k : Nat, k ≤ n ∧ i = .int .i64 k ∧ FineTo allE l k ∧ Below w.heap.size w wr) (fun i _ => n - (intOf i).toNat)
  case atStart => exact ⟨0, Nat.zero_le _, rfl, FineTo.zero _ _, Below.refl _ _⟩
  case round =>
    obtain ⟨k, hk, rfl, hf, hb⟩ := hrel
    have HF := Lib.hid hf
    have HB := Lib.hid hb
    clear hf hb
    by_cases hlt : k < n
    · obtain ⟨b, o, x, A', n', c', rfl, hRb, hbl, hx, c0, hin⟩ := (H.out.keep (Kept.all HB.out R) (fun _ h _ => h)).at_ hlt
      have HX := Lib.hid hx
      have hinK := fun W (hb : Below wr.heap.size wr W) => Ms.keep hin (Kept.all hb R) (fun _ h _ => h)
      have hcon := fun W (hb : Below wr.heap.size wr W) => allOf_any W (hinK W hb)
      clear hx
      by_cases hz : allE x = 0
      · have HZ := Lib.hid hz
        rw [hz] at hcon
        have HC := Lib.hid hcon
        clear hz hcon
        go_wp2_with (go_at_call 68; refine (HC.out _ (Below.refl _ _)).mono ?_; rintro e w1 ⟨rfl, hb1⟩; have B1 := Lib.hid hb1)
        go_roundw
        case rel => exact ⟨k + 1, by omega, by go_num, HF.out.step HX.out HZ.out, below_step HB.out B1.out⟩
        case measure => simp [intOf]; omega
      · have HZ := Lib.hid hz
        obtain ⟨r, hr⟩ : ∃ r, r = allE x := ⟨_, rfl⟩
        have HR := Lib.hid hr
        rw [← hr] at hz hcon
        have hne : (r != 0) = true := by simpa using hz
        have HC := Lib.hid hcon
        clear hz hcon hr
        go_wp2_with (go_at_call 68; refine (HC.out _ (Below.refl _ _)).mono ?_; rintro e w1 ⟨rfl, hb1⟩; have B1 := Lib.hid hb1)
        go_ret
        exact ⟨ret_int (HR.out.trans (HF.out.err HX.out HZ.out).symm), below_step HB.out B1.out⟩
    · obtain rfl : k = n := by omega
      go_wp2
      go_ret
      exact ⟨ret_int (HF.out.all HL.out).symm, HB.out⟩

theorem anyOf_any {R : Nat → Prop} {A : Option Addr} {n c : Nat} {l : List (List Mat)} (w : World) (h : Als w R A n c l) :
    Calls Tryd.prog 56 #[.slice A n c] w fun e w' => e = .returned (.int .i64 (anyE l)) ∧ Below w.heap.size w w' := by
  have hle := Rw.le h
  have hcap := Rw.cap h
  have HL := Lib.hid (Rw.len h)
  unfold maxLen at hcap
  have H := Lib.hid h
  clear h
  obtain ⟨r, hr⟩ : ∃ r, r = partsE n := ⟨_, rfl⟩
  have HR := Lib.hid hr
  by_cases hz : r = 0
  · have HP : ∀ W, Calls Tryd.prog 66 #[.int .i64 n] W fun e w' => e = .returned (.int .i64 0) ∧ w' = W := fun W => by have := parts_any n W; rwa [← hr, hz] at this
    have HE : Hid (anyE l = firstE allE l) := by
      show anyE l = _
      unfold anyE
      rw [HL.out, ← hr, hz]; simp
    have HPP := Lib.hid HP
    clear hz hr HP
    go_enter Tryd.func56, Tryd.ntmps56
    go_wp2_with (first
      | (go_at_call 66; refine (HPP.out _).mono ?_; rintro e w1 ⟨rfl, rfl⟩)
      | (go_at_call 67; refine (each_allOf H.out).mono ?_; rintro e w2 ⟨rfl, hb2⟩; have B2 := Lib.hid hb2))
    go_ret
    exact ⟨ret_int HE.out.symm, B2.out⟩
  · have HP : ∀ W, Calls Tryd.prog 66 #[.int .i64 n] W fun e w' => e = .returned (.int .i64 r) ∧ w' = W := fun W => by have := parts_any n W; rwa [← hr] at this
    have HE : Hid (anyE l = r) := by
      show anyE l = _
      unfold anyE
      rw [HL.out, ← hr, if_pos hz]
    have hne : (r != 0) = true := by simpa using hz
    have HPP := Lib.hid HP
    clear hz hr HP
    go_enter Tryd.func56, Tryd.ntmps56
    go_wp2_with (first
      | (go_at_call 66; refine (HPP.out _).mono ?_; rintro e w1 ⟨rfl, rfl⟩))
    go_ret
    exact ⟨ret_int HE.out.symm, Below.refl _ _⟩

set_option maxHeartbeats 800000 in
theorem each_anyOf {w : World} {R : Nat → Prop} {A : Option Addr} {n c : Nat} {l : List (List (List Mat))} (h : Tg w R A n c l) :
    Calls Tryd.prog 55 #[.slice A n c, .func (.func 56) #[] #[]] w fun e w' => e = .returned (.int .i64 (firstE anyE l)) ∧ Below w.heap.size w w' := by
  have hle := Rw.le h
  have hcap := Rw.cap h
  have HL := Lib.hid (Rw.len h)
  unfold maxLen at hcap
  have H := Lib.hid h
  clear h
  go_enter Tryd.func55, Tryd.ntmps55
  go_wp2
  go_loopw [10] (fun i wr => ∃ k : Nat, k ≤ n ∧ i = .int .i64 k ∧ FineTo anyE l k ∧ Below w.heap.size w wr) (fun i _ => n - (intOf i).toNat)
  case atStart => exact ⟨0, Nat.zero_le _, rfl, FineTo.zero _ _, Below.refl _ _⟩
  case round =>
    obtain ⟨k, hk, rfl, hf, hb⟩ := hrel
    have HF := Lib.hid hf
    have HB := Lib.hid hb
    clear hf hb
    by_cases hlt : k < n
    · obtain ⟨b, o, x, A', n', c', rfl, hRb, hbl, hx, c0, hin⟩ := (H.out.keep (Kept.all HB.out R) (fun _ h _ => h)).at_ hlt
      have HX := Lib.hid hx
      have hinK := fun W (hb : Below wr.heap.size wr W) => Als.keep hin (Kept.all hb R) (fun _ h _ => h)
      have hcon := fun W (hb : Below wr.heap.size wr W) => anyOf_any W (hinK W hb)
      clear hx
      by_cases hz : anyE x = 0
      · have HZ := Lib.hid hz
        rw [hz] at hcon
        have HC := Lib.hid hcon
        clear hz hcon
        go_wp2_with (go_at_call 56; refine (HC.out _ (Below.refl _ _)).mono ?_; rintro e w1 ⟨rfl, hb1⟩; have B1 := Lib.hid hb1)
        go_roundw
        case rel => exact ⟨k + 1, by omega, by go_num, HF.out.step HX.out HZ.out, below_step HB.out B1.out⟩
        case measure => simp [intOf]; omega
      · have HZ := Lib.hid hz
        obtain ⟨r, hr⟩ : ∃ r, r = anyE x := ⟨_, rfl⟩
        have HR := Lib.hid hr
        rw [← hr] at hz hcon
        have hne : (r != 0) = true := by simpa using hz
        have HC := Lib.hid hcon
        clear hz hcon hr
        go_wp2_with (go_at_call 56; refine (HC.out _ (Below.refl _ _)).mono ?_; rintro e w1 ⟨rfl, hb1⟩; have B1 := Lib.hid hb1)
        go_ret
        exact ⟨ret_int (HR.out.trans (HF.out.err HX.out HZ.out).symm), below_step HB.out B1.out⟩
    · obtain rfl : k = n := by omega
      go_wp2
      go_ret
      exact ⟨ret_int (HF.out.all HL.out).symm, HB.out⟩

set_option maxHeartbeats 800000 in
theorem each_duty {w : World} {R : Nat → Prop} {A : Option Addr} {n c : Nat} {l : List Dut} (h : Dus w R A n c l) :
    Calls Tryd.prog 57 #[.slice A n c, .func (.func 58) #[] #[]] w fun e w' => e = .returned (.int .i64 (firstE dutE l)) ∧ Below w.heap.size w w' := by
  have hle := Rw.le h
  have hcap := Rw.cap h
  have HL := Lib.hid (Rw.len h)
  unfold maxLen at hcap
  have H := Lib.hid h
  clear h
  go_enter Tryd.func57, Tryd.ntmps57
  go_wp2
  go_loopw [10] (fun i wr => ∃ k : Nat, k ≤ n ∧ i = .int .i64 k ∧ FineTo dutE l k ∧ Below w.heap.size w wr) (fun i _ => n - (intOf i).toNat)
  case atStart => exact ⟨0, Nat.zero_le _, rfl, FineTo.zero _ _, Below.refl _ _⟩
  case round =>
    obtain ⟨k, hk, rfl, hf, hb⟩ := hrel
    have HF := Lib.hid hf
    have HB := Lib.hid hb
    clear hf hb
    by_cases hlt : k < n
    · obtain ⟨b, o, x, rfl, hRb, hbl, hx, hok, c0, c1, c2⟩ := (H.out.keep (Kept.all HB.out R) (fun _ h _ => h)).at_ hlt
      have HX := Lib.hid hx
      have hcon := fun W => duty_any x hok W
      clear hx
      by_cases hz : dutE x = 0
      · have HZ := Lib.hid hz
        rw [hz] at hcon
        have HC := Lib.hid hcon
        clear hz hcon
        go_wp2_with (go_at_call 58; refine (HC.out _).mono ?_; rintro e w1 ⟨rfl, hb1⟩; have B1 := Lib.hid (Below.lit hb1))
        go_roundw
        case rel => exact ⟨k + 1, by omega, by go_num, HF.out.step HX.out HZ.out, below_step HB.out B1.out⟩
        case measure => simp [intOf]; omega
      · have HZ := Lib.hid hz
        obtain ⟨r, hr⟩ : ∃ r, r = dutE x := ⟨_, rfl⟩
        have HR := Lib.hid hr
        rw [← hr] at hz hcon
        have hne : (r != 0) = true := by simpa using hz
        have HC := Lib.hid hcon
        clear hz hcon hr
        go_wp2_with (go_at_call 58; refine (HC.out _).mono ?_; rintro e w1 ⟨rfl, hb1⟩; have B1 := Lib.hid (Below.lit hb1))
        go_ret
        exact ⟨ret_int (HR.out.trans (HF.out.err HX.out HZ.out).symm), below_step HB.out B1.out⟩
    · obtain rfl : k = n := by omega
      go_wp2
      go_ret
      exact ⟨ret_int (HF.out.all HL.out).symm, HB.out⟩

theorem target_any {R : Nat → Prop} {A : Option Addr} {n c : Nat} {l : Tgt} (w : World) (h : Tg w R A n c l) :
    Calls Tryd.prog 41 #[.slice A n c] w fun e w' => e = .returned (.int .i64 (tgE l)) ∧ Below w.heap.size w w' := by
  have hle := Rw.le h
  have hcap := Rw.cap h
  have HL := Lib.hid (Rw.len h)
  unfold maxLen at hcap
  have H := Lib.hid h
  clear h
  by_cases h8 : 8 < n
  · have HE : Hid (tgE l = 6) := by
      show tgE l = _
      unfold tgE
      rw [HL.out, if_pos h8]
    have hb : (8 : Int) < (n : Int) := by omega
    go_enter Tryd.func41, Tryd.ntmps41
    go_wp2_with fail
    go_ret
    exact ⟨ret_int HE.out.symm, Below.refl _ _⟩
  · have HE : Hid (tgE l = firstE anyE l) := by
      show tgE l = _
      unfold tgE
      rw [HL.out, if_neg h8]
    have hb : ¬ (8 : Int) < (n : Int) := by omega
    go_enter Tryd.func41, Tryd.ntmps41
    go_wp2_with (go_at_call 55; refine (each_anyOf H.out).mono ?_; rintro e w2 ⟨rfl, hb2⟩; have B2 := Lib.hid hb2)
    go_ret
    exact ⟨ret_int HE.out.symm, B2.out⟩

theorem obls_any {R : Nat → Prop} {A : Option Addr} {n c : Nat} {l : List Dut} (w : World) (h : Dus w R A n c l) :
    Calls Tryd.prog 42 #[.slice A n c] w fun e w' => e = .returned (.int .i64 (obE l)) ∧ Below w.heap.size w w' := by
  have hle := Rw.le h
  have hcap := Rw.cap h
  have HL := Lib.hid (Rw.len h)
  unfold maxLen at hcap
  have H := Lib.hid h
  clear h
  by_cases h8 : 8 < n
  · have HE : Hid (obE l = 6) := by
      show obE l = _
      unfold obE
      rw [HL.out, if_pos h8]
    have hb : (8 : Int) < (n : Int) := by omega
    go_enter Tryd.func42, Tryd.ntmps42
    go_wp2_with fail
    go_ret
    exact ⟨ret_int HE.out.symm, Below.refl _ _⟩
  · have HE : Hid (obE l = firstE dutE l) := by
      show obE l = _
      unfold obE
      rw [HL.out, if_neg h8]
    have hb : ¬ (8 : Int) < (n : Int) := by omega
    go_enter Tryd.func42, Tryd.ntmps42
    go_wp2_with (go_at_call 57; refine (each_duty H.out).mono ?_; rintro e w2 ⟨rfl, hb2⟩; have B2 := Lib.hid hb2)
    go_ret
    exact ⟨ret_int HE.out.symm, B2.out⟩

end Go.Proofs.YtdbnaaddocahpaaDoor
/- What was met on the way through a policy: the map of names, the count of rules (the project's walk). -/
namespace Go.Proofs.YtdbnaaddocahpaaDoor
set_option linter.unusedVariables false
open Go.RowKit Go.Maps

/-- How often was a name met? -/
def cnt (x : ByteArray) (l : List ByteArray) : Nat := l.countP fun y => decide (y = x)
theorem cnt_snoc (x : ByteArray) (l : List ByteArray) : cnt x (l ++ [x]) = cnt x l + 1 := by simp [cnt]
theorem cnt_other {x y : ByteArray} (h : y ≠ x) (l : List ByteArray) : cnt x (l ++ [y]) = cnt x l := by simp [cnt, h]
theorem cnt_le (x : ByteArray) (l : List ByteArray) : cnt x l ≤ l.length := List.countP_le_length
theorem cnt_met (x : ByteArray) : ∀ (l : List ByteArray), (cnt x l = 0) = (metB x l = false)
  | [] => by simp [cnt, metB]
  | y :: l => by
    have := cnt_met x l
    unfold cnt metB at this ⊢
    by_cases e : y = x
    · simp [e]
    · simp only [List.countP_cons, List.any_cons, e, decide_false, Bool.false_or, if_false, Nat.add_zero, Bool.false_eq_true]
      exact this

theorem law9 : Keyed Tryd.prog 9 := string_keyed Tryd.underlying9
theorem zero3 (w : World) : (zeroValue 3).run Tryd.prog w = .ok (.int .i64 0) w := by kernel_rfl

/-- Block B is the map of the names that were met: how often each. -/
def MapIs (w : World) (B : Nat) (ids : List ByteArray) : Prop :=
  ∃ D : DataW Unit, w.ownsMap Tryd.prog 9 (plainElem Tryd.prog 3) B ids.length D ∧ IsMap D ∧ ∀ x : ByteArray, D.atKey (.string x.data.toList) (.lit (.int .i64 0)) = .lit (.int .i64 (cnt x ids))
theorem MapIs.lt {w : World} {B : Nat} {ids : List ByteArray} (h : MapIs w B ids) : B < w.heap.size := by obtain ⟨D, h, _⟩ := h; exact h.lt
theorem MapIs.kept {w w' : World} {B : Nat} {ids : List ByteArray} {r : Nat} (h : MapIs w B ids) (ho : Only r w w') (hr : B ≠ r) : MapIs w' B ids := by
  obtain ⟨D, h1, h2, h3⟩ := h
  exact ⟨D, h1.kept ho (fun e => hr (Option.some.inj e)), h2, h3⟩
theorem MapIs.below {w w' : World} {B : Nat} {ids : List ByteArray} (h : MapIs w B ids) (ho : Below w.heap.size w w') : MapIs w' B ids :=
  h.kept (r := w.heap.size) (Only.of_below ho) (Nat.ne_of_lt h.lt)
theorem MapIs.made (w : World) : MapIs (w.alloc (.map #[] 0)) w.heap.size [] :=
  ⟨.map [], World.ownsMap_made _ _ _ _, isMap_empty, fun x => rfl⟩
theorem text_key {x y : ByteArray} (h : x ≠ y) : (Lit.string x.data.toList) ≠ .string y.data.toList := by
  intro e
  injection e with e
  exact h (text_eq e)

set_option maxRecDepth 100000 in
set_option maxHeartbeats 800000 in
theorem fresh_any {w : World} {g B : Nat} {ids : List ByteArray} {m : Value} (id : ByteArray) (hid : id.size ≤ maxLen) (hob : Ob w g 61 #[.map (some B), m]) (hmap : MapIs w B ids) (hgB : g ≠ B) (hlen : ids.length < 1000000) :
    Calls Tryd.prog 38 #[.pointer (some ⟨g, 0, none⟩), .string id] w fun e w' => e = .returned (.bool (decide (Named (bl id)) && !metB id ids)) ∧ Only B w w' ∧ MapIs w' B (ids ++ [id]) := by
  obtain ⟨D, hown, hD, hat0⟩ := hmap
  have hkey : keyOf Tryd.prog 9 (.string id) = some (.string id.data.toList) := WideMaps.keyOf_string_mk Tryd.underlying9 hid
  have HN := Lib.hid (name_any id hid)
  have hc0 := hob.cell 0
  have HC := Lib.hid (cnt_le id ids)
  have HM := Lib.hid (cnt_met id ids)
  have hc := hat0 id
  have HA0 := Lib.hid hat0
  have HD := Lib.hid hD
  have HB := Lib.hid hob
  have HK := Lib.hid hkey
  have HID := Lib.hid hid
  have hck : cnt id ids < 1000000 := by have := HC.out; omega
  clear hat0 hD hob hid
  obtain ⟨k, hk⟩ : ∃ k, k = cnt id ids := ⟨_, rfl⟩
  have HKK := Lib.hid hk
  rw [← hk] at hc hck
  have HAT := Lib.hid hc
  clear hc hk
  generalize hrb : decide (Named id.data.toList) = rb at *
  have HRB := Lib.hid hrb
  clear hrb
  have hputs : IsMap (D.put (.string id.data.toList) (.lit (.int .i64 ((k : Int) + 1)))) := HD.out.put _ _
  have hsame : (D.put (.string id.data.toList) (.lit (.int .i64 ((k : Int) + 1)))).atKey (.string id.data.toList) (.lit (.int .i64 0)) = .lit (.int .i64 ((k : Int) + 1)) := atKey_put_same HD.out (law9.key HK.out) _ _
  have HSAME := Lib.hid hsame
  have HPUT := Lib.hid hputs
  have hnew : ∀ x : ByteArray, (D.put (.string id.data.toList) (.lit (.int .i64 ((k : Int) + 1)))).atKey (.string x.data.toList) (.lit (.int .i64 0)) = .lit (.int .i64 (cnt x (ids ++ [id]))) := fun x => by
    by_cases e : x = id
    · subst e
      rw [HSAME.out, cnt_snoc, ← HKK.out]; simp
    · rw [atKey_put_other (text_key e), HA0.out x, cnt_other (Ne.symm e)]
  have HNEW := Lib.hid hnew
  clear hsame hputs hnew
  by_cases h0 : k = 0
  · have HR : Hid ((decide (Named (bl id)) && !metB id ids) = rb) := by
      have hm : metB id ids = false := by rw [← HM.out, ← HKK.out]; exact h0
      show (decide (Named id.data.toList) && !metB id ids) = rb
      rw [hm, HRB.out]; simp
    subst h0
    rw [show ((0 : Nat) : Int) + 1 = 1 from rfl] at HSAME HPUT HNEW
    rw [show ((0 : Nat) : Int) = 0 from rfl] at HAT
    go_enter Tryd.func38, Tryd.ntmps38
    go_wp2_with (first
      | (at_lookup; refine wpList_lookup_own_int _ rfl _ _ 59 rfl 9 3 .i64 law9 Tryd.underlying59 Tryd.underlying3 (zero3 _) B _ _ rfl hown _ _ rfl hkey ?_; intro c hat hwc; obtain rfl : c = 0 := by (rw [HAT.out] at hat; injection hat with h1; injection h1 with h2 h3; exact h3.symm))
      | (at_lookup; refine wpList_lookup_own_int _ rfl _ _ 59 rfl 9 3 .i64 law9 Tryd.underlying59 Tryd.underlying3 (zero3 _) B _ _ rfl hown1 _ _ rfl hkey ?_; intro c hat hwc; obtain rfl : c = 1 := by (rw [HSAME.out] at hat; injection hat with h1; injection h1 with h2 h3; exact h3.symm))
      | (at_mapUpdate; refine wpList_mapUpdate_own _ rfl _ _ _ 59 rfl 9 3 law9 Tryd.underlying59 _ B _ _ rfl hown (by unfold maxLen; omega) _ _ _ rfl rfl hkey _ [] (plainElem_int Tryd.underlying3 (a := 1) (WalkArith.wf_i64 (by omega))) ?_; intro w1 hown1 hgrow1; have hc1 := (Ob.keep HB.out (Only.heap hgrow1 HB.out.lt hgB)).cell 0)
      | (go_at_call 54; refine (HN.out _).mono ?_; rintro e w2 ⟨rfl, rfl⟩))
    go_ret
    exact ⟨ret_bool HR.out.symm, hgrow1, _, by rw [List.length_append]; exact hown1, HPUT.out, HNEW.out⟩
  · have HR : Hid ((decide (Named (bl id)) && !metB id ids) = false) := by
      have hm : metB id ids = true := by
        rw [← Bool.not_eq_false, ← HM.out, ← HKK.out]; exact h0
      show (decide (Named (bl id)) && !metB id ids) = false
      rw [hm]; simp
    have hne : ((k : Int) + 1 == 1) = false := by rw [beq_eq_false_iff_ne]; omega
    have H0 := Lib.hid h0
    clear h0
    go_enter Tryd.func38, Tryd.ntmps38
    go_wp2_with (first
      | (at_lookup; refine wpList_lookup_own_int _ rfl _ _ 59 rfl 9 3 .i64 law9 Tryd.underlying59 Tryd.underlying3 (zero3 _) B _ _ rfl hown _ _ rfl hkey ?_; intro c hat hwc; obtain rfl : c = (k : Int) := by (rw [HAT.out] at hat; injection hat with h1; injection h1 with h2 h3; exact h3.symm))
      | (at_lookup; refine wpList_lookup_own_int _ rfl _ _ 59 rfl 9 3 .i64 law9 Tryd.underlying59 Tryd.underlying3 (zero3 _) B _ _ rfl hown1 _ _ rfl hkey ?_; intro c hat hwc; obtain rfl : c = ((k : Int) + 1) := by (rw [HSAME.out] at hat; injection hat with h1; injection h1 with h2 h3; exact h3.symm))
      | (at_mapUpdate; refine wpList_mapUpdate_own _ rfl _ _ _ 59 rfl 9 3 law9 Tryd.underlying59 _ B _ _ rfl hown (by unfold maxLen; omega) _ _ _ rfl rfl hkey _ [] (plainElem_int Tryd.underlying3 (a := ((k : Int) + 1)) (WalkArith.wf_i64 (by omega))) ?_; intro w1 hown1 hgrow1; have hc1 := (Ob.keep HB.out (Only.heap hgrow1 HB.out.lt hgB)).cell 0)
      | (go_at_call 54; refine (HN.out _).mono ?_; rintro e w2 ⟨rfl, rfl⟩))
    go_ret
    exact ⟨ret_bool HR.out.symm, hgrow1, _, by rw [List.length_append]; exact hown1, HPUT.out, HNEW.out⟩
end Go.Proofs.YtdbnaaddocahpaaDoor
/- cmp.Or over errors; what a policy may have as what it is (the project's fits). -/
namespace Go.Proofs.YtdbnaaddocahpaaDoor
set_option linter.unusedVariables false
open Go.RowKit

def ev (l : List Int) : List Value := l.map (Value.int .i64)
theorem or2 (a b : Int) : firstE (fun x => x) [a, b] = orE a b := by
  unfold orE; simp only [firstE]
  by_cases ha : a = 0 <;> by_cases hb : b = 0 <;> simp [ha, hb]
theorem or3 (a b c : Int) : firstE (fun x => x) [a, b, c] = orE a (orE b c) := by
  unfold orE; simp only [firstE]
  by_cases ha : a = 0 <;> by_cases hb : b = 0 <;> by_cases hc : c = 0 <;> simp [ha, hb, hc]

set_option maxHeartbeats 800000 in
theorem or_any {w : World} {B n c : Nat} {A : Option Addr} {l : List Int} (h : Sl w B A n c (ev l)) (hn : n ≤ 1000) (hB : B ≤ w.heap.size) :
    Calls Tryd.prog 40 #[.slice A n c] w fun e w' => e = .returned (.int .i64 (firstE (fun x => x) l)) ∧ w' = w := by
  have HL : Hid (l.length = n) := by show l.length = n; have := h.1; simpa [ev] using this
  have hle := h.le
  have hcap := h.cap
  unfold maxLen at hcap
  have H := Lib.hid h
  clear h
  go_enter Tryd.func40, Tryd.ntmps40
  go_wp2
  go_loop [8] (fun i => ∃ k : Nat, k ≤ n ∧ i = .int .i64 k ∧ FineTo (fun x : Int => x) l k) (fun i => n - (intOf i).toNat)
  case atStart => exact ⟨0, Nat.zero_le _, rfl, FineTo.zero _ _⟩
  case round =>
    obtain ⟨k, hk, rfl, hf⟩ := hrel
    have HF := Lib.hid hf
    clear hf
    by_cases hlt : k < n
    · obtain ⟨b, o, u, rfl, hb, hu, hc⟩ := H.out.at_ hlt
      have hkl : k < l.length := by have := HL.out; omega
      have hx : l[k]? = some l[k] := List.getElem?_eq_getElem hkl
      have hu' : u = .int .i64 l[k] := by
        have : (ev l)[k]? = some (.int .i64 l[k]) := by simp [ev, hkl]
        rw [this] at hu
        exact (Option.some.inj hu).symm
      subst hu'
      have HX := Lib.hid hx
      generalize l[k] = x at *
      clear hu hx
      by_cases hz : x = 0
      · subst hz
        go_wp2_with fail
        go_round
        case rel => exact ⟨k + 1, by omega, by go_num, HF.out.step HX.out rfl⟩
        case measure => simp [intOf]; omega
      · have HZ := Lib.hid hz
        have hne : (x != 0) = true := by simpa using hz
        clear hz
        go_wp2_with fail
        go_ret
        exact ⟨ret_int (HF.out.err (f := fun x : Int => x) HX.out HZ.out).symm, rfl⟩
    · obtain rfl : k = n := by omega
      go_wp2
      go_ret
      exact ⟨ret_int (HF.out.all HL.out).symm, rfl⟩

def fitsN (set : Bool) (alg : Int) (nr nk : Nat) : Bool := decide (1 ≤ alg) && decide (alg ≤ 6) && if set = true then decide (nr = 0) else decide (nk = 0) && decide (alg ≠ 4)
theorem fits_eq (p : Pol) : fitsB p = fitsN p.set p.alg p.rules.length p.kids.length := rfl
set_option maxHeartbeats 800000 in
theorem fits_any (id : ByteArray) (set : Bool) (alg : Int) (A1 A2 A3 A4 : Option Addr) (n1 n2 n3 n4 c1 c2 c3 c4 : Nat) (w : World) :
    Calls Tryd.prog 39 #[.agg #[.string id, .bool set, .int .i64 alg, .slice A1 n1 c1, .slice A2 n2 c2, .slice A3 n3 c3, .slice A4 n4 c4]] w fun e w' => e = .returned (.bool (fitsN set alg n2 n3)) ∧ Below w.heap.size w w' := by
  have HE : Hid (fitsN set alg n2 n3 = (decide (1 ≤ alg) && decide (alg ≤ 6) && if set = true then decide (n2 = 0) else decide (n3 = 0) && decide (alg ≠ 4))) := rfl
  generalize fitsN set alg n2 n3 = r at *
  cases set
  all_goals
    go_enter Tryd.func39, Tryd.ntmps39
    go_wp2_with fail
    all_goals
      go_ret
      refine ⟨ret_bool ?_, (Below.refl _ _).alloc (Nat.le_refl _) _⟩
      rw [HE.out]
      clear HE
      rw [Bool.eq_iff_iff]
      simp only [Bool.and_eq_true, decide_eq_true_eq, beq_iff_eq, bne_iff_ne, if_true, if_false, Bool.false_eq_true, ne_eq]
      first | omega | (simp only [false_iff]; omega)
end Go.Proofs.YtdbnaaddocahpaaDoor
/- A region that draws its order, ends in a forced row of operations (stores), and ahead of them only reads and calls that lay new memory: walked once, in the order of the text; the tail is walked as any list, in every world of the class. -/
namespace Go.Proofs.YtdbnaaddocahpaaDoor
open Go Go.RowKit Go.Sort

section
variable {P : Program} {ops : Array Oper} {md : Region.Mode} {C : World → Prop}

/-- Whatever order is picked among the first n, till L. -/
def HeadQ (P : Program) (md : Region.Mode) (ops : Array Oper) (C : World → Prop) (n : Nat) (L : Array Bool → Act → Prop) : Nat → Array Bool → Act → Prop
  | 0, listed, a => L listed a
  | f + 1, listed, a => Region.ready md ops listed ≠ [] ∧ ∀ i ∈ Region.ready md ops listed, i < n ∧ qOp P ops C i (HeadQ P md ops C n L f (listed.setIfInBounds i true)) a

theorem HeadQ.any {n g : Nat} {L : Array Bool → Act → Prop} {Q : Exit → Act → World → Prop} (hL : ∀ listed a w, C w → L listed a → wpAny P md ops Q g listed a w) :
    ∀ (f : Nat) (listed : Array Bool) (a : Act) (w : World), C w → HeadQ P md ops C n L f listed a → wpAny P md ops Q (f + g) listed a w
  | 0, _, _, _, hw, h => by rw [Nat.zero_add]; exact hL _ _ _ hw h
  | f + 1, _, _, _, hw, h => by
    rw [show f + 1 + g = (f + g) + 1 by omega]
    exact ⟨fun h0 => absurd h0 h.1, fun i hi => wpOp_of_qOp hw (fun a' w' hw' h' => HeadQ.any hL f _ a' w' hw' h') (h.2 i hi).2⟩

theorem HeadQ.first {n i : Nat} {oi : Oper} {v : Value} {L : Array Bool → Act → Prop} (hi : ops[i]? = some oi) (hsel : ∀ (j : Nat) (o : Oper) cs b, ops[j]? = some o → o.op ≠ .select cs b)
    (hs : Region.sinkB md ops n = true) (hc : Region.chainB md ops n = true) (hn : n < ops.size) (hin : i < n) (hdone : ∀ listed a, L listed a → ∀ j ∈ Region.ready md ops listed, n ≤ j) :
    ∀ (f : Nat) (listed : Array Bool) (a : Act), HeadInv md ops n listed →
      (∀ j oj, ops[j]? = some oj → j ≠ i → listed.getD j true = false → (∀ e ∈ oj.after, Region.binds md e = true → e.on ≠ i) → oi.apart ops oj = true) →
      i ∈ Region.ready md ops listed → YieldsIn P ops C oi v a → HeadQ P md ops C n L f (listed.setIfInBounds i true) (a.put oi.dst v) → HeadQ P md ops C n L (f + 1) listed a := by
  intro f
  induction f with
  | zero =>
    intro listed a inv _ hr hy H
    refine ⟨fun h => (by rw [h] at hr; cases hr), fun j hj => ?_⟩
    have hjn : j < n := Nat.lt_of_not_le fun h => tail_waits hs hc hn inv _ i rfl hin (mem_ready.1 hr).1 j h hj
    refine ⟨hjn, ?_⟩
    by_cases hji : j = i
    · subst hji; exact hy.qOp hi H
    · have := hdone _ _ H j (ready_mono hj hji)
      omega
  | succ f ih =>
    intro listed a inv hfree hr hy H
    have hun := (mem_ready.1 hr).1
    refine ⟨fun h => (by rw [h] at hr; cases hr), fun j hj => ?_⟩
    have hjn : j < n := Nat.lt_of_not_le fun h => tail_waits hs hc hn inv _ i rfl hin hun j h hj
    refine ⟨hjn, ?_⟩
    by_cases hji : j = i
    · subst hji; exact hy.qOp hi H
    · have h1 := (H.2 j (ready_mono hj hji)).2
      obtain ⟨hjun, oj, hoj, hall⟩ := mem_ready.1 hj
      have hnot : ∀ e ∈ oj.after, Region.binds md e = true → e.on ≠ i := fun e he hb heq => by
        have h1 := hall e he hb
        rw [heq, getD_both hun] at h1
        cases h1
      have h2 := qOp_put hoj (hfree j oj hoj hji hjun hnot) (fun cs b => hsel i oi cs b hi) (fun cs b => hsel j oj cs b hoj) hy h1
      refine qOp_mono (fun a' h3 => ih (listed.setIfInBounds j true) a' (inv.set hj hjn) ?_ (ready_mono hr (Ne.symm hji)) h3.1 ?_) h2
      · intro k ok hk hki hun' hno
        refine hfree k ok hk hki ?_ hno
        by_cases hjk : j = k
        · subst hjk; exact hjun
        · rw [getD_set_ne true hjk] at hun'; exact hun'
      · rw [Array.setIfInBounds_comm _ _ hji]
        exact h3.2

theorem HeadQ.lex {n g : Nat} {Lq : Act → Prop} (hsel : Region.noSelect ops = true) (hs : Region.sinkB md ops n = true) (hc : Region.chainB md ops n = true) (hn : n < ops.size) :
    ∀ (l : List Oper) (k : Nat) (listed : Array Bool) (a : Act), (∀ j, j < l.length → l[j]? = ops[k + j]?) → k + l.length = n → HeadInv md ops n listed →
    Region.lexHead md ops g l.length k listed = true → wpQuiet P ops C Lq l a → HeadQ P md ops C n (fun listed' a' => Region.seqB md ops g n listed' = true ∧ Lq a') l.length listed a
  | [], k, listed, a, _, hk, _, hB, h => by
    have : k = n := by simpa using hk
    subst this
    exact ⟨by simpa [Region.lexHead] using hB, h⟩
  | o :: l, k, listed, a, hl, hk, inv, hB, h => by
    have h0 : ops[k]? = some o := by simpa using (hl 0 (by simp)).symm
    simp only [List.length_cons, Region.lexHead, Bool.and_eq_true] at hB
    obtain ⟨⟨hr, hf⟩, hB'⟩ := hB
    have hkn : k < n := by simp only [List.length_cons] at hk; omega
    have hr' : k ∈ Region.ready md ops listed := by simpa using hr
    have hst : qOp P ops C k (wpQuiet P ops C Lq l) a := by unfold qOp; simp only [h0]; exact h
    obtain ⟨v, hy, hK⟩ := yieldsIn_of_qOp h0 hst
    exact HeadQ.first h0 (Region.noSelect_spec hsel) hs hc hn hkn (fun listed' a' hL => seqB_ready hL.1) l.length listed a inv (Region.free_spec h0 hf) hr' hy
      (HeadQ.lex hsel hs hc hn l (k + 1) _ _ (fun j hj => by have := hl (j + 1) (by simp; omega); simpa [Nat.add_assoc, Nat.add_comm 1 j] using this) (by simp only [List.length_cons] at hk; omega) (inv.set hr' hkn) hB' hK)

theorem wp_region_quiet_tail {id : Nat} {Q : Exit → Act → World → Prop} {a : Act} {w : World} {l : List Oper} (n : Nat) (hm : P.follows .mixedOrders = true) (hB : Region.lexTailB .any l.toArray n = true) (hC : C { w with drawn := w.drawn + 1 })
    (h : wpQuiet P l.toArray C (fun a' => ∀ w', C w' → wpList P l.toArray Q (l.drop n) a' w') (l.take n) a) : (Code.region id l.toArray true).wp P Q a w := by
  simp only [Region.lexTailB, Bool.and_eq_true, decide_eq_true_eq] at hB
  obtain ⟨⟨⟨⟨hsel, hn⟩, hs⟩, hc⟩, hlex⟩ := hB
  have hn' : n < l.length := by simpa using hn
  have htl : (l.take n).length = n := by simp; omega
  have hdl : (l.drop n).length = l.toArray.size - n := by simp
  have inv0 : HeadInv .any l.toArray n (Array.replicate l.toArray.size false) :=
    ⟨by simp, fun j oj _ hl => (by rw [getD_replicate_false] at hl; cases hl), fun t _ ht => getD_in (by simpa using ht) (getD_replicate_false _ _)⟩
  have H := HeadQ.lex (md := .any) (g := l.toArray.size - n) hsel hs hc hn (l.take n) 0 _ a (fun j hj => by
    have hj' : j < n := by rw [htl] at hj; exact hj
    simp [hj']) (by simpa using htl) inv0 (by rw [htl]; exact hlex) h
  refine wp_region_any hm ?_
  have := HeadQ.any (Q := Q) (g := l.toArray.size - n) (fun listed a' w' hw' hL => by
    have := wpAny_of_seq (md := .any) (Q' := Q) (l.drop n) n listed a' w' (fun j => by simp [List.getElem?_drop]) (by rw [hdl]; exact hL.1) (hL.2 w' hw')
    rwa [hdl] at this) _ _ _ _ hC H
  rw [htl, show n + (l.toArray.size - n) = l.toArray.size by omega] at this
  exact this

/-- At the class of the worlds that have but grown. -/
theorem wp_region_below_tail {id : Nat} {Q : Exit → Act → World → Prop} {a : Act} {w : World} {l : List Oper} (n : Nat) (hm : P.follows .mixedOrders = true) (hB : Region.lexTailB .any l.toArray n = true)
    (h : wpQuiet P l.toArray (fun w' => ∃ p : Regrown, w' = grow (redrawn w p.d) p.os) (fun a' => ∀ w', (∃ p : Regrown, w' = grow (redrawn w p.d) p.os) → wpList P l.toArray Q (l.drop n) a' w') (l.take n) a) : (Code.region id l.toArray true).wp P Q a w :=
  wp_region_quiet_tail n hm hB ⟨⟨w.drawn + 1, #[]⟩, by rw [grow_empty]; rfl⟩ h
end
end Go.Proofs.YtdbnaaddocahpaaDoor
/- A rule on the way through a policy (the project's walk.rule, and each over rules). -/
namespace Go.Proofs.YtdbnaaddocahpaaDoor
set_option linter.unusedVariables false
open Go.RowKit Go.Sort

/-- Only blocks g and B, and what is new, have changed. -/
def Only2 (g B : Nat) (w w' : World) : Prop := w'.os = w.os ∧ w'.tape = w.tape ∧ w'.output = w.output ∧ w.heap.size ≤ w'.heap.size ∧ ∀ k, k < w.heap.size → k ≠ g → k ≠ B → w'.heap[k]? = w.heap[k]?
section
variable {g B : Nat} {w w' w'' : World}
theorem Only2.refl : Only2 g B w w := ⟨rfl, rfl, rfl, Nat.le_refl _, fun _ _ _ _ => rfl⟩
theorem Only2.trans (h : Only2 g B w w') (k : Only2 g B w' w'') : Only2 g B w w'' :=
  ⟨k.1.trans h.1, k.2.1.trans h.2.1, k.2.2.1.trans h.2.2.1, Nat.le_trans h.2.2.2.1 k.2.2.2.1, fun i hi h1 h2 => (k.2.2.2.2 i (Nat.lt_of_lt_of_le hi h.2.2.2.1) h1 h2).trans (h.2.2.2.2 i hi h1 h2)⟩
theorem Only2.of_B (h : Only B w w') : Only2 g B w w' := ⟨h.os, h.tape, h.output, h.size, fun k hk _ h2 => h.heap hk h2⟩
theorem Only2.of_g (h : Only g w w') : Only2 g B w w' := ⟨h.os, h.tape, h.output, h.size, fun k hk h1 _ => h.heap hk h1⟩
theorem Only2.of_below (h : Below w.heap.size w w') : Only2 g B w w' := ⟨h.os, h.tape, h.output, h.size, fun k hk _ _ => h.block k hk⟩
theorem Only2.size (h : Only2 g B w w') : w.heap.size ≤ w'.heap.size := h.2.2.2.1
theorem Only2.heap (h : Only2 g B w w') {k : Nat} (hk : k < w.heap.size) (h1 : k ≠ g) (h2 : k ≠ B) : w'.heap[k]? = w.heap[k]? := h.2.2.2.2 k hk h1 h2
theorem Only2.kept (h : Only2 g B w w') {R : Nat → Prop} (hR : ∀ b, R b → b ≠ g ∧ b ≠ B) : Kept R w w' := ⟨h.size, fun b hb hl => h.heap hl (hR b hb).1 (hR b hb).2⟩
theorem Only2.below (h : Only2 g B w w') {L : Nat} (hL : L ≤ w.heap.size) (h1 : L ≤ g) (h2 : L ≤ B) : Below L w w' :=
  ⟨h.1, h.2.1, h.2.2.1, h.size, fun k hk => h.heap (by omega) (by omega) (by omega)⟩
theorem Only2.alloc (o : Obj) : Only2 g B w (w.alloc o) := Only2.of_below ((Below.refl _ _).alloc (Nat.le_refl _) _)
end

/-- What the project knows of the way so far. -/
structure Wk (w : World) (g B : Nat) (s : Seen) : Prop where
  ob : Ob w g 61 #[.map (some B), .int .i64 s.n]
  map : MapIs w B s.ids
  ne : g ≠ B
  few : s.n ≤ s.ids.length
theorem Wk.below {w w' : World} {g B : Nat} {s : Seen} (h : Wk w g B s) (hb : Below w.heap.size w w') : Wk w' g B s :=
  ⟨h.ob.below hb h.ob.lt, h.map.below hb, h.ne, h.few⟩
theorem Wk.alloc {w : World} {g B : Nat} {s : Seen} (h : Wk w g B s) (o : Obj) : Wk (w.alloc o) g B s := h.below ((Below.refl _ _).alloc (Nat.le_refl _) _)
/-- What is known of it behind a call: in an error whatever was met. -/
def WkE (w : World) (g B : Nat) (z : Int × Seen) : Prop := ∃ s, Wk w g B s ∧ (z.1 = 0 → s = z.2)
theorem WkE.ok {w : World} {g B : Nat} {z : Int × Seen} (h : WkE w g B z) (h0 : z.1 = 0) : Wk w g B z.2 := by obtain ⟨s, h1, h2⟩ := h; exact h2 h0 ▸ h1
theorem idS_some {x : ByteArray} {s : Seen} (h : (decide (Named (bl x)) && !metB x s.ids) = true) : idS x s = some ⟨s.ids ++ [x], s.n⟩ := by
  simp at h
  unfold idS
  rw [if_pos h]
theorem idS_none {x : ByteArray} {s : Seen} (h : (decide (Named (bl x)) && !metB x s.ids) = false) : idS x s = none := by
  unfold idS
  rw [if_neg]
  rintro ⟨h1, h2⟩
  simp [h1, h2] at h

set_option maxRecDepth 100000 in
set_option maxHeartbeats 3200000 in
theorem rule_any {w : World} {g B : Nat} {s : Seen} {R : Nat → Prop} {r : Rul} {A1 A2 A3 : Option Addr} {n1 k1 n2 k2 n3 k3 : Nat} (hk : Wk w g B s) (hlen : s.ids.length < 900000) (hR : ∀ b, R b → b ≠ g ∧ b ≠ B)
    (hid : r.id.size ≤ maxLen) (h1 : Tg w R A1 n1 k1 r.tg) (h2 : Nds w R A2 n2 k2 r.cond) (h3 : Dus w R A3 n3 k3 r.ob) :
    Calls Tryd.prog 44 #[.pointer (some ⟨g, 0, none⟩), .agg #[.string r.id, .bool r.deny, .slice A1 n1 k1, .slice A2 n2 k2, .slice A3 n3 k3]] w
      fun e w' => e = .returned (.int .i64 (ruleS r s).1) ∧ Only2 g B w w' ∧ WkE w' g B (ruleS r s) := by
  obtain ⟨id, dn, tg, cond, ob⟩ := r
  simp only at hid h1 h2 h3 ⊢
  have HW := Lib.hid hk
  have H1 := Lib.hid h1
  have H2 := Lib.hid h2
  have H3 := Lib.hid h3
  have HRR := Lib.hid hR
  have hkeep0 := hk.alloc (.cells #[.string id, .bool dn, .slice A1 n1 k1, .slice A2 n2 k2, .slice A3 n3 k3] 37)
  have HF := Lib.hid (fresh_any id hid hkeep0.ob hkeep0.map hkeep0.ne (by omega))
  have HW0 := Lib.hid hkeep0
  have hfew := hk.few
  have hgl : g < w.heap.size := hk.ob.lt
  have hBl : B < w.heap.size := hk.map.lt
  have hne := hk.ne
  clear hk hkeep0 h1 h2 h3 hR
  by_cases hfr : (decide (Named (bl id)) && !metB id s.ids) = true
  · rw [hfr] at HF
    have HE : Hid (ruleS ⟨id, dn, tg, cond, ob⟩ s = if 64 < s.n + 1 then (6, ⟨s.ids ++ [id], s.n + 1⟩) else (orE (tgE tg) (orE (exprE cond) (obE ob)), ⟨s.ids ++ [id], s.n + 1⟩)) := by
      show ruleS ⟨id, dn, tg, cond, ob⟩ s = _
      unfold ruleS
      simp only [idS_some hfr]
    clear hfr
    generalize ruleS ⟨id, dn, tg, cond, ob⟩ s = z at *
    go_enter Tryd.func44, Tryd.ntmps44
    by_cases h64 : 64 < s.n + 1
    · go_wp2_with (first
        | (go_at_call 38; refine HF.out.mono ?_; rintro e w1 ⟨rfl, hb1, hm1⟩; have O1 := Lib.hid (Ob.keep HW0.out.ob (hb1.heap HW0.out.ob.lt hne)); have c1 := O1.out.cell 1; have f1 := O1.out.frozen 1))
      go_ret
      rw [HE.out, if_pos h64]
      refine ⟨rfl, ((Only2.alloc _).trans (Only2.of_B hb1)).trans (Only2.of_g (Only.refl.setCell rfl _)), ⟨s.ids ++ [id], s.n + 1⟩, ⟨O1.out.put 1 (.int .i64 ((s.n : Int) + 1)), ?_, hne, ?_⟩, fun h => by cases h⟩
      · exact hm1.kept (Only.refl.setCell (r := g) (p := ⟨g, 1, none⟩) rfl (.int .i64 ((s.n : Int) + 1))) (Ne.symm hne)
      · show s.n + 1 ≤ (s.ids ++ [id]).length
        rw [List.length_append, List.length_singleton]; omega
    · rw [if_neg h64] at HE
      go_wp2_with (first
        | (go_at_call 38; refine HF.out.mono ?_; rintro e w1 ⟨rfl, hb1, hm1⟩; have O1 := Lib.hid (Ob.keep HW0.out.ob (hb1.heap HW0.out.ob.lt hne)); have c1 := O1.out.cell 1; have f1 := O1.out.frozen 1))
      have O3 := Lib.hid (O1.out.put 1 (.int .i64 ((s.n : Int) + 1)))
      have M3 := Lib.hid (hm1.kept (Only.refl.setCell (r := g) (p := ⟨g, 1, none⟩) rfl (.int .i64 ((s.n : Int) + 1))) (Ne.symm hne))
      have G3 := Lib.hid (((Only2.alloc (g := g) (B := B) (w := w) (.cells #[.string id, .bool dn, .slice A1 n1 k1, .slice A2 n2 k2, .slice A3 n3 k3] 37)).trans (Only2.of_B hb1)).trans (Only2.of_g (Only.refl.setCell (r := g) (p := ⟨g, 1, none⟩) rfl (.int .i64 ((s.n : Int) + 1)))))
      have X3 := Lib.hid (show Ob (w1.setCell ⟨g, 1, none⟩ (.int .i64 ((s.n : Int) + 1))) w.heap.size 37 #[.string id, .bool dn, .slice A1 n1 k1, .slice A2 n2 k2, .slice A3 n3 k3] from
        Ob.keep (Ob.keep (Ob.made w _ _) (hb1.heap (by simp) (by omega))) (Below.heap_setCell _ _ _ _ (by simp; omega)))
      clear c1 f1 O1 hb1 hm1 HF HW0
      generalize w1.setCell ⟨g, 1, none⟩ (.int .i64 ((s.n : Int) + 1)) = W3 at *
      have K3 := Lib.hid (G3.out.kept HRR.out)
      have T1 := Lib.hid (H1.out.keep K3.out (fun _ h _ => h))
      have T2 := Lib.hid (H2.out.keep K3.out (fun _ h _ => h))
      have T3 := Lib.hid (H3.out.keep K3.out (fun _ h _ => h))
      have KK := Lib.hid (below_regrown W3)
      have Q1 : Hid (∀ d os, Calls Tryd.prog 41 #[.slice A1 n1 k1] (grow (redrawn W3 d) os) fun e w'' => e = .returned (.int .i64 (tgE tg)) ∧ ∃ p : Regrown, w'' = grow (redrawn W3 p.d) p.os) := fun d os => Calls.regrown_of (target_any _ (T1.out.keep (Kept.all (KK.out d os) R) (fun _ h _ => h)))
      have Q2 : Hid (∀ d os, Calls Tryd.prog 51 #[.slice A2 n2 k2] (grow (redrawn W3 d) os) fun e w'' => e = .returned (.int .i64 (exprE cond)) ∧ ∃ p : Regrown, w'' = grow (redrawn W3 p.d) p.os) := fun d os => Calls.regrown_of (expr_any _ (T2.out.keep (Kept.all (KK.out d os) R) (fun _ h _ => h)))
      have Q3 : Hid (∀ d os, Calls Tryd.prog 42 #[.slice A3 n3 k3] (grow (redrawn W3 d) os) fun e w'' => e = .returned (.int .i64 (obE ob)) ∧ ∃ p : Regrown, w'' = grow (redrawn W3 p.d) p.os) := fun d os => Calls.regrown_of (obls_any _ (T3.out.keep (Kept.all (KK.out d os) R) (fun _ h _ => h)))
      have x2 := fun d os => cell_regrown (X3.out.cell 2) d os
      have x3 := fun d os => cell_regrown (X3.out.cell 3) d os
      have x4 := fun d os => cell_regrown (X3.out.cell 4) d os
      have HOR := Lib.hid (or3 (tgE tg) (exprE cond) (obE ob))
      generalize tgE tg = a1 at *
      generalize exprE cond = a2 at *
      generalize obE ob = a3 at *
      refine wp_region_below_tail 9 (by kernel_rfl) (by kernel_rfl) ?_
      simp only [List.take_succ_cons, List.take_zero, List.drop_succ_cons, List.drop_zero]
      repeat (go_big_quiet_step ((first
        | (go_at_call 41; exact Q1.out _ _)
        | (go_at_call 51; exact Q2.out _ _)
        | (go_at_call 42; exact Q3.out _ _))))
      refine wpQuiet_nil ?_
      intro _ hw'
      obtain ⟨⟨dq, osq⟩, hw''⟩ := hw'
      subst hw''
      have hbel := below_regrown W3 dq osq
      have O4 := Lib.hid (O3.out.below hbel O3.out.lt)
      have M4 := Lib.hid (M3.out.below hbel)
      have G4 := Lib.hid (G3.out.trans (Only2.of_below hbel))
      clear x2 x3 x4 hbel Q1 Q2 Q3 KK O3 M3 G3 K3 T1 T2 T3 X3
      dsimp only at O4 M4 G4 ⊢
      generalize grow (redrawn W3 dq) osq = W4 at *
      have HSL := Lib.hid (Sl.lit W4 47 (ev [a1, a2, a3]) 3 rfl (by simp [maxLen]))
      go_wp2_with (first
        | (go_at_call 40; refine (or_any (l := [a1, a2, a3]) HSL.out (by omega) (by simp)).mono ?_; rintro e w5 ⟨rfl, rfl⟩))
      go_ret
      rw [HE.out]
      refine ⟨by rw [HOR.out]; rfl, G4.out.trans (Only2.alloc _), ⟨s.ids ++ [id], s.n + 1⟩, ⟨?_, ?_, hne, ?_⟩, fun _ => rfl⟩
      · exact (O4.out.keep (Below.heap_alloc _ _ _ O4.out.lt))
      · exact M4.out.below ((Below.refl _ _).alloc (Nat.le_refl _) _)
      · show s.n + 1 ≤ (s.ids ++ [id]).length
        rw [List.length_append, List.length_singleton]; omega
  · rw [Bool.not_eq_true] at hfr
    rw [hfr] at HF
    have HE : Hid (ruleS ⟨id, dn, tg, cond, ob⟩ s = (1, s)) := by
      show ruleS ⟨id, dn, tg, cond, ob⟩ s = _
      unfold ruleS
      simp only [idS_none hfr]
    clear hfr
    generalize ruleS ⟨id, dn, tg, cond, ob⟩ s = z at *
    go_enter Tryd.func44, Tryd.ntmps44
    go_wp2_with (first
      | (go_at_call 38; refine HF.out.mono ?_; rintro e w1 ⟨rfl, hb1, hm1⟩))
    go_ret
    rw [HE.out]
    exact ⟨rfl, (Only2.alloc _).trans (Only2.of_B hb1), ⟨s.ids ++ [id], s.n⟩, ⟨HW0.out.ob.keep (hb1.heap HW0.out.ob.lt hne), hm1, hne, by show s.n ≤ (s.ids ++ [id]).length; rw [List.length_append, List.length_singleton]; omega⟩, fun h => by cases h⟩

theorem firstS_app {α : Type} (f : α → Seen → Int × Seen) : ∀ (l m : List α) (s : Seen), firstS f (l ++ m) s = if (firstS f l s).1 ≠ 0 then firstS f l s else firstS f m (firstS f l s).2
  | [], m, s => by simp [firstS]
  | x :: l, m, s => by
    simp only [List.cons_append, firstS]
    by_cases h : (f x s).1 = 0
    · simp only [h, ne_eq, not_true, if_false]
      exact firstS_app f l m (f x s).2
    · simp [h]
/-- So far without an error, and this was met. -/
def StTo {α : Type} (f : α → Seen → Int × Seen) (l : List α) (s0 : Seen) (k : Nat) (s : Seen) : Prop := firstS f (l.take k) s0 = (0, s)
section
variable {α : Type} {f : α → Seen → Int × Seen} {l : List α} {s0 s : Seen} {k : Nat} {x : α}
theorem StTo.zero (f : α → Seen → Int × Seen) (l : List α) (s0 : Seen) : StTo f l s0 0 s0 := rfl
theorem StTo.step (h : StTo f l s0 k s) (hx : l[k]? = some x) (h0 : (f x s).1 = 0) : StTo f l s0 (k + 1) (f x s).2 := by
  unfold StTo at h ⊢
  rw [take_next hx, firstS_app, h]
  simp only [ne_eq, not_true, if_false, firstS, h0]
theorem StTo.err (h : StTo f l s0 k s) (hx : l[k]? = some x) (h0 : (f x s).1 ≠ 0) : firstS f l s0 = f x s := by
  have e : firstS f (l.take (k + 1)) s0 = f x s := by
    unfold StTo at h
    rw [take_next hx, firstS_app, h]
    simp [firstS, h0]
  rw [← List.take_append_drop (k + 1) l, firstS_app, e, if_pos h0]
theorem StTo.all {n : Nat} (h : StTo f l s0 n s) (hn : l.length = n) : firstS f l s0 = (0, s) := by
  unfold StTo at h
  rwa [List.take_of_length_le (by omega)] at h
end
theorem idS_ids {x : ByteArray} {s s1 : Seen} (h : idS x s = some s1) : s1.ids.length = s.ids.length + 1 := by
  unfold idS at h
  split at h
  · obtain rfl := Option.some.inj h; simp
  · cases h
theorem ruleS_ids (r : Rul) (s : Seen) : (ruleS r s).2.ids.length ≤ s.ids.length + 1 := by
  unfold ruleS
  split
  · exact Nat.le_succ _
  · rename_i s1 h
    have := idS_ids h
    split <;> (simp only; omega)

set_option maxHeartbeats 1600000 in
theorem each_rule {w : World} {g B : Nat} {s : Seen} {R : Nat → Prop} {A : Option Addr} {n c : Nat} {l : List Rul} (hk : Wk w g B s) (hlen : s.ids.length < 800000) (hn : n ≤ 1000) (hR : ∀ b, R b → b ≠ g ∧ b ≠ B) (h : Rus w R A n c l) :
    Calls Tryd.prog 43 #[.slice A n c, .func (.func 44) #[.pointer (some ⟨g, 0, none⟩)] #[]] w
      fun e w' => e = .returned (.int .i64 (firstS ruleS l s).1) ∧ Only2 g B w w' ∧ WkE w' g B (firstS ruleS l s) := by
  have hle := Rw.le h
  have hcap := Rw.cap h
  have HL := Lib.hid (Rw.len h)
  unfold maxLen at hcap
  have H := Lib.hid h
  have HW := Lib.hid hk
  have HRR := Lib.hid hR
  have HGL : Hid (g < w.heap.size ∧ B < w.heap.size) := ⟨hk.ob.lt, hk.map.lt⟩
  clear h hk hR
  go_enter Tryd.func43, Tryd.ntmps43
  go_wp2
  go_loopw [10] (fun i wr => ∃ (k : Nat) (s' : Seen), k ≤ n ∧ i = .int .i64 k ∧ StTo ruleS l s k s' ∧ s'.ids.length ≤ s.ids.length + k ∧ Wk wr g B s' ∧ Only2 g B w wr) (fun i _ => n - (intOf i).toNat)
  case atStart => exact ⟨0, s, Nat.zero_le _, rfl, StTo.zero _ _ _, Nat.le_refl _, HW.out, Only2.refl⟩
  case round =>
    obtain ⟨k, s', hk, rfl, hf, hids, hw, hb⟩ := hrel
    have HF := Lib.hid hf
    have HB := Lib.hid hb
    have HW' := Lib.hid hw
    have HI := Lib.hid hids
    clear hf hb hw hids
    by_cases hlt : k < n
    · obtain ⟨b, o, x, A1, n1, k1, A2, n2, k2, A3, n3, k3, rfl, hRb, hbl, hx, hid, ⟨c0, c1, c2, c3, c4⟩, h1, h2, h3⟩ := (H.out.keep (HB.out.kept HRR.out) (fun _ h _ => h)).at_ hlt
      have HX := Lib.hid hx
      have hka := Kept.all ((Below.refl _ wr).alloc (Nat.le_refl _) (.cells #[.string x.id, .bool x.deny, .slice A1 n1 k1, .slice A2 n2 k2, .slice A3 n3 k3] 37)) R
      have hcon := rule_any (HW'.out.alloc (.cells #[.string x.id, .bool x.deny, .slice A1 n1 k1, .slice A2 n2 k2, .slice A3 n3 k3] 37)) (by have := HI.out; omega) HRR.out hid (h1.keep hka (fun _ h _ => h)) (h2.keep hka (fun _ h _ => h)) (h3.keep hka (fun _ h _ => h))
      have HIX := Lib.hid (ruleS_ids x s')
      clear hx hka h1 h2 h3
      by_cases hz : (ruleS x s').1 = 0
      · have HZ := Lib.hid hz
        rw [hz] at hcon
        have HC := Lib.hid hcon
        clear hz hcon
        go_wp2_with (go_at_call 44; refine HC.out.mono ?_; rintro e w1 ⟨rfl, hb1, hw1⟩; have B1 := Lib.hid hb1; have W1 := Lib.hid (hw1.ok HZ.out))
        go_roundw
        case rel => exact ⟨k + 1, _, by omega, by go_num, HF.out.step HX.out HZ.out, by have := HI.out; have := HIX.out; omega, W1.out, HB.out.trans ((Only2.alloc _).trans B1.out)⟩
        case measure => simp [intOf]; omega
      · have HZ := Lib.hid hz
        obtain ⟨r, hr⟩ : ∃ r, r = ruleS x s' := ⟨_, rfl⟩
        have HR := Lib.hid hr
        rw [← hr] at hz hcon
        have hne : (r.1 != 0) = true := by simpa using hz
        have HC := Lib.hid hcon
        clear hcon hr
        clear hz
        go_wp2_with (go_at_call 44; refine HC.out.mono ?_; rintro e w1 ⟨rfl, hb1, hw1⟩; have B1 := Lib.hid hb1; have W1 := Lib.hid hw1; clear hw1)
        go_ret
        rw [HF.out.err HX.out HZ.out, ← HR.out]
        exact ⟨rfl, HB.out.trans ((Only2.alloc _).trans B1.out), W1.out⟩
    · obtain rfl : k = n := by omega
      go_wp2
      go_ret
      rw [HF.out.all HL.out]
      exact ⟨rfl, HB.out, s', HW'.out, fun _ => rfl⟩
end Go.Proofs.YtdbnaaddocahpaaDoor
/- A policy and its kids, on the way through (the project's walk.policy, its closure, each over policies). -/
namespace Go.Proofs.YtdbnaaddocahpaaDoor
set_option linter.unusedVariables false
open Go.RowKit Go.Sort

/-- How many names may be met at most. -/
def idsB : Nat → Nat
  | 0 => 0
  | d + 1 => 17 + 16 * idsB d
theorem firstS_ids {α : Type} {f : α → Seen → Int × Seen} {c : Nat} (hf : ∀ x s, (f x s).2.ids.length ≤ s.ids.length + c) : ∀ (l : List α) (s : Seen), (firstS f l s).2.ids.length ≤ s.ids.length + l.length * c
  | [], s => by simp [firstS]
  | x :: l, s => by
    have h1 := hf x s
    have h2 := firstS_ids hf l (f x s).2
    simp only [firstS, List.length_cons, Nat.add_mul, Nat.one_mul]
    split <;> omega
theorem polS_ids : ∀ (d : Nat) (p : Pol) (s : Seen), (polS d p s).2.ids.length ≤ s.ids.length + idsB d
  | 0, p, s => by simp [polS, idsB]
  | d + 1, p, s => by
    simp only [polS, idsB]
    split
    · simp only; omega
    · rename_i s1 h
      have h1 := idS_ids h
      split
      · simp only; omega
      split
      · simp only; omega
      split
      · simp only; omega
      rename_i hn
      have h2 := firstS_ids (c := 1) ruleS_ids p.rules s1
      have hr : p.rules.length ≤ 16 := by omega
      have hk : p.kids.length ≤ 16 := by omega
      split
      · omega
      have h3 := firstS_ids (c := idsB d) (polS_ids d) p.kids (firstS ruleS p.rules s1).2
      have h4 : p.kids.length * idsB d ≤ 16 * idsB d := Nat.mul_le_mul_right _ hk
      omega

/-- The project's walk over a policy, at a depth of which so many are left. -/
def PolOk (d : Nat) : Prop :=
  ∀ {w : World} {g B : Nat} {s : Seen} {R : Nat → Prop} {m : Nat} {p : Pol} {A1 A2 A3 A4 : Option Addr} {n1 k1 n2 k2 n3 k3 n4 k4 : Nat}, Wk w g B s → s.ids.length + idsB d < 800000 → (∀ b, R b → b ≠ g ∧ b ≠ B) →
    p.id.size ≤ maxLen → Tg w R A1 n1 k1 p.tg → Rus w R A2 n2 k2 p.rules → Pls w R m A3 n3 k3 p.kids → Dus w R A4 n4 k4 p.ob →
    Calls Tryd.prog 30 #[.pointer (some ⟨g, 0, none⟩), .agg #[.string p.id, .bool p.set, .int .i64 p.alg, .slice A1 n1 k1, .slice A2 n2 k2, .slice A3 n3 k3, .slice A4 n4 k4], .int .i64 (5 - (d : Int))] w
      fun e w' => e = .returned (.int .i64 (polS d p s).1) ∧ Only2 g B w w' ∧ WkE w' g B (polS d p s)

theorem pol_zero : PolOk 0 := by
  intro w g B s R m p A1 A2 A3 A4 n1 k1 n2 k2 n3 k3 n4 k4 hk _ _ _ _ _ _ _
  go_enter Tryd.func30, Tryd.ntmps30
  go_wp2_with fail
  go_ret
  exact ⟨rfl, ((Only2.alloc _).trans (Only2.alloc _)).trans (Only2.alloc _), s, ((hk.alloc _).alloc _).alloc _, fun h => by cases h⟩

set_option maxHeartbeats 800000 in
/-- The closure that goes one deeper. -/
theorem deeper_any {d : Nat} (ih : PolOk d) {w : World} {g B h3 h5 : Nat} {s : Seen} {R : Nat → Prop} {m : Nat} {p : Pol} {A1 A2 A3 A4 : Option Addr} {n1 k1 n2 k2 n3 k3 n4 k4 : Nat} (hd : d ≤ 4) (hk : Wk w g B s) (hlen : s.ids.length + idsB d < 800000) (hR : ∀ b, R b → b ≠ g ∧ b ≠ B)
    (hid : p.id.size ≤ maxLen) (h1 : Tg w R A1 n1 k1 p.tg) (h2 : Rus w R A2 n2 k2 p.rules) (h3' : Pls w R m A3 n3 k3 p.kids) (h4 : Dus w R A4 n4 k4 p.ob)
    (hp : Ob w h3 95 #[.pointer (some ⟨g, 0, none⟩)]) (hi : Ob w h5 3 #[.int .i64 (4 - (d : Int))]) :
    Calls Tryd.prog 46 #[.agg #[.string p.id, .bool p.set, .int .i64 p.alg, .slice A1 n1 k1, .slice A2 n2 k2, .slice A3 n3 k3, .slice A4 n4 k4], .pointer (some ⟨h3, 0, none⟩), .pointer (some ⟨h5, 0, none⟩)] w
      fun e w' => e = .returned (.int .i64 (polS d p s).1) ∧ Only2 g B w w' ∧ WkE w' g B (polS d p s) := by
  have c3 := hp.cell 0
  have c5 := hi.cell 0
  have l3 := hp.lt
  have l5 := hi.lt
  have hka := Kept.all ((Below.refl _ w).alloc (Nat.le_refl _) (.cells #[.string p.id, .bool p.set, .int .i64 p.alg, .slice A1 n1 k1, .slice A2 n2 k2, .slice A3 n3 k3, .slice A4 n4 k4] 43)) R
  have hcon := ih (hk.alloc (.cells #[.string p.id, .bool p.set, .int .i64 p.alg, .slice A1 n1 k1, .slice A2 n2 k2, .slice A3 n3 k3, .slice A4 n4 k4] 43)) hlen hR hid (h1.keep hka (fun _ h _ => h)) (h2.keep hka (fun _ h _ => h)) (h3'.keep hka (fun _ h _ => h)) (h4.keep hka (fun _ h _ => h))
  have hdd : (4 - (d : Int)) + 1 = 5 - (d : Int) := by omega
  have hd2 : -10 ≤ (4 - (d : Int)) ∧ (4 - (d : Int)) ≤ 4 := by omega
  rw [← hdd] at hcon
  have HC := Lib.hid hcon
  clear hcon hka hk hlen hR hid h1 h2 h3' h4 hp hi hdd ih
  generalize 4 - (d : Int) = q at *
  go_enter Tryd.func46, Tryd.ntmps46
  go_wp2_with (go_at_call 30; refine HC.out.mono ?_; rintro e w1 ⟨rfl, hb1, hw1⟩)
  go_ret
  exact ⟨rfl, (Only2.alloc _).trans hb1, hw1⟩

set_option maxHeartbeats 1600000 in
theorem each_pol {d : Nat} (ih : PolOk d) {w : World} {g B h3 h5 : Nat} {s : Seen} {R : Nat → Prop} {m : Nat} {A : Option Addr} {n c : Nat} {l : List Pol} (hd : d ≤ 4) (hk : Wk w g B s) (hlen : s.ids.length + n * idsB d < 800000) (hR : ∀ b, R b → b ≠ g ∧ b ≠ B)
    (hp : Ob w h3 95 #[.pointer (some ⟨g, 0, none⟩)]) (hi : Ob w h5 3 #[.int .i64 (4 - (d : Int))]) (hh : (h3 ≠ g ∧ h3 ≠ B) ∧ h5 ≠ g ∧ h5 ≠ B) (h : Pls w R m A n c l) :
    Calls Tryd.prog 45 #[.slice A n c, .func (.func 46) #[] #[.pointer (some ⟨h3, 0, none⟩), .pointer (some ⟨h5, 0, none⟩)]] w
      fun e w' => e = .returned (.int .i64 (firstS (polS d) l s).1) ∧ Only2 g B w w' ∧ WkE w' g B (firstS (polS d) l s) := by
  have hle := Rw.le h
  have hcap := Rw.cap h
  have HL := Lib.hid (Rw.len h)
  unfold maxLen at hcap
  have H := Lib.hid h
  have HW := Lib.hid hk
  have HRR := Lib.hid hR
  have HP := Lib.hid hp
  have HII := Lib.hid hi
  have HH := Lib.hid hh
  have HLEN := Lib.hid hlen
  clear h hk hR hp hi hh hlen
  go_enter Tryd.func45, Tryd.ntmps45
  go_wp2
  go_loopw [10] (fun i wr => ∃ (k : Nat) (s' : Seen), k ≤ n ∧ i = .int .i64 k ∧ StTo (polS d) l s k s' ∧ s'.ids.length ≤ s.ids.length + k * idsB d ∧ Wk wr g B s' ∧ Only2 g B w wr) (fun i _ => n - (intOf i).toNat)
  case atStart => exact ⟨0, s, Nat.zero_le _, rfl, StTo.zero _ _ _, by omega, HW.out, Only2.refl⟩
  case round =>
    obtain ⟨k, s', hk, rfl, hf, hids, hw, hb⟩ := hrel
    have HF := Lib.hid hf
    have HB := Lib.hid hb
    have HW' := Lib.hid hw
    have HI := Lib.hid hids
    clear hf hb hw hids
    by_cases hlt : k < n
    · obtain ⟨b, o, x, m', A1, n1, k1, A2, n2, k2, A3, n3, k3, A4, n4, k4, rfl, hRb, hbl, hx, hm, ⟨hid, halg⟩, ⟨c0, c1, c2, c3, c4, c5, c6⟩, h1, h2, h3', h4⟩ := (H.out.keep (HB.out.kept HRR.out) (fun _ h _ => h)).at_ hlt
      have HX := Lib.hid hx
      have hbel := (Below.refl _ wr).alloc (Nat.le_refl _) (.cells #[.string x.id, .bool x.set, .int .i64 x.alg, .slice A1 n1 k1, .slice A2 n2 k2, .slice A3 n3 k3, .slice A4 n4 k4] 43)
      have hka := Kept.all hbel R
      have hp' := (HP.out.keep (HB.out.heap HP.out.lt HH.out.1.1 HH.out.1.2))
      have hi' := (HII.out.keep (HB.out.heap HII.out.lt HH.out.2.1 HH.out.2.2))
      have hlen' : s'.ids.length + idsB d < 800000 := by
        have e1 := HI.out
        have e2 := HLEN.out
        have e3 : (k + 1) * idsB d ≤ n * idsB d := Nat.mul_le_mul_right _ hlt
        rw [Nat.add_mul, Nat.one_mul] at e3
        omega
      have hcon := deeper_any ih hd (HW'.out.alloc (.cells #[.string x.id, .bool x.set, .int .i64 x.alg, .slice A1 n1 k1, .slice A2 n2 k2, .slice A3 n3 k3, .slice A4 n4 k4] 43)) hlen' HRR.out hid (h1.keep hka (fun _ h _ => h)) (h2.keep hka (fun _ h _ => h)) (h3'.keep hka (fun _ h _ => h)) (h4.keep hka (fun _ h _ => h))
        (hp'.below hbel hp'.lt) (hi'.below hbel hi'.lt)
      have HIX := Lib.hid (polS_ids d x s')
      have HRel : Hid ((k + 1) * idsB d = k * idsB d + idsB d) := by show (k + 1) * idsB d = _; rw [Nat.add_mul, Nat.one_mul]
      clear hx hka h1 h2 h3' h4 hbel hp' hi' hlen' halg hid hm
      by_cases hz : (polS d x s').1 = 0
      · have HZ := Lib.hid hz
        rw [hz] at hcon
        have HC := Lib.hid hcon
        clear hz hcon
        go_wp2_with (go_at_call 46; refine HC.out.mono ?_; rintro e w1 ⟨rfl, hb1, hw1⟩; have B1 := Lib.hid hb1; have W1 := Lib.hid (hw1.ok HZ.out))
        go_roundw
        case rel => exact ⟨k + 1, _, by omega, by go_num, HF.out.step HX.out HZ.out, by have := HI.out; have := HIX.out; have := HRel.out; omega, W1.out, HB.out.trans ((Only2.alloc _).trans B1.out)⟩
        case measure => simp [intOf]; omega
      · have HZ := Lib.hid hz
        obtain ⟨r, hr⟩ : ∃ r, r = polS d x s' := ⟨_, rfl⟩
        have HR := Lib.hid hr
        rw [← hr] at hz hcon
        have hne : (r.1 != 0) = true := by simpa using hz
        have HC := Lib.hid hcon
        clear hcon hr
        clear hz
        go_wp2_with (go_at_call 46; refine HC.out.mono ?_; rintro e w1 ⟨rfl, hb1, hw1⟩; have B1 := Lib.hid hb1; have W1 := Lib.hid hw1; clear hw1)
        go_ret
        rw [HF.out.err HX.out HZ.out, ← HR.out]
        exact ⟨rfl, HB.out.trans ((Only2.alloc _).trans B1.out), W1.out⟩
    · obtain rfl : k = n := by omega
      go_wp2
      go_ret
      rw [HF.out.all HL.out]
      exact ⟨rfl, HB.out, s', HW'.out, fun _ => rfl⟩
end Go.Proofs.YtdbnaaddocahpaaDoor
/- bailiffkeep: how much of a policy may be gone through: takes, text, obls, target. -/
namespace Go.Proofs.YtdbnaaddocahpaaDoor
set_option linter.unusedVariables false
open Go.RowKit

/-- What is left. -/
def Lf (w : World) (g m : Nat) : Prop := Ob w g 58 #[.int .i64 (m : Int)]
/-- A call that takes so much of it. -/
def Taking (f : FuncId) (args : Array Value) (w : World) (g m c : Nat) : Prop :=
  Calls Tryd.prog f args w fun e w' => e = .returned (.bool (decide (c ≤ m))) ∧ Only g w w' ∧ (c ≤ m → Lf w' g (m - c))
theorem Only.kept {g : Nat} {w w' : World} (h : Only g w w') {R : Nat → Prop} (hR : ∀ b, R b → b ≠ g) : Kept R w w' := ⟨h.le, fun b hb hl => h.heap hl (hR b hb)⟩
theorem Only.alloc (g : Nat) (w : World) (o : Obj) : Only g w (w.alloc o) := Only.of_below ((Below.refl _ _).alloc (Nat.le_refl _) _)

theorem takes_any {w : World} {g m n : Nat} (hl : Lf w g m) (hm : m ≤ 3000) (hn : n ≤ maxLen) : Taking 26 #[.pointer (some ⟨g, 0, none⟩), .int .i64 (n : Int)] w g m n := by
  unfold Taking
  have c0 := hl.cell 0
  have f0 := hl.frozen 0
  have HL := Lib.hid hl
  unfold maxLen at hn
  clear hl
  by_cases h : n ≤ m
  · have h' : ¬ (m : Int) < (n : Int) := by omega
    have e : (m : Int) - (n : Int) = ((m - n : Nat) : Int) := by omega
    have HD := Lib.hid h
    clear h
    go_enter Tryd.func26, Tryd.ntmps26
    go_wp2_with fail
    go_ret
    refine ⟨ret_bool (decide_eq_true HD.out).symm, Only.refl.setCell rfl _, fun _ => ?_⟩
    have := HL.out.put 0 (.int .i64 ((m - n : Nat) : Int))
    simpa [Lf] using this
  · have h' : (m : Int) < (n : Int) := by omega
    have HD := Lib.hid h
    clear h
    go_enter Tryd.func26, Tryd.ntmps26
    go_wp2_with fail
    go_ret
    exact ⟨ret_bool (decide_eq_false HD.out).symm, Only.refl, fun h => absurd h HD.out⟩

def textC (s : ByteArray) : Nat := 1 + s.size / 8
theorem ktext_any {w : World} {g m : Nat} (s : ByteArray) (hl : Lf w g m) (hm : m ≤ 3000) (hs : s.size ≤ maxLen) : Taking 27 #[.pointer (some ⟨g, 0, none⟩), .string s] w g m (textC s) := by
  unfold maxLen at hs
  have HT := Lib.hid (takes_any (n := textC s) hl hm (by unfold maxLen textC; omega))
  have e : ((textC s : Nat) : Int) = 1 + (s.size : Int) / 8 := by unfold textC; omega
  unfold Taking at HT ⊢
  rw [e] at HT
  clear hl e
  go_enter Tryd.func27, Tryd.ntmps27
  go_wp2_with (go_at_call 26; refine HT.out.mono ?_; rintro e w1 ⟨rfl, hb, hw⟩)
  go_ret
  exact ⟨rfl, hb, hw⟩

def sumC {α : Type} (f : α → Nat) : List α → Nat
  | [] => 0
  | x :: l => f x + sumC f l
theorem sumC_app {α : Type} (f : α → Nat) : ∀ (l m : List α), sumC f (l ++ m) = sumC f l + sumC f m
  | [], m => by simp [sumC]
  | x :: l, m => by simp only [List.cons_append, sumC, sumC_app f l m]; omega
theorem sumC_take {α : Type} {f : α → Nat} {l : List α} {k : Nat} {x : α} (h : l[k]? = some x) : sumC f (l.take (k + 1)) = sumC f (l.take k) + f x := by
  obtain ⟨hk, rfl⟩ := List.getElem?_eq_some_iff.1 h
  rw [List.take_succ_eq_append_getElem hk, sumC_app]
  rfl
theorem sumC_zero {α : Type} (f : α → Nat) (l : List α) : sumC f (l.take 0) = 0 := by simp [sumC]
theorem sumC_all {α : Type} {f : α → Nat} {l : List α} {n : Nat} (h : l.length = n) : sumC f (l.take n) = sumC f l := by rw [List.take_of_length_le (by omega)]
theorem sumC_le {α : Type} {f : α → Nat} {l : List α} {k : Nat} {x : α} (h : l[k]? = some x) : sumC f (l.take k) + f x ≤ sumC f l := by
  rw [← sumC_take h]
  have := sumC_app f (l.take (k + 1)) (l.drop (k + 1))
  rw [List.take_append_drop] at this
  omega
theorem sumC_mem {α : Type} {f : α → Nat} {l : List α} {x : α} (h : x ∈ l) : f x ≤ sumC f l := by
  obtain ⟨k, hk, rfl⟩ := List.getElem_of_mem h
  have := sumC_le (f := f) (List.getElem?_eq_getElem hk)
  omega
def dutC (o : Dut) : Nat := textC o.arg
def dutsC (l : List Dut) : Nat := l.length + sumC dutC l
def matC (m : Mat) : Nat := textC m.a.name + textC m.v.s
def allC (l : List Mat) : Nat := 1 + l.length + sumC matC l
def anyC (l : List (List Mat)) : Nat := 1 + l.length + sumC allC l
def tgC (t : Tgt) : Nat := 1 + t.length + sumC anyC t

theorem Lf.alloc {w : World} {g m : Nat} (h : Lf w g m) (o : Obj) : Lf (w.alloc o) g m := Ob.keep h (Below.heap_alloc w o g (Ob.lt h))

set_option maxHeartbeats 1600000 in
theorem kobls_any {w : World} {R : Nat → Prop} {g m n c : Nat} {A : Option Addr} {l : List Dut} (hl : Lf w g m) (hm : m ≤ 3000) (hR : ∀ b, R b → b ≠ g) (h : Dus w R A n c l) :
    Taking 29 #[.pointer (some ⟨g, 0, none⟩), .slice A n c] w g m (dutsC l) := by
  have hle := Rw.le h
  have hcap := Rw.cap h
  have HL := Lib.hid (Rw.len h)
  have HT := Lib.hid (takes_any (n := n) hl hm (by omega))
  have H := Lib.hid h
  have HR := Lib.hid hR
  have HM := Lib.hid hm
  unfold maxLen at hcap
  unfold Taking at HT ⊢
  have HC : Hid (dutsC l = n + sumC dutC l) := by show dutsC l = _; unfold dutsC; rw [HL.out]
  generalize hcc : dutsC l = cc at *
  clear hcc h hl hR hm
  by_cases h1 : n ≤ m
  · rw [decide_eq_true h1] at HT
    have H1 := Lib.hid h1
    clear h1
    go_enter Tryd.func29, Tryd.ntmps29
    go_wp2_with (go_at_call 26; refine HT.out.mono ?_; rintro e w1 ⟨rfl, hb, hw⟩; have B1 := Lib.hid hb; have W1 := Lib.hid (hw H1.out); clear hb hw)
    go_loopw [14] (fun i wr => ∃ k mk : Nat, k ≤ n ∧ i = .int .i64 k ∧ sumC dutC (l.take k) + mk = m - n ∧ Lf wr g mk ∧ Only g w wr) (fun i _ => n - (intOf i).toNat)
    case atStart => exact ⟨0, m - n, Nat.zero_le _, rfl, by rw [sumC_zero]; omega, W1.out, B1.out⟩
    case round =>
      obtain ⟨k, mk, hk, rfl, hs, hlf, hb⟩ := hrel
      have HS := Lib.hid hs
      have HB := Lib.hid hb
      have HF := Lib.hid hlf
      clear hs hb hlf
      by_cases hlt : k < n
      · obtain ⟨b, o, x, rfl, hRb, hbl, hx, hok, c0, c1, c2⟩ := (H.out.keep (HB.out.kept HR.out) (fun _ h _ => h)).at_ hlt
        have HX := Lib.hid hx
        have HXT := Lib.hid (ktext_any x.arg (HF.out.alloc (.cells #[.int .i64 x.on, .int .i64 x.kind, .string x.arg] 40)) (by have := HS.out; have := HM.out; omega) hok.2.2)
        unfold Taking at HXT
        clear hx hok
        by_cases h2 : textC x.arg ≤ mk
        · rw [decide_eq_true h2] at HXT
          have H2 := Lib.hid h2
          clear h2
          go_wp2_with (go_at_call 27; refine HXT.out.mono ?_; rintro e w2 ⟨rfl, hb, hw⟩; have B2 := Lib.hid hb; have W2 := Lib.hid (hw H2.out); clear hb hw)
          go_roundw
          case rel => exact ⟨k + 1, mk - textC x.arg, by omega, by go_num, by rw [sumC_take HX.out]; have := HS.out; have := H2.out; show _ + textC x.arg + _ = _; omega, W2.out, HB.out.trans ((Only.alloc _ _ _).trans B2.out)⟩
          case measure => simp [intOf]; omega
        · rw [decide_eq_false h2] at HXT
          have H2 := Lib.hid h2
          clear h2
          go_wp2_with (go_at_call 27; refine HXT.out.mono ?_; rintro e w2 ⟨rfl, hb, hw⟩; have B2 := Lib.hid hb; clear hb hw)
          go_ret
          have hbad : ¬ cc ≤ m := by
            have := sumC_le (f := dutC) HX.out
            have := HC.out; have := HS.out; have := H1.out; have := H2.out
            have e : dutC x = textC x.arg := rfl
            omega
          exact ⟨ret_bool (decide_eq_false hbad).symm, HB.out.trans ((Only.alloc _ _ _).trans B2.out), fun h => absurd h hbad⟩
      · obtain rfl : k = n := by omega
        go_wp2
        go_ret
        have hs := HS.out
        rw [sumC_all HL.out] at hs
        have := HC.out
        have := H1.out
        exact ⟨ret_bool (decide_eq_true (by omega)).symm, HB.out, fun _ => by rw [show m - cc = mk by omega]; exact HF.out⟩
  · rw [decide_eq_false h1] at HT
    have H1 := Lib.hid h1
    clear h1
    go_enter Tryd.func29, Tryd.ntmps29
    go_wp2_with (go_at_call 26; refine HT.out.mono ?_; rintro e w1 ⟨rfl, hb, hw⟩; have B1 := Lib.hid hb; clear hb hw)
    go_ret
    have hbad : ¬ cc ≤ m := by have := HC.out; have := H1.out; omega
    exact ⟨ret_bool (decide_eq_false hbad).symm, B1.out, fun h => absurd h hbad⟩
end Go.Proofs.YtdbnaaddocahpaaDoor
/- What a right policy's run leaves; a kid of it by itself (plain). -/
namespace Go.Proofs.YtdbnaaddocahpaaDoor
set_option linter.unusedVariables false

/-- Fewer names met, fewer rules. -/
def Sub (t s : Seen) : Prop := (∀ x, metB x t.ids = true → metB x s.ids = true) ∧ t.n ≤ s.n
theorem metB_app (x : ByteArray) (l m : List ByteArray) : metB x (l ++ m) = (metB x l || metB x m) := by simp [metB, List.any_append]
theorem Sub.app {t s : Seen} (h : Sub t s) (add : List ByteArray) (m : Nat) : Sub ⟨t.ids ++ add, t.n + m⟩ ⟨s.ids ++ add, s.n + m⟩ := by
  refine ⟨fun x hx => ?_, by have := h.2; show t.n + m ≤ s.n + m; omega⟩
  rw [metB_app, Bool.or_eq_true] at hx ⊢
  exact hx.imp (h.1 x) id
/-- A run without an error adds the same names, as many rules, wherever fewer were met. -/
def Fine {α : Type} (f f' : α → Seen → Int × Seen) (x : α) : Prop := ∀ s s', f x s = (0, s') → ∃ add m, s' = ⟨s.ids ++ add, s.n + m⟩ ∧ ∀ t, Sub t s → f' x t = (0, ⟨t.ids ++ add, t.n + m⟩)
theorem fine_first {α : Type} {f f' : α → Seen → Int × Seen} (h : ∀ x, Fine f f' x) : ∀ (l : List α) s s', firstS f l s = (0, s') → ∃ add m, s' = ⟨s.ids ++ add, s.n + m⟩ ∧ ∀ t, Sub t s → firstS f' l t = (0, ⟨t.ids ++ add, t.n + m⟩)
  | [], s, s', e => by
    simp [firstS] at e
    subst e
    exact ⟨[], 0, by simp, fun t _ => by simp [firstS]⟩
  | x :: l, s, s', e => by
    simp only [firstS] at e
    split at e
    · rename_i h0
      rw [e] at h0
      exact absurd rfl h0
    · rename_i h0
      have h0 : (f x s).1 = 0 := by simpa using h0
      have e1 : f x s = (0, (f x s).2) := by rw [← h0]
      obtain ⟨a1, m1, r1, q1⟩ := h x s _ e1
      obtain ⟨a2, m2, r2, q2⟩ := fine_first h l _ _ e
      refine ⟨a1 ++ a2, m1 + m2, ?_, fun t ht => ?_⟩
      · rw [r2, r1]; simp [Nat.add_assoc]
      · simp only [firstS, q1 t ht, ne_eq, not_true, if_false]
        have hs := ht.app a1 m1
        rw [← r1] at hs
        rw [q2 _ hs]
        simp [Nat.add_assoc]
theorem idS_sub {x : ByteArray} {s t s1 : Seen} (h : idS x s = some s1) (hs : Sub t s) : idS x t = some ⟨t.ids ++ [x], t.n⟩ ∧ s1 = ⟨s.ids ++ [x], s.n⟩ := by
  unfold idS at h ⊢
  split at h
  · rename_i hc
    refine ⟨?_, (Option.some.inj h).symm⟩
    rw [if_pos]
    refine ⟨hc.1, ?_⟩
    cases hm : metB x t.ids with
    | false => rfl
    | true =>
      have := hs.1 x hm
      rw [hc.2] at this
      cases this
  · cases h
theorem fine_rule (r : Rul) : Fine ruleS ruleS r := by
  intro s s' h
  unfold ruleS at h
  cases hi : idS r.id s with
  | none => rw [hi] at h; simp at h
  | some s1 =>
    rw [hi] at h
    simp only at h
    split at h
    · simp at h
    · rename_i hn
      simp only [Prod.mk.injEq] at h
      have h1 := (idS_sub hi (t := s) ⟨fun _ h => h, Nat.le_refl _⟩).2
      subst h1
      refine ⟨[r.id], 1, h.2.symm, fun t ht => ?_⟩
      obtain ⟨e1, _⟩ := idS_sub hi ht
      unfold ruleS
      rw [e1]
      have hn' : ¬ 64 < t.n + 1 := by have := ht.2; simp only at hn; omega
      simp only [hn', if_false, h.1]
theorem fine_pol : ∀ (d d' : Nat), d ≤ d' → ∀ p, Fine (polS d) (polS d') p
  | 0, d', _, p => by intro s s' h; simp [polS] at h
  | d + 1, 0, hd, p => by omega
  | d + 1, d' + 1, hd, p => by
    intro s s' h
    simp only [polS] at h
    cases hi : idS p.id s with
    | none => rw [hi] at h; simp at h
    | some s1 =>
      rw [hi] at h
      simp only at h
      have h1 := (idS_sub hi (t := s) ⟨fun _ h => h, Nat.le_refl _⟩).2
      subst h1
      split at h
      · simp at h
      rename_i c1
      split at h
      · rename_i c2; simp only [Prod.mk.injEq] at h; exact absurd h.1 c2
      rename_i c2
      split at h
      · simp at h
      rename_i c3
      split at h
      · rename_i c4; rw [h] at c4; exact absurd rfl c4
      rename_i c4
      have c4' : (firstS ruleS p.rules ⟨s.ids ++ [p.id], s.n⟩).1 = 0 := by simpa using c4
      have e1 : firstS ruleS p.rules ⟨s.ids ++ [p.id], s.n⟩ = (0, (firstS ruleS p.rules ⟨s.ids ++ [p.id], s.n⟩).2) := by rw [← c4']
      obtain ⟨a1, m1, r1, q1⟩ := fine_first fine_rule _ _ _ e1
      obtain ⟨a2, m2, r2, q2⟩ := fine_first (fine_pol d d' (by omega)) _ _ _ h
      rw [r1] at r2 q2
      refine ⟨[p.id] ++ a1 ++ a2, m1 + m2, by rw [r2]; simp [Nat.add_assoc], fun t ht => ?_⟩
      obtain ⟨e2, _⟩ := idS_sub hi ht
      have ht1 : Sub ⟨t.ids ++ [p.id], t.n⟩ ⟨s.ids ++ [p.id], s.n⟩ := ht.app [p.id] 0
      have g1 := q1 _ ht1
      have g2 := q2 _ (ht1.app a1 m1)
      simp only [polS, e2, c1, if_false, c2, c3, g1, ne_eq, not_true, g2]
      simp [Nat.add_assoc]
theorem rule_n {r : Rul} {s s' : Seen} (h : ruleS r s = (0, s')) : s'.n = s.n + 1 ∧ s'.n ≤ 64 := by
  unfold ruleS at h
  cases hi : idS r.id s with
  | none => rw [hi] at h; simp at h
  | some s1 =>
    rw [hi] at h
    simp only at h
    have h1 := (idS_sub hi (t := s) ⟨fun _ h => h, Nat.le_refl _⟩).2
    split at h
    · simp at h
    · rename_i hn
      simp only [Prod.mk.injEq] at h
      rw [← h.2]
      subst h1
      exact ⟨rfl, Nat.le_of_not_lt hn⟩
theorem rules_n : ∀ {l : List Rul} {s s' : Seen}, firstS ruleS l s = (0, s') → s.n ≤ 64 → s'.n = s.n + l.length ∧ s'.n ≤ 64
  | [], s, s', h, hs => by simp [firstS] at h; subst h; simp; exact hs
  | r :: l, s, s', h, hs => by
    simp only [firstS] at h
    split at h
    · rename_i h0; rw [h] at h0; exact absurd rfl h0
    · rename_i h0
      have h0 : (ruleS r s).1 = 0 := by simpa using h0
      have e1 : ruleS r s = (0, (ruleS r s).2) := by rw [← h0]
      obtain ⟨a, b⟩ := rule_n e1
      obtain ⟨c, d⟩ := rules_n h b
      simp only [List.length_cons]
      omega
theorem pol_n : ∀ {d : Nat} {p : Pol} {s s' : Seen}, polS d p s = (0, s') → s.n ≤ 64 → s'.n ≤ 64
  | 0, p, s, s', h, _ => by simp [polS] at h
  | d + 1, p, s, s', h, hs => by
    simp only [polS] at h
    cases hi : idS p.id s with
    | none => rw [hi] at h; simp at h
    | some s1 =>
      rw [hi] at h
      simp only at h
      have h1 := (idS_sub hi (t := s) ⟨fun _ h => h, Nat.le_refl _⟩).2
      subst h1
      split at h
      · simp at h
      split at h
      · rename_i c2; simp only [Prod.mk.injEq] at h; exact absurd h.1 c2
      split at h
      · simp at h
      split at h
      · rename_i c4; rw [h] at c4; exact absurd rfl c4
      rename_i c4
      have c4' : (firstS ruleS p.rules ⟨s.ids ++ [p.id], s.n⟩).1 = 0 := by simpa using c4
      have e1 : firstS ruleS p.rules ⟨s.ids ++ [p.id], s.n⟩ = (0, (firstS ruleS p.rules ⟨s.ids ++ [p.id], s.n⟩).2) := by rw [← c4']
      have hr := (rules_n e1 hs).2
      have kids : ∀ (l : List Pol) (a b : Seen), firstS (polS d) l a = (0, b) → a.n ≤ 64 → b.n ≤ 64 := by
        intro l
        induction l with
        | nil => intro a b h ha; simp [firstS] at h; subst h; exact ha
        | cons x l ih =>
          intro a b h ha
          simp only [firstS] at h
          split at h
          · rename_i h0; rw [h] at h0; exact absurd rfl h0
          · rename_i h0
            have h0 : (polS d x a).1 = 0 := by simpa using h0
            have e1 : polS d x a = (0, (polS d x a).2) := by rw [← h0]
            exact ih _ _ h (pol_n e1 ha)
      exact kids _ _ _ h hr
/-- A policy that is right anywhere is right by itself, with as many rules. -/
theorem kid_alone {p : Pol} {s s' : Seen} (h : polS 3 p s = (0, s')) : rightE p = 0 ∧ s'.n = s.n + rulesN p := by
  obtain ⟨add, m, e, q⟩ := fine_pol 3 4 (by omega) p s s' h
  have := q ⟨[], 0⟩ ⟨fun x hx => by simp [metB] at hx, Nat.zero_le _⟩
  unfold rightE rulesN
  rw [this, e]
  simp
theorem kids_alone : ∀ {l : List Pol} {s s' : Seen}, firstS (polS 3) l s = (0, s') → (∀ k ∈ l, rightE k = 0) ∧ s'.n = s.n + sumC rulesN l
  | [], s, s', h => by simp [firstS] at h; subst h; simp [sumC]
  | x :: l, s, s', h => by
    simp only [firstS] at h
    split at h
    · rename_i h0; rw [h] at h0; exact absurd rfl h0
    · rename_i h0
      have h0 : (polS 3 x s).1 = 0 := by simpa using h0
      have e1 : polS 3 x s = (0, (polS 3 x s).2) := by rw [← h0]
      obtain ⟨a, b⟩ := kid_alone e1
      obtain ⟨c, d⟩ := kids_alone h
      refine ⟨fun k hk => ?_, by rw [d, b]; simp only [sumC]; omega⟩
      rcases List.mem_cons.1 hk with rfl | hk
      · exact a
      · exact c k hk
/-- What is known of a right policy. -/
theorem right_all {p : Pol} (h : rightE p = 0) : (∀ k ∈ p.kids, rightE k = 0) ∧ rulesN p = p.rules.length + sumC rulesN p.kids ∧ rulesN p ≤ 64 ∧ p.rules.length ≤ 16 ∧ p.kids.length ≤ 16 := by
  have e0 : polS (3 + 1) p ⟨[], 0⟩ = (0, (polS 4 p ⟨[], 0⟩).2) := by unfold rightE at h; rw [← h]
  have hn := pol_n e0 (Nat.zero_le _)
  unfold rulesN
  generalize (polS 4 p ⟨[], 0⟩).2 = s' at *
  rw [polS] at e0
  cases hi : idS p.id ⟨[], 0⟩ with
  | none => rw [hi] at e0; simp at e0
  | some s1 =>
    rw [hi] at e0
    simp only at e0
    have h1 := (idS_sub hi (t := ⟨[], 0⟩) ⟨fun _ h => h, Nat.le_refl _⟩).2
    subst h1
    split at e0
    · simp at e0
    split at e0
    · rename_i c2; simp only [Prod.mk.injEq] at e0; exact absurd e0.1 c2
    split at e0
    · simp at e0
    rename_i c3
    split at e0
    · rename_i c4; rw [e0] at c4; exact absurd rfl c4
    rename_i c4
    have c4' : (firstS ruleS p.rules ⟨[] ++ [p.id], 0⟩).1 = 0 := by simpa using c4
    have e1 : firstS ruleS p.rules ⟨[] ++ [p.id], 0⟩ = (0, (firstS ruleS p.rules ⟨[] ++ [p.id], 0⟩).2) := by rw [← c4']
    obtain ⟨r1, _⟩ := rules_n e1 (Nat.zero_le _)
    obtain ⟨k1, k2⟩ := kids_alone e0
    refine ⟨k1, ?_, hn, by omega, by omega⟩
    rw [k2, r1]
    simp
    rfl
end Go.Proofs.YtdbnaaddocahpaaDoor
/- Rules and policies as text, plainly: their tokens; what is read of them; a text says which policy it is of. -/
namespace Go.Proofs.YtdbnaaddocahpaaDoor
set_option linter.unusedVariables false

theorem cond_both {l : List Nod} (h : exprE l = 0) (hok : ∀ n ∈ l, n.ok) : ∃ z : List Tk, Wz (condW l) z ∧ (z = [] ∨ ∃ y, z = tName w_if :: y) ∧ ∀ zs m, Nx [w_if] zs → Nx [m_bang] zs → condR (St (z ++ zs) m) = (l, St zs m) := by
  by_cases hn : l = []
  · subst hn
    refine ⟨[], .nil, .inl rfl, fun zs m hi _ => ?_⟩
    unfold condR
    rw [List.nil_append, take_no hi]
    rfl
  · obtain ⟨t, hf, hb, hl, ht, h32⟩ := expr_tree h hn
    have hok' : ∀ n ∈ t.flat, n.ok := by rw [← hl]; exact hok
    have hw : condW l = [[105, 102], t.txt] := by
      unfold condW exprS
      rw [if_neg hn, if_pos ⟨hn, h⟩, ht]
    refine ⟨[tName w_if] ++ t.toks, ?_, .inr ⟨_, rfl⟩, fun zs m hi hb' => ?_⟩
    · rw [hw]
      exact .cons (one_name (nm := [105, 102]) (by decide)) (.one (one_tree hf hok'))
    · unfold condR
      rw [List.append_assoc, List.singleton_append, take_yes (i := 1) (by decide +kernel) (by decide)]
      simp only
      rw [if_neg (by decide)]
      have fl : ∀ t : Xt, t.flat.length ≤ t.toks.length := by
        intro t
        induction t with
        | leaf n => simp only [Xt.flat, Xt.toks]; split <;> simp [attrZ]
        | one n x ih => simp only [Xt.flat, Xt.toks, List.length_append, List.length_cons, List.length_nil]; omega
        | two n x y ih jh => simp only [Xt.flat, Xt.toks, List.length_append, List.length_cons, List.length_nil]; omega
      have := expr_read hf (t.toks ++ zs).length [] zs m (by rw [← hl]; simpa using h32) (by have := fl t; simp only [List.length_append]; omega) hb'
      rw [hb] at this
      have e : (St (t.toks ++ zs) m).rest.length = (t.toks ++ zs).length := rfl
      rw [e, this, ← hl]
      rfl

def Rul.oks (r : Rul) : Prop := Tgt.oks r.tg ∧ ∀ n ∈ r.cond, n.ok
def polOks : Nat → Pol → Prop
  | 0, _ => True
  | d + 1, p => Tgt.oks p.tg ∧ (∀ r ∈ p.rules, r.oks) ∧ ∀ k ∈ p.kids, polOks d k
/-- What is right of a rule by itself. -/
def Rul.fine (r : Rul) : Prop := Named (bl r.id) ∧ tgE r.tg = 0 ∧ exprE r.cond = 0 ∧ obE r.ob = 0
theorem Nx.word {ws : List ByteArray} {t : Tk} (h : seesR ws (St [t] 0) = 0) (zs : List Tk) : Nx ws (t :: zs) := h
theorem ob_no {l : List Dut} {zs : List Tk} {ws : List ByteArray} (h : seesR ws (St [tName w_on] 0) = 0) (hz : Nx ws zs) : Nx ws (l.flatMap dutZ ++ zs) := by
  cases l with
  | nil => exact hz
  | cons o l => exact h
theorem rule_both {r : Rul} (hf : r.fine) (hok : r.oks) : ∃ z : List Tk, One (rulT r) z ∧ (∀ zs m, ruleR (St (z ++ zs) m) = (r, St zs m)) ∧ (∀ zs, seesR [w_permit, w_deny] (St (z ++ zs) 0) ≠ 0) ∧ 1 ≤ z.length := by
  obtain ⟨hn, ht, hc, ho⟩ := hf
  obtain ⟨zc, wc, hzc, rc⟩ := cond_both hc hok.2
  have hw : Wz (rulW r) ([wTk (effW r.deny)] ++ ([tName r.id] ++ ((tgZ r.tg ++ zc) ++ r.ob.flatMap dutZ))) :=
    .cons (one_name (effW_named _)) (.cons (one_id hn) (((wz_tg ht hok.1).app wc).app (wz_ob ho)))
  refine ⟨_, hw.join.behind (c := 59) (by decide) Zx.m59, fun zs m => ?_, fun zs => ?_, by simp⟩
  · have e : (([wTk (effW r.deny)] ++ ([tName r.id] ++ ((tgZ r.tg ++ zc) ++ r.ob.flatMap dutZ))) ++ [tMark 59]) ++ zs = wTk (effW r.deny) :: tName r.id :: (tgZ r.tg ++ (zc ++ (r.ob.flatMap dutZ ++ tMark 59 :: zs))) := by simp
    have k1 : ∀ ws : List ByteArray, seesR ws (St [tName w_on] 0) = 0 → seesR ws (St [tMark 59] 0) = 0 → Nx ws (r.ob.flatMap dutZ ++ tMark 59 :: zs) := fun ws a b => ob_no a (Nx.word b _)
    have k3 : ∀ ws : List ByteArray, seesR ws (St [tName w_if] 0) = 0 → seesR ws (St [tName w_on] 0) = 0 → seesR ws (St [tMark 59] 0) = 0 → Nx ws (zc ++ (r.ob.flatMap dutZ ++ tMark 59 :: zs)) := by
      intro ws a b c
      rcases hzc with rfl | ⟨y, rfl⟩
      · exact k1 ws b c
      · exact a
    rw [e]
    unfold ruleR
    simp only
    rw [must_yes (t := wTk (effW r.deny)) (i := if r.deny = true then 2 else 1) (by cases r.deny <;> decide +kernel) (by split <;> decide)]
    simp only
    rw [name_read]
    simp only
    rw [target_read ht (k3 _ (by decide +kernel) (by decide +kernel) (by decide +kernel)) (k3 _ (by decide +kernel) (by decide +kernel) (by decide +kernel))]
    simp only
    rw [rc _ m (k1 _ (by decide +kernel) (by decide +kernel)) (k1 _ (by decide +kernel) (by decide +kernel))]
    simp only
    rw [ob_read ho (by simp) (Nx.word (by decide +kernel) _)]
    simp only
    rw [must_yes (i := 1) (by decide +kernel) (by decide)]
    obtain ⟨i, d, t, c, o⟩ := r
    cases d <;> rfl
  · show seesR _ (St (wTk (effW r.deny) :: _) 0) ≠ 0
    have : ∀ zs : List Tk, seesR [w_permit, w_deny] (St (wTk (effW r.deny) :: zs) 0) = if r.deny = true then 2 else 1 := by
      intro zs
      cases r.deny
      · show seesR _ (St [wTk (effW false)] 0) = _
        decide +kernel
      · show seesR _ (St [wTk (effW true)] 0) = _
        decide +kernel
    rw [this]
    split <;> decide
theorem rule_fine {r : Rul} {s s' : Seen} (h : ruleS r s = (0, s')) : r.fine ∧ s'.n = s.n + 1 ∧ s'.n ≤ 64 := by
  refine ⟨?_, rule_n h⟩
  unfold ruleS at h
  cases hi : idS r.id s with
  | none => rw [hi] at h; simp at h
  | some s1 =>
    rw [hi] at h
    simp only at h
    split at h
    · simp at h
    · simp only [Prod.mk.injEq] at h
      have h0 := h.1
      unfold orE at h0
      have hid : Named (bl r.id) := by
        unfold idS at hi
        split at hi
        · rename_i hh; exact hh.1
        · cases hi
      by_cases h1 : tgE r.tg = 0
      · by_cases h2 : exprE r.cond = 0
        · exact ⟨hid, h1, h2, by simpa [h1, h2] using h0⟩
        · exact absurd h0 (by simp [h1, h2])
      · exact absurd h0 (by simp [h1])
theorem first_cons {α : Type} {f : α → Seen → Int × Seen} {x : α} {l : List α} {s s' : Seen} (h : firstS f (x :: l) s = (0, s')) : ∃ s1, f x s = (0, s1) ∧ firstS f l s1 = (0, s') := by
  simp only [firstS] at h
  split at h
  · rename_i h0; rw [h] at h0; exact absurd rfl h0
  · rename_i h0
    have h0 : (f x s).1 = 0 := by simpa using h0
    exact ⟨(f x s).2, by rw [← h0], h⟩
theorem rules_both : ∀ {l : List Rul} {s s' : Seen}, firstS ruleS l s = (0, s') → (∀ r ∈ l, r.oks) → s.n ≤ 64 → s'.n = s.n + l.length ∧ s'.n ≤ 64 ∧
    ∃ z : List Tk, Wz (l.map rulT) z ∧ l.length ≤ z.length ∧ ∀ n acc zs, acc.length + l.length ≤ 16 → l.length < n → Nx [w_permit, w_deny] zs → rulesR n acc (St (z ++ zs) s.n) = (acc ++ l, St zs s'.n)
  | [], s, s', h, _, hs => by
    simp [firstS] at h
    subst h
    refine ⟨rfl, hs, [], .nil, Nat.le_refl _, fun n acc zs _ hn hx => ?_⟩
    cases n with
    | zero => simp at hn
    | succ n =>
      unfold rulesR
      rw [List.nil_append, if_pos (hx.at_ _), List.append_nil]
  | r :: l, s, s', h, hok, hs => by
    obtain ⟨s1, h1, h2⟩ := first_cons h
    obtain ⟨hf, hn1, h64⟩ := rule_fine h1
    obtain ⟨z1, o1, r1, e1, l1⟩ := rule_both hf (hok r (by simp))
    obtain ⟨q1, q2, z2, w2, l2, r2⟩ := rules_both h2 (fun x hx => hok x (by simp [hx])) h64
    refine ⟨by simp only [List.length_cons]; omega, q2, z1 ++ z2, ?_, by simp only [List.length_cons, List.length_append]; omega, fun n acc zs hl hn hx => ?_⟩
    · exact .cons o1 w2
    · cases n with
      | zero => simp at hn
      | succ n =>
        simp only [List.length_cons] at hl hn
        unfold rulesR
        rw [List.append_assoc, if_neg (show ¬ seesR [w_permit, w_deny] (St (z1 ++ (z2 ++ zs)) s.n) = 0 from e1 _)]
        simp only
        rw [most_no (n := (acc.length : Int) + 1) (l := 16) (by omega)]
        have em : metR (St (z1 ++ (z2 ++ zs)) s.n) = St (z1 ++ (z2 ++ zs)) s1.n := by rw [hn1]; rfl
        rw [em, most_no (by show ¬ (64 : Int) < (s1.n : Int); omega), r1]
        simp only
        rw [r2 n (acc ++ [r]) zs (by simp only [List.length_append, List.length_cons, List.length_nil]; omega) (by omega) hx, List.append_assoc]
        rfl
/-- What a right policy is of. -/
theorem pol_parts {d : Nat} {p : Pol} {s s' : Seen} (h : polS (d + 1) p s = (0, s')) : Named (bl p.id) ∧ fitsB p = true ∧ tgE p.tg = 0 ∧ obE p.ob = 0 ∧ (p.rules.length ≤ 16 ∧ p.kids.length ≤ 16) ∧
    ∃ s1 s2, s1.n = s.n ∧ firstS ruleS p.rules s1 = (0, s2) ∧ firstS (polS d) p.kids s2 = (0, s') := by
  simp only [polS] at h
  cases hi : idS p.id s with
  | none => rw [hi] at h; simp at h
  | some s1 =>
    rw [hi] at h
    simp only at h
    have h1 := (idS_sub hi (t := s) ⟨fun _ h => h, Nat.le_refl _⟩).2
    have hid : Named (bl p.id) := by
      unfold idS at hi
      split at hi
      · rename_i hh; exact hh.1
      · cases hi
    split at h
    · simp at h
    rename_i c1
    split at h
    · rename_i c2; simp only [Prod.mk.injEq] at h; exact absurd h.1 c2
    rename_i c2
    split at h
    · simp at h
    rename_i c3
    split at h
    · rename_i c4; rw [h] at c4; exact absurd rfl c4
    rename_i c4
    have c4' : (firstS ruleS p.rules s1).1 = 0 := by simpa using c4
    have e1 : firstS ruleS p.rules s1 = (0, (firstS ruleS p.rules s1).2) := by rw [← c4']
    have c2' : orE (tgE p.tg) (obE p.ob) = 0 := by simpa using c2
    unfold orE at c2'
    have ht : tgE p.tg = 0 := by
      by_cases h1 : tgE p.tg = 0
      · exact h1
      · rw [if_pos h1] at c2'; exact c2'
    have ho : obE p.ob = 0 := by rw [if_neg (by rw [ht]; simp)] at c2'; exact c2'
    exact ⟨hid, by simpa using c1, ht, ho, by omega, s1, _, by rw [h1], e1, h⟩
theorem fits_all {p : Pol} (h : fitsB p = true) : (p.alg = 1 ∨ p.alg = 2 ∨ p.alg = 3 ∨ p.alg = 4 ∨ p.alg = 5 ∨ p.alg = 6) ∧ (p.set = true → p.rules = []) ∧ (p.set = false → p.kids = []) := by
  unfold fitsB at h
  simp only [Bool.and_eq_true, decide_eq_true_eq] at h
  refine ⟨by omega, fun hs => ?_, fun hs => ?_⟩
  · have := h.2
    rw [if_pos hs, decide_eq_true_eq] at this
    exact List.length_eq_zero_iff.1 this
  · have := h.2
    rw [if_neg (by rw [hs]; simp), Bool.and_eq_true, decide_eq_true_eq] at this
    exact List.length_eq_zero_iff.1 this.1
theorem one_lb : One [123] [tMark 123] := one_mark Zx.m123
theorem one_rb : One [125] [tMark 125] := one_mark Zx.m125
def PolBoth (d : Nat) : Prop := ∀ {p : Pol} {s s' : Seen}, polS d p s = (0, s') → polOks d p → s.n ≤ 64 → s.n ≤ s'.n ∧ s'.n ≤ 64 ∧
    ∃ z : List Tk, Wz (polW d p) z ∧ 1 ≤ z.length ∧ (∀ zs, seesR [w_policy, w_set] (St (z ++ zs) 0) ≠ 0) ∧ ∀ zs, 1 ≤ zs.length → Nx [w_on] zs → polR (d + 1) (St (z ++ zs) s.n) = (p, St zs s'.n)
/-- What stands ahead of the rest where a policy ends. -/
theorem kids_both {d : Nat} (ih : PolBoth d) (hd : d ≤ 3) : ∀ {l : List Pol} {s s' : Seen}, firstS (polS d) l s = (0, s') → (∀ k ∈ l, polOks d k) → s.n ≤ 64 → s.n ≤ s'.n ∧ s'.n ≤ 64 ∧
    ∃ z : List Tk, Wz (l.map (polW d)).flatten z ∧ l.length ≤ z.length ∧ (z = [] ∨ ∀ zs, seesR [w_policy, w_set] (St (z ++ zs) 0) ≠ 0) ∧ ∀ n acc zs, acc.length + l.length ≤ 16 → l.length < n → 1 ≤ zs.length → Nx [w_policy, w_set] zs → Nx [w_on] zs → kidsR (polR (d + 1)) n acc (St (z ++ zs) s.n) = (acc ++ l, St zs s'.n)
  | [], s, s', h, _, hs => by
    simp [firstS] at h
    subst h
    refine ⟨Nat.le_refl _, hs, [], .nil, Nat.le_refl _, .inl rfl, fun n acc zs _ hn _ hx _ => ?_⟩
    cases n with
    | zero => simp at hn
    | succ n =>
      unfold kidsR
      rw [List.nil_append, if_pos (hx.at_ _), List.append_nil]
  | p :: l, s, s', h, hok, hs => by
    obtain ⟨s1, h1, h2⟩ := first_cons h
    obtain ⟨a1, a2, z1, w1, l1, e1, r1⟩ := ih h1 (hok p (by simp)) hs
    obtain ⟨b1, b2, z2, w2, l2, e2, r2⟩ := kids_both ih hd h2 (fun k hk => hok k (by simp [hk])) a2
    refine ⟨by omega, b2, z1 ++ z2, ?_, by simp only [List.length_cons, List.length_append]; omega, .inr fun zs => by rw [List.append_assoc]; exact e1 _, fun n acc zs hl hn hz hx ho => ?_⟩
    · rw [List.map_cons, List.flatten_cons]
      exact w1.app w2
    · cases n with
      | zero => simp at hn
      | succ n =>
        simp only [List.length_cons] at hl hn
        have ho2 : Nx [w_on] (z2 ++ zs) := by
          rcases e2 with rfl | e2
          · exact ho
          · have := e2 zs
            unfold Nx seesR
            unfold seesR at this
            split at this
            · rename_i hk
              rw [if_pos hk]
              have hd : (St (z2 ++ zs) 0).hd.s = w_policy ∨ (St (z2 ++ zs) 0).hd.s = w_set := by
                generalize (St (z2 ++ zs) 0).hd.s = x at this
                by_cases hp : x = w_policy
                · exact .inl hp
                · by_cases hq : x = w_set
                  · exact .inr hq
                  · simp [idxW, hp, hq] at this
              rcases hd with h | h <;> rw [h] <;> decide +kernel
            · exact absurd rfl this
        unfold kidsR
        rw [List.append_assoc, if_neg (show ¬ seesR [w_policy, w_set] (St (z1 ++ (z2 ++ zs)) s.n) = 0 from e1 _)]
        simp only
        rw [most_no (by omega), r1 (z2 ++ zs) (by simp only [List.length_append]; omega) ho2]
        simp only
        rw [r2 n (acc ++ [p]) zs (by simp only [List.length_append, List.length_cons, List.length_nil]; omega) (by omega) hz hx ho, List.append_assoc]
        rfl
theorem alg_read {n : Int} (h : n = 1 ∨ n = 2 ∨ n = 3 ∨ n = 4 ∨ n = 5 ∨ n = 6) (zs : List Tk) (m : Nat) : mustR w_algs (St (wTk (algW n) :: zs) m) = (n.toNat, St zs m) := by
  rcases h with rfl | rfl | rfl | rfl | rfl | rfl <;> exact must_yes (by decide +kernel) (by decide) zs m
theorem head_read (p : Pol) (zs : List Tk) (m : Nat) : mustR [w_policy, w_set] (St (wTk (headW p) :: zs) m) = (if p.set = true then 2 else 1, St zs m) := by
  unfold headW
  split
  · exact must_yes (by decide +kernel) (by decide) zs m
  · exact must_yes (by decide +kernel) (by decide) zs m
theorem pol_both : ∀ d : Nat, d ≤ 4 → PolBoth d
  | 0, _, p, s, s', h, _, _ => by
    simp [polS] at h
  | d + 1, hd, p, s, s', h, hok, hs => by
    obtain ⟨hid, hfit, ht, ho, ⟨h16, k16⟩, s1, s2, hs1, hr, hk⟩ := pol_parts h
    obtain ⟨hok1, hok2, hok3⟩ := hok
    obtain ⟨halg, hset, hpol⟩ := fits_all hfit
    obtain ⟨a1, a2, zr, wr, lr, rr⟩ := rules_both hr hok2 (by omega)
    obtain ⟨b1, b2, zk, wk, lk, ek, rk⟩ := kids_both (pol_both d (by omega)) (by omega) hk hok3 a2
    have hw : Wz (polW (d + 1) p) ([wTk (headW p)] ++ ([tName p.id] ++ ([wTk (algW p.alg)] ++ (((((tgZ p.tg ++ [tMark 123]) ++ zr) ++ zk) ++ [tMark 125]) ++ p.ob.flatMap dutZ)))) :=
      .cons (one_name (headW_named _)) (.cons (one_id hid) (.cons (one_name (algW_named _)) ((((((wz_tg ht hok1).app (.one one_lb)).app wr).app wk).app (.one one_rb)).app (wz_ob ho))))
    refine ⟨by omega, b2, _, hw, by simp, fun zs => ?_, fun zs hz hx => ?_⟩
    · have := head_read p zs 0
      show seesR _ (St (wTk (headW p) :: _) 0) ≠ 0
      have e : ∀ zs, seesR [w_policy, w_set] (St (wTk (headW p) :: zs) 0) = if p.set = true then 2 else 1 := by
        intro zs
        unfold headW
        split
        · show seesR _ (St [wTk [115, 101, 116]] 0) = _
          decide +kernel
        · show seesR _ (St [wTk [112, 111, 108, 105, 99, 121]] 0) = _
          decide +kernel
      rw [e]
      split <;> decide
    · have e : ([wTk (headW p)] ++ ([tName p.id] ++ ([wTk (algW p.alg)] ++ (((((tgZ p.tg ++ [tMark 123]) ++ zr) ++ zk) ++ [tMark 125]) ++ p.ob.flatMap dutZ)))) ++ zs =
          wTk (headW p) :: tName p.id :: wTk (algW p.alg) :: (tgZ p.tg ++ tMark 123 :: (zr ++ (zk ++ tMark 125 :: (p.ob.flatMap dutZ ++ zs)))) := by simp
      rw [e]
      have hin : inR (d + 1) (if p.set = true then 2 else 1) (St (zr ++ (zk ++ tMark 125 :: (p.ob.flatMap dutZ ++ zs))) s.n) = (p.rules, p.kids, St (tMark 125 :: (p.ob.flatMap dutZ ++ zs)) s'.n) := by
        unfold inR
        cases hps : p.set with
        | true =>
          have hr0 := hset hps
          rw [hr0] at wr hr a1
          have : zr = [] := by
            have e0 : ([] : List Rul).map rulT = [] := rfl
            rw [e0] at wr
            cases wr
            rfl
          subst this
          simp only [if_true, List.nil_append]
          have hs2 : s2.n = s.n := by rw [a1]; simp; exact hs1
          have := rk (zk ++ tMark 125 :: (p.ob.flatMap dutZ ++ zs)).length [] (tMark 125 :: (p.ob.flatMap dutZ ++ zs)) (by simpa using k16) (by simp only [List.length_append, List.length_cons]; omega) (by simp) (nx_of (by decide +kernel) _) (nx_of (by decide +kernel) _)
          rw [hs2] at this
          have e1 : (St (zk ++ tMark 125 :: (p.ob.flatMap dutZ ++ zs)) s.n).rest.length = (zk ++ tMark 125 :: (p.ob.flatMap dutZ ++ zs)).length := rfl
          rw [e1, this, hr0]
          rfl
        | false =>
          have hk0 := hpol hps
          rw [hk0] at wk hk
          have : zk = [] := by
            have e0 : (([] : List Pol).map (polW d)).flatten = [] := rfl
            rw [e0] at wk
            cases wk
            rfl
          subst this
          simp [firstS] at hk
          subst hk
          simp only [Bool.false_eq_true, if_false, List.nil_append]
          rw [if_neg (by decide)]
          have := rr (zr ++ tMark 125 :: (p.ob.flatMap dutZ ++ zs)).length [] (tMark 125 :: (p.ob.flatMap dutZ ++ zs)) (by simpa using h16) (by simp only [List.length_append, List.length_cons]; omega) (nx_of (by decide +kernel) _)
          rw [hs1] at this
          have e1 : (St (zr ++ tMark 125 :: (p.ob.flatMap dutZ ++ zs)) s.n).rest.length = (zr ++ tMark 125 :: (p.ob.flatMap dutZ ++ zs)).length := rfl
          rw [e1, this, hk0]
          rfl
      have hp := polR_eq (d + 1) (St (wTk (headW p) :: tName p.id :: wTk (algW p.alg) :: (tgZ p.tg ++ tMark 123 :: (zr ++ (zk ++ tMark 125 :: (p.ob.flatMap dutZ ++ zs))))) s.n)
        (most_no (by omega) _) (head_read p _ _) (name_read _ _ _) (alg_read halg _ _) (target_read ht (nx_of (by decide +kernel) _) (nx_of (by decide +kernel) _) _) (must_yes (t := tMark 123) (i := 1) (by decide +kernel) (by decide) _ _) hin (must_yes (t := tMark 125) (i := 1) (by decide +kernel) (by decide) _ _) (ob_read ho hz hx _)
      rw [hp]
      obtain ⟨i, st, al, tg, ru, ki, ob⟩ := p
      have e2 : ((al.toNat : Nat) : Int) = al := by
        have : al = 1 ∨ al = 2 ∨ al = 3 ∨ al = 4 ∨ al = 5 ∨ al = 6 := halg
        omega
      show (Pol.mk i (decide ((if st = true then 2 else 1) = 2)) ((al.toNat : Nat) : Int) tg ru ki ob, _) = _
      rw [e2]
      cases st <;> rfl

/-- A right policy's text: its tokens, and what is read of them. -/
theorem show_toks {p : Pol} (h : rightE p = 0) (hok : polOks 4 p) : ∃ z m, Zx (polT p) (z ++ [tEnd]) ∧ polR 5 ⟨z ++ [tEnd], 0, 0, 0⟩ = (p, ⟨[tEnd], m, 0, 0⟩) := by
  have e0 : polS 4 p ⟨[], 0⟩ = (0, (polS 4 p ⟨[], 0⟩).2) := by unfold rightE at h; rw [← h]
  obtain ⟨_, _, z, hw, _, _, hr⟩ := pol_both 4 (Nat.le_refl _) e0 hok (Nat.zero_le _)
  refine ⟨z, _, ?_, hr [tEnd] (by simp) (by unfold Nx; decide +kernel)⟩
  have := hw.join [] [tEnd] Stp.nil Zx.nil
  rwa [List.append_nil] at this
/-- .. is read as that policy, if it isn't too long. -/
theorem show_read {p : Pol} (h : rightE p = 0) (hok : polOks 4 p) {s : ByteArray} (hs : s.size ≤ 4096) (ht : s.data.toList = polT p) : parseR s = (p, 0, 0) := by
  obtain ⟨z, m, hz, hr⟩ := show_toks h hok
  rw [← ht] at hz
  exact hz.read hs hr rfl h
/-- Two right policies have one text just if they are the same. -/
theorem show_same {p q : Pol} (hp : rightE p = 0) (hq : rightE q = 0) (okp : polOks 4 p) (okq : polOks 4 q) (h : polT p = polT q) : p = q := by
  obtain ⟨z, m, hz, hr⟩ := show_toks hp okp
  obtain ⟨z', m', hz', hr'⟩ := show_toks hq okq
  rw [h] at hz
  obtain ⟨ts, h1, h2⟩ := hz
  obtain ⟨ts', h1', h2'⟩ := hz'
  rw [h1] at h1'
  obtain rfl : ts = ts' := by injection h1'
  rw [← h2, h2', hr'] at hr
  exact (Prod.mk.inj hr).1.symm
theorem show_some {p : Pol} : polT p ≠ [] := by
  have : polW 4 p = headW p :: (bl p.id :: algW p.alg :: (tgW p.tg ++ [[123]] ++ p.rules.map rulT ++ (p.kids.map (polW 3)).flatten ++ [[125]] ++ p.ob.map dutT)) := rfl
  unfold polT
  rw [this, Lib.join_cons]
  intro h
  have := (List.append_eq_nil_iff.1 h).1
  unfold headW at this
  split at this <;> cases this
end Go.Proofs.YtdbnaaddocahpaaDoor
