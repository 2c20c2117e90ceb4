/- Several texts in one: EvalRead, ParEval, EvalRunsM. -/
import Derived.Test.YtmoglaknmlhpgaaGreatDoorOnlO
import Derived.Test.YtmoglaknmlhpgaaGreatDoorOnlb
import Derived.Test.YtmoglaknmlhpgaaGreatDoorOnlW
import Derived.Test.YtmoglaknmlhpgaaGreatDoorOnlG
/- The helpers of stage 14's statements: read, x; bailiffkeep.Results of two that are the same. -/
namespace Go.Proofs.YtmoglaknmlhpgaaGreatDoor
set_option linter.unusedVariables false
open Go.RowKit
attribute [local go_sem] eq0 feq2 eq4 fgt0 gt2 ord_eq ord_gt ord_lt ev_store

set_option maxRecDepth 100000 in
set_option maxHeartbeats 3200000 in
theorem evread_any {w : World} {s : ByteArray} {p : Pol} {e i : Int} (h : parseR s = (p, e, i)) (hs : s.size ≤ maxLen) :
  Calls Tryz.prog 18 #[.string s] w fun x w' => ∃ A1 n1 c1 A2 n2 c2 A3 n3 c3 A4 n4 c4, x = .returned (.agg #[.string p.id, .bool p.set, .int .i64 p.alg, .slice A1 n1 c1, .slice A2 n2 c2, .slice A3 n3 c3, .slice A4 n4 c4]) ∧ Below w.heap.size w w' ∧
   PolIn w' (fun _ => True) p A1 n1 c1 A2 n2 c2 A3 n3 c3 A4 n4 c4 := by
 have HP := Lib.hid (fun W => parse_is (w := W) h hs)
 have OB := Lib.hid (Ob.made w 28 #[.string ⟨#[]⟩, .bool false, .int .i64 0, .slice none 0 0, .slice none 0 0, .slice none 0 0, .slice none 0 0])
 have D1 := Lib.hid ((Below.refl w.heap.size w).alloc (Nat.le_refl _) (.cells #[.string ⟨#[]⟩, .bool false, .int .i64 0, .slice none 0 0, .slice none 0 0, .slice none 0 0, .slice none 0 0] 28))
 clear h hs
 go_enter Tryz.func18, Tryz.ntmps18
 go_wp2_with fail
 refine (HP.out _).mono ?_
 rintro x w1 ⟨y, rfl, hb, A1, n1, c1, A2, n2, c2, A3, n3, c3, A4, n4, c4, rfl, hp0⟩
 have hp := PolAt.in_ hp0
 clear hp0
 have D2 := below_step D1.out hb
 have OZ := OB.out.below hb OB.out.lt
 have hlt : w.heap.size < w1.heap.size := by have := hb.size; rw [size_al] at this; omega
 clear hb
 have OZ2 := OZ.keep (w' := w1.alloc (.cells #[.string p.id, .bool p.set, .int .i64 p.alg, .slice A1 n1 c1, .slice A2 n2 c2, .slice A3 n3 c3, .slice A4 n4 c4] 28)) (Below.heap_alloc _ _ _ hlt)
 have OP := Ob.made w1 28 #[.string p.id, .bool p.set, .int .i64 p.alg, .slice A1 n1 c1, .slice A2 n2 c2, .slice A3 n3 c3, .slice A4 n4 c4]
 have P7 := put7_ob OZ2 (.string p.id) (.bool p.set) (.int .i64 p.alg) (.slice A1 n1 c1) (.slice A2 n2 c2) (.slice A3 n3 c3) (.slice A4 n4 c4)
 have PO := put7_only (V := w1.alloc (.cells #[.string p.id, .bool p.set, .int .i64 p.alg, .slice A1 n1 c1, .slice A2 n2 c2, .slice A3 n3 c3, .slice A4 n4 c4] 28)) (P := w.heap.size) (.string p.id) (.bool p.set) (.int .i64 p.alg) (.slice A1 n1 c1) (.slice A2 n2 c2) (.slice A3 n3 c3) (.slice A4 n4 c4)
 have DF : Below w.heap.size w (put7W (w1.alloc (.cells #[.string p.id, .bool p.set, .int .i64 p.alg, .slice A1 n1 c1, .slice A2 n2 c2, .slice A3 n3 c3, .slice A4 n4 c4] 28)) w.heap.size (.string p.id) (.bool p.set) (.int .i64 p.alg) (.slice A1 n1 c1) (.slice A2 n2 c2) (.slice A3 n3 c3) (.slice A4 n4 c4)) :=
  (D2.alloc (by omega) _).trans (PO.below (by rw [size_al]; omega) (Nat.le_refl _))
 have HPN : PolIn (w1.alloc (.cells #[.string p.id, .bool p.set, .int .i64 p.alg, .slice A1 n1 c1, .slice A2 n2 c2, .slice A3 n3 c3, .slice A4 n4 c4] 28)) (fun b => b ≠ w.heap.size) p A1 n1 c1 A2 n2 c2 A3 n3 c3 A4 n4 c4 :=
  (hp.then_ ((Below.refl _ _).alloc (Nat.le_refl _) _)).keep (Kept.refl _ _) (fun b hb _ => by have h1 := hb; simp only [size_al] at h1; show b ≠ _; omega)
 have HPF := HPN.keep (R' := fun _ => True) (PO.kept9 (fun b hb => hb)) (fun _ _ _ => trivial)
 simp only [put7W, put1W, put2W, put3W, put4W, put5W, put6W] at P7 PO DF HPF
 have P7' := Lib.hid P7
 have DF' := Lib.hid DF
 have HPF' := Lib.hid HPF
 have q0 := OP.cell 0
 have q1 := OP.cell 1
 have q2 := OP.cell 2
 have q3 := OP.cell 3
 have q4 := OP.cell 4
 have q5 := OP.cell 5
 have q6 := OP.cell 6
 have z0 := OZ2.cell 0
 have z1 := OZ2.cell 1
 have z2 := OZ2.cell 2
 have z3 := OZ2.cell 3
 have z4 := OZ2.cell 4
 have z5 := OZ2.cell 5
 have z6 := OZ2.cell 6
 have f0 := OZ2.frozen 0
 have f1 := OZ2.frozen 1
 have f2 := OZ2.frozen 2
 have f3 := OZ2.frozen 3
 have f4 := OZ2.frozen 4
 have f5 := OZ2.frozen 5
 have f6 := OZ2.frozen 6
 clear OZ OZ2 OP P7 PO DF HPF HPN hp D2 hlt
 go_wp2_with fail
 try simp only [Exit.inBlock, Exit.then]
 refine bodyPost_ret (pol_ret rfl rfl P7'.out) rfl ?_
 exact ⟨A1, n1, c1, A2, n2, c2, A3, n3, c3, A4, n4, c4, rfl, DF'.out, HPF'.out⟩
theorem evx_any {w : World} {R : Nat → Prop} {A : Option Addr} {n c : Nat} {l : List Vl} (h : Vls w R A n c l) :
  Calls Tryz.prog 19 #[.slice A n c] w fun e w' => ∃ A', e = .returned (.slice A' 1 1) ∧ Below w.heap.size w w' ∧ Gvs w' (fun _ => True) A' 1 1 [⟨3, ⟨#[120]⟩, l⟩] := by
 have HX := Lib.hid (one_giv ⟨3, ⟨#[120]⟩, l⟩ ⟨(by decide : InI 3), (by decide : (⟨#[120]⟩ : ByteArray).size ≤ maxLen)⟩ h)
 clear h
 go_enter Tryz.func19, Tryz.ntmps19
 go_wp2_with fail
 go_ret
 exact ⟨_, rfl, (Below.refl _ _).alloc (Nat.le_refl _) _, HX.out⟩
set_option maxHeartbeats 1600000 in
theorem evsame_any {w : World} {R R' : Nat → Prop} {A A' : Option Addr} {n c n' c' : Nat} {l : List Dut} (p d : Fin 5) (h : Dus w R A n c l) (h' : Dus w R' A' n' c' l) :
  Calls Tryz.prog 12 #[.agg #[.complex .f64 (fl p) (fl d), .slice A n c], .agg #[.complex .f64 (fl p) (fl d), .slice A' n' c']] w fun e w' => e = .returned (.bool true) ∧ Below w.heap.size w w' := by
 obtain rfl := Rw.same_len h h'
 have a1 : Below w.heap.size w (w.alloc (.cells #[.complex .f64 (fl p) (fl d), .slice A n c] 44)) := (Below.refl w.heap.size w).alloc (Nat.le_refl _) _
 have D2 := a1.alloc (by rw [size_al]; omega) (.cells #[.complex .f64 (fl p) (fl d), .slice A' n c'] 44)
 have HS := Lib.hid (same_dut (h.keep (Kept.all D2 R) (fun _ h _ => h)) (h'.keep (Kept.all D2 R') (fun _ h _ => h)))
 have OA := (Ob.made w 44 #[.complex .f64 (fl p) (fl d), .slice A n c]).keep (w' := (w.alloc (.cells #[.complex .f64 (fl p) (fl d), .slice A n c] 44)).alloc (.cells #[.complex .f64 (fl p) (fl d), .slice A' n c'] 44)) (Below.heap_alloc _ _ _ (by rw [size_al]; omega))
 have OC := Ob.made (w.alloc (.cells #[.complex .f64 (fl p) (fl d), .slice A n c] 44)) 44 #[.complex .f64 (fl p) (fl d), .slice A' n c']
 rw [size_al] at OC
 have q0 := OA.cell 0
 have q1 := OA.cell 1
 have z0 := OC.cell 0
 have z1 := OC.cell 1
 have DD := Lib.hid D2
 clear OA OC D2 a1 h h'
 go_enter Tryz.func12, Tryz.ntmps12
 go_wp2_with fail
 refine HS.out.mono ?_
 rintro e w' ⟨rfl, hb⟩
 have B2 := Lib.hid (below_step DD.out hb)
 clear hb
 go_wp2_with fail
 go_ret
 exact ⟨rfl, B2.out⟩
theorem evsame_at {w : World} {R R' : Nat → Prop} {A A' : Option Addr} {n c n' c' x y x' y' : Nat} {l l' : List Dut} {m m' : Mk} (hx : (.complex .f64 x y : Value) = mcell m) (hy : (.complex .f64 x' y' : Value) = mcell m') (hm : m = m') (hl : l = l') (h : Dus w R A n c l) (h' : Dus w R' A' n' c' l') :
  Calls Tryz.prog 12 #[.agg #[.complex .f64 x y, .slice A n c], .agg #[.complex .f64 x' y', .slice A' n' c']] w fun e w' => e = .returned (.bool true) ∧ Below w.heap.size w w' := by
 subst hm hl
 rw [hx, hy]
 exact evsame_any m.1 m.2 h h'
theorem mc_p : (.complex .f64 4607182418800017408 0 : Value) = mcell (4, 0) := by unfold mcell; rw [fl0, fl4]
theorem mc_d : (.complex .f64 0 4607182418800017408 : Value) = mcell (0, 4) := by unfold mcell; rw [fl0, fl4]
theorem mc_dp : (.complex .f64 4602678819172646912 4602678819172646912 : Value) = mcell (2, 2) := by unfold mcell; rw [fl2]
end Go.Proofs.YtmoglaknmlhpgaaGreatDoor
/- The parser, plainly: closed texts are read by reckoning. -/
namespace Go.Proofs.YtmoglaknmlhpgaaGreatDoor
set_option linter.unusedVariables false

def lexF : Nat → List UInt8 → Nat → Except Nat (List Tk)
 | 0, _, _ => .error 0
 | n + 1, [], p => .ok [⟨7, p, 0, ⟨#[]⟩⟩]
 | n + 1, c :: r, p => if blk c = true then lexF n r (p + 1) else
   match tokB (c :: r) with
   | none => .error p
   | some (k, m, s, j) => cat [⟨k, p, m, ⟨s.toArray⟩⟩] (lexF n ((c :: r).drop j) (p + j))
theorem lexF_eq : ∀ (n : Nat) (l : List UInt8) (p : Nat), l.length < n → lexF n l p = lexB l p
 | 0, _, _, h => by omega
 | n + 1, [], p, h => by rw [lexB_nil]; rfl
 | n + 1, c :: r, p, h => by
  simp only [List.length_cons] at h
  unfold lexF
  cases hb : blk c with
  | true => rw [if_pos rfl, lexB_blank hb, lexF_eq n r (p + 1) (by omega)]
  | false =>
   rw [if_neg (by simp)]
   cases hq : tokB (c :: r) with
   | none => rw [lexB_bad hb hq]
   | some q =>
    obtain ⟨k, m, s, j⟩ := q
    have := (tokB_pos hq).1
    rw [lexB_tok hb hq]
    simp only
    rw [lexF_eq n _ (p + j) (by simp only [List.length_drop, List.length_cons]; omega)]
def parseF (n : Nat) (l : List UInt8) : Pol × Int × Int :=
 if 4096 < l.length then (noPol, 6, 4096) else
 match lexF n l 0 with
 | .error p => (noPol, 5, (p : Int))
 | .ok ts =>
  let u := polR 5 ⟨ts, 0, 0, 0⟩
  let z := endR u.2
  if z.err = 0 then (if rightE u.1 = 0 then (u.1, 0, 0) else (noPol, 5, (l.length : Int))) else (noPol, z.err, z.at_)
theorem parseF_eq (s : ByteArray) : parseR s = parseF (s.data.toList.length + 1) s.data.toList := by
 unfold parseR parseF
 rw [lexF_eq _ _ 0 (Nat.lt_succ_self _)]
 rfl
theorem parse_eval {s : ByteArray} {n : Nat} {x : Pol × Int × Int} (h : parseF (n + 1) s.data.toList = x) (hn : s.data.toList.length = n) : parseR s = x := by
 rw [parseF_eq, hn, h]
end Go.Proofs.YtmoglaknmlhpgaaGreatDoor
/- Chapter 14's runs, plainly: the policy that is read, and what it comes to. -/
namespace Go.Proofs.YtmoglaknmlhpgaaGreatDoor
set_option linter.unusedVariables false

def evO1 : Dut := ⟨1, 1, ⟨#[97]⟩⟩
def evO2 : Dut := ⟨2, 4, ⟨#[98]⟩⟩
def evO3 : Dut := ⟨1, 3, ⟨#[99]⟩⟩
def evR1 : Rul := ⟨⟨#[114]⟩, false, [], [], [evO1]⟩
def evR2 : Rul := ⟨⟨#[100]⟩, true, [[[⟨⟨3, ⟨#[120]⟩, false⟩, 1, ⟨2, 1, ⟨#[]⟩⟩⟩]]], [], [evO2]⟩
def evP : Pol := .mk ⟨#[112]⟩ false 1 [] [evR1, evR2] [] [evO3]
theorem ev_run : parseR ⟨#[112, 111, 108, 105, 99, 121, 32, 112, 32, 100, 101, 110, 121, 111, 118, 101, 114, 32, 123, 32, 112, 101, 114, 109, 105, 116, 32, 114, 32, 111, 110, 32, 112, 101, 114, 109, 105, 116, 32, 108, 111, 103, 32, 97, 59, 32, 100, 101, 110, 121, 32, 100, 32, 119, 104, 101, 110, 32, 40, 99, 97, 115, 101, 46, 120, 32, 61, 32, 49, 41, 32, 111, 110, 32, 100, 101, 110, 121, 32, 110, 111, 116, 105, 102, 121, 32, 98, 59, 32, 125, 32, 111, 110, 32, 112, 101, 114, 109, 105, 116, 32, 114, 101, 118, 105, 101, 119, 32, 99]⟩ = (evP, 0, 0) := parse_eval (n := 109) (by kernel_rfl) (by kernel_rfl)
theorem ev_right : rightE evP = 0 := by kernel_rfl
def evA (v : Vl) : List Giv := [⟨3, ⟨#[120]⟩, [v]⟩]
theorem ev_1 : evV [] evP = ⟨(4, 0), [evO1, evO3]⟩ := by kernel_rfl
theorem ev_2 : evV (evA ⟨2, 1, ⟨#[]⟩⟩) evP = ⟨(0, 4), [evO2]⟩ := by kernel_rfl
theorem ev_3 : evV (evA ⟨3, 0, ⟨#[97]⟩⟩) evP = ⟨(2, 2), []⟩ := by kernel_rfl
end Go.Proofs.YtmoglaknmlhpgaaGreatDoor
