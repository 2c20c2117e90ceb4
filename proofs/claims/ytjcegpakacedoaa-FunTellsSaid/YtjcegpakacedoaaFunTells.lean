/- FunTells: the walk. -/
import Derived.Test.YtjcegpakacedoaaFunRuns
import Derived.Test.YtjcegpakacedoaaOpenVals
import Derived.Test.YtjcegpakacedoaaVApp
import Derived.Lib.MinMax
namespace Go.Proofs.Ytjcegpakacedoaa
set_option linter.unusedVariables false
open Go.RowKit Go.Sort

/-- Cut to 80 bytes. -/
def cutV (v : Vl) : Vl := ⟨v.k, v.n, v.s.extract 0 (min (v.s.size : Int) 80).toNat⟩
theorem cutV_ok {v : Vl} (h : v.ok) : (cutV v).ok := ⟨h.1, h.2.1, by
  have : (cutV v).s.size ≤ 80 := by show (ByteArray.extract _ _ _).size ≤ 80; rw [ByteArray.size_extract]; omega
  unfold maxLen; omega⟩
/-- What has been gathered: own. -/
def CutRel (w6 : World) (l : List Vl) (o i : Value) (wr : World) : Prop :=
  ∃ (k c : Nat) (A : Option Addr), k ≤ l.length ∧ o = .slice A k c ∧ i = .int .i64 (k : Int) ∧ wr.ownsRow w6.heap.size 26 3 (.slice A k c) k (cells3 ((l.take k).map cutV)) ∧ Below w6.heap.size w6 wr
theorem own_nil {w : World} {base e size : Nat} : w.ownsRow base e size (.slice none 0 0) 0 [] := ⟨by simp, .inl ⟨rfl, rfl⟩⟩
theorem Vs.lit1b (w : World) (x : Obj) (a : Vl) (ha : a.ok) : Vs ((w.alloc x).alloc (.cells #[.int .i64 a.k, .int .i64 a.n, .string a.s] 26)) (w.heap.size + 1 + 1) (some ⟨w.heap.size + 1, 0, none⟩) 1 1 [a] := by
  have := Vs.lit1 (w.alloc x) a ha
  rwa [size_al] at this

set_option maxHeartbeats 6400000 in
set_option maxRecDepth 100000 in
theorem funTells_walk (w : World) (a : Int) (ha : (Lit.int .i64 a).wf = true) (b : Int) (hb : (Lit.int .i64 b).wf = true) (op : Int) (ho : (Lit.int .i64 op).wf = true) (A : Option Addr) (n c : Nat) (h : ∃ l, Vs w w.heap.size A n c l) :
    Calls Try.prog 4 #[.int .i64 a, .int .i64 b, .int .i64 op, .slice A n c] w fun e w' => e = .returned (.bool true) ∧ Below w.heap.size w w' := by
  have ia : In64 a := wf_bounds ha
  have ib : In64 b := wf_bounds hb
  clear ha hb ho
  obtain ⟨l, h⟩ := h
  have hle := h.2.1
  have hcap := h.2.2.1
  unfold maxLen at hcap
  obtain ⟨N, hN⟩ : ∃ N : Nat, min (n : Int) 4 = (N : Int) := ⟨(min (n : Int) 4).toNat, by omega⟩
  have m4 : N ≤ c := by omega
  have n4 : N ≤ 4 := by omega
  have hl := h.take (k := N) (by omega)
  generalize l.take N = l at hl
  have HL := Lib.hid hl
  have HLEN := Lib.hid hl.1
  clear hl
  have IA := Lib.hid ia
  have IB := Lib.hid ib
  clear h ia ib
  obtain ⟨xs, es, hs⟩ : ∃ x e, fits (a + b) = (x, e) := ⟨_, _, rfl⟩
  obtain ⟨xd, ed, hd⟩ : ∃ x e, fits (a - b) = (x, e) := ⟨_, _, rfl⟩
  obtain ⟨xp, ep, hp⟩ : ∃ x e, fits (a * b) = (x, e) := ⟨_, _, rfl⟩
  have C1 := Lib.hid (fun w => fits_is hs (add_any a b IA.out IB.out w))
  have C2 := Lib.hid (fun w => fits_is hd (sub_any a b IA.out IB.out w))
  have C3 := Lib.hid (fun w => fits_is hp (mul_any a b IA.out IB.out w))
  have C4 := Lib.hid (fun w => fits_is hs (refadd_any a b IA.out IB.out w))
  have C5 := Lib.hid (fun w => fits_is hd (refsub_any a b IA.out IB.out w))
  have C6 := Lib.hid (fun w => fits_is hp (refmul_any a b IA.out IB.out w))
  clear hs hd hp IA IB
  go_enter Try.func4, Try.ntmps4
  go_wp2_with fail
  go_loopw [9, 35] (fun o i wr => CutRel w l o i wr) (fun _ i _ => N - (intOf i).toNat)
  case atStart => exact ⟨0, 0, none, by omega, rfl, rfl, own_nil, Below.refl _ _⟩
  case round =>
    obtain ⟨k, c1, A1, hk, rfl, rfl, hown, hbel⟩ := hrel
    have HK : Hid (k ≤ l.length) := hk
    have hkn : k ≤ N := by have := HLEN.out; omega
    have HB := Lib.hid hbel
    have HO := Lib.hid hown
    clear hk hown hbel
    by_cases hlt : k < N
    · obtain ⟨b0, o0, x, rfl, hbb, hx, hxok, x0, x1, x2⟩ := (HL.out.below HB.out).at_ hlt
      have HXO := Lib.hid (cutV_ok hxok)
      have HX := Lib.hid hx
      obtain ⟨kx, nx, sx⟩ := x
      dsimp only at x0 x1 x2
      have m1 : 0 ≤ min (sx.size : Int) 80 := by omega
      have m2 : min (sx.size : Int) 80 ≤ (sx.size : Int) := by omega
      have hapx := append_vals (w := (wr.alloc (.cells #[.int .i64 kx, .int .i64 nx, .string (sx.extract 0 (min (sx.size : Int) 80).toNat)] 26)).alloc (.cells #[.int .i64 kx, .int .i64 nx, .string (sx.extract 0 (min (sx.size : Int) 80).toNat)] 26)) (ty := 32) (base := w.heap.size) ((HO.out.alloc _).alloc _) (Vs.lit1b wr (.cells #[.int .i64 kx, .int .i64 nx, .string (sx.extract 0 (min (sx.size : Int) 80).toNat)] 26) (cutV ⟨kx, nx, sx⟩) HXO.out) (by omega) (by rw [size_al, size_al]; have := HB.out.size; omega)
      obtain ⟨A2, c2, w2, hap, hown2, hbel2, _⟩ := hapx
      have HO2 := Lib.hid hown2
      have HB2 := Lib.hid (((HB.out.alloc HB.out.size _).alloc (by rw [size_al]; have := HB.out.size; omega) _).trans hbel2)
      have HAP := Lib.hid hap
      clear hap hown2 hbel2 hx hxok
      go_wp2_with (at_builtin; refine wpList_append_run rfl _ _ _ _ rfl rfl rfl HAP.out ?_)
      go_roundw
      case rel =>
        refine ⟨k + 1, c2, A2, by have := HLEN.out; omega, rfl, by go_num, ?_, HB2.out⟩
        have e : (l.take (k + 1)).map cutV = (l.take k).map cutV ++ [cutV ⟨kx, nx, sx⟩] := by
          rw [List.take_add_one, HX.out, List.map_append]
          rfl
        rw [e]
        exact HO2.out
      case measure => simp [intOf]; omega
    · obtain rfl : N = k := by omega
      have hall : l.take N = l := List.take_of_length_le (by have := HLEN.out; omega)
      rw [hall] at HO
      have HOKL : Hid (∀ v ∈ l.map cutV, v.ok) := by
        show ∀ v ∈ l.map cutV, v.ok
        intro v hv
        obtain ⟨x, hx, rfl⟩ := List.mem_map.1 hv
        exact cutV_ok (HL.out.2.2.2.2 x hx)
      generalize l.map cutV = L at *
      have V0 := Lib.hid (Vs.of_own HO.out HOKL.out)
      obtain ⟨rk, rn, rs, re, hr⟩ := pair_of (callV op L)
      have HR := Lib.hid hr
      have hve : ∀ W, _ = Result.ok true W := fun W => (val_eq rk rn rk rn rs rs W).trans (by rw [veq_true rfl])
      clear hall HO HOKL hr HL HLEN
      go_wp2_with fail
      refine (C1.out _).mono ?_
      rintro e w' ⟨rfl, rfl⟩
      go_wp2_with fail
      refine (C2.out _).mono ?_
      rintro e w' ⟨rfl, rfl⟩
      go_wp2_with fail
      refine (C3.out _).mono ?_
      rintro e w' ⟨rfl, rfl⟩
      go_wp2_with fail
      refine (C4.out _).mono ?_
      rintro e w' ⟨rfl, rfl⟩
      go_wp2_with fail
      refine (C5.out _).mono ?_
      rintro e w' ⟨rfl, rfl⟩
      go_wp2_with fail
      refine (C6.out _).mono ?_
      rintro e w' ⟨rfl, rfl⟩
      go_wp2_with fail
      refine (call_pair V0.out (Nat.le_refl _) (by omega) op HR.out).mono ?_
      rintro e w1 ⟨rfl, hb⟩
      have V1 := Lib.hid (V0.out.then_ hb)
      have D1 := Lib.hid (below_step HB.out hb)
      clear hb
      go_wp2_with fail
      refine (pair_is HR.out (refcall_any (V1.out.new (Nat.le_refl _) (.cells #[.int .i64 rk, .int .i64 rn, .string rs] 26)) (by rw [size_al]; omega) (by omega) op)).mono ?_
      rintro e w2 ⟨rfl, hb⟩
      have X2 := Lib.hid ((Bx.made w1 rk rn rs).then_ hb)
      have D2 := Lib.hid (below_step D1.out (Below.lit hb))
      clear hb
      have c0 := X2.out.c3
      have t0 := X2.out.lt
      go_wp2_with fail
      refine (fruns_any _).mono ?_
      rintro e w3 ⟨rfl, hb⟩
      have D3 := Lib.hid (below_step D2.out (Below.lit hb))
      clear hb
      go_wp2_with fail
      go_ret
      exact ⟨rfl, D3.out⟩
end Go.Proofs.Ytjcegpakacedoaa
