/- LexJoins: the walk. -/
import Derived.Test.YtpedfkigneahgaaLexRuns
import Derived.Test.YtpedfkigneahgaaLexLaws
import Derived.Lib.MinMax
import Derived.Deep.CutRange
namespace Go.Proofs.Ytpedfkigneahgaa
set_option linter.unusedVariables false
open Go.RowKit

def cutN (s : ByteArray) (n : Nat) : ByteArray := s.extract 0 (min (s.size : Int) (n : Int)).toNat
theorem cutN_size (s : ByteArray) (n : Nat) : (cutN s n).size ≤ n := by
  show (ByteArray.extract _ _ _).size ≤ n
  rw [ByteArray.size_extract]
  omega
/-- The tokens of both, one by one. -/
def joinT (x y : List Tk) (d : Nat) : List Tk := x.dropLast ++ y.map (shT d)
theorem joinT_len {x y : List Tk} {d : Nat} : (joinT x y d).length = x.length - 1 + y.length := by simp [joinT]
theorem joinT_lo {x y : List Tk} {d i : Nat} {t : Tk} (hi : i < x.length - 1) (h : x[i]? = some t) : (joinT x y d)[i]? = some t := by
  unfold joinT
  rw [List.getElem?_append_left (by simpa using hi), List.getElem?_dropLast, if_pos hi, h]
theorem joinT_hi {x y : List Tk} {d i : Nat} {t : Tk} (hi : ¬ i < x.length - 1) (h : y[i - (x.length - 1)]? = some t) : (joinT x y d)[i]? = some (shT d t) := by
  unfold joinT
  rw [List.getElem?_append_right (by simpa using hi), List.length_dropLast, List.getElem?_map, h]
  rfl

theorem allP_shape {W w' : World} {x : Except Nat (List Tk)} {e : Ending} (h : AllP W x e w') : ∃ (A : Option Addr) (n c : Nat) (k p : Int), e = .returned (.tuple #[.slice A n c, .int .i64 k, .int .i64 p]) ∧ Below W.heap.size W w' := by
  unfold AllP at h
  split at h
  · obtain ⟨A, n, c, rfl, _, hb⟩ := h; exact ⟨A, n, c, _, _, rfl, hb⟩
  · exact ⟨_, _, _, _, _, h.1, h.2⟩
theorem allP_ok {W w' : World} {ts : List Tk} {e : Ending} (h : AllP W (.ok ts) e w') : ∃ (A : Option Addr) (n c : Nat), e = .returned (.tuple #[.slice A n c, .int .i64 0, .int .i64 0]) ∧ Ts w' w'.heap.size A n c ts ∧ ts.length = n ∧ Below W.heap.size W w' := by
  obtain ⟨A, n, c, rfl, ho, hb⟩ := h
  exact ⟨A, n, c, rfl, Ts.of_own ho, by have := ho.1; rw [cells4_len] at this; omega, hb⟩
theorem joins_lex {a b : List UInt8} {x : List Tk} (h : lexB a 0 = .ok x) : lexB (a ++ 32 :: b) 0 = cat x.dropLast (shE (a.length + 1) (lexB b 0)) := by
  rw [lexB_join (.inl rfl) h, lexB_from, Nat.zero_add]

set_option maxRecDepth 100000 in
set_option maxHeartbeats 3200000 in
theorem lexJoins_walk (a : ByteArray) (ha : a.size ≤ maxLen) (b : ByteArray) (hb : b.size ≤ maxLen) (w : World) : Calls Try.prog 7 #[.string a, .string b] w fun e w' => e = .returned (.bool true) ∧ Below w.heap.size w w' := by
  have HR := Lib.hid (fun w => lexruns_any w)
  have hsa := cutN_size a 200
  have hsb := cutN_size b 200
  have H1 := Lib.hid (fun w => all_any (cutN a 200) (by omega) w)
  have H2 := Lib.hid (fun w => all_any (cutN b 200) (by omega) w)
  have H3 := Lib.hid (fun w => all_any (cutN a 200 ++ ⟨#[32]⟩ ++ cutN b 200) (by rw [ByteArray.size_append, ByteArray.size_append]; show _ + 1 + _ ≤ 4096; omega) w)
  have hl : (cutN a 200 ++ ⟨#[32]⟩ ++ cutN b 200).data.toList = (cutN a 200).data.toList ++ 32 :: (cutN b 200).data.toList := by
    rw [ByteArray.data_append, Array.toList_append, ByteArray.data_append, Array.toList_append]; simp
  rw [hl] at H3
  have hla := data_len (cutN a 200)
  have hlb := data_len (cutN b 200)
  have hma : min (a.size : Int) 200 ≤ (a.size : Int) := by omega
  have hmb : min (b.size : Int) 200 ≤ (b.size : Int) := by omega
  have hma2 : 0 ≤ min (a.size : Int) 200 := by omega
  have hmb2 : 0 ≤ min (b.size : Int) 200 := by omega
  have HLA := Lib.hid hla
  have HLB := Lib.hid hlb
  clear hl hla hlb
  unfold maxLen at ha hb
  go_enter Try.func7, Try.ntmps7
  go_wp2_with fail
  go_quiet (fail)
  rw [show a.extract 0 (min (a.size : Int) 200).toNat = cutN a 200 from rfl, show b.extract 0 (min (b.size : Int) 200).toNat = cutN b 200 from rfl]
  generalize cutN a 200 = s at *
  generalize cutN b 200 = t at *
  have D0 := Lib.hid (below_drewN (Below.refl w.heap.size w) nq)
  generalize w.drewN nq = w0 at *
  cases hxa : lexB s.data.toList 0 with
  | error e1 =>
    rw [hxa] at H1
    clear hxa
    go_wp2_with fail
    refine (H1.out _).mono ?_
    rintro e w1 ⟨rfl, hb1⟩
    go_wp2_with fail
    refine (H2.out _).mono ?_
    intro e w2 h2
    obtain ⟨A2, n2, c2, k2, p2, rfl, hb2⟩ := allP_shape h2
    clear h2
    go_wp2_with fail
    refine (H3.out _).mono ?_
    intro e w3 h3
    obtain ⟨A3, n3, c3, k3, p3, rfl, hb3⟩ := allP_shape h3
    clear h3
    go_wp2_with fail
    refine (HR.out _).mono ?_
    rintro e w4 ⟨rfl, hb4⟩
    go_wp2_with fail
    go_ret
    exact ⟨rfl, D0.out.trans ((below_step (below_step (below_step hb1 hb2) hb3) hb4).mono D0.out.size)⟩
  | ok x =>
    rw [hxa] at H1
    rw [joins_lex hxa] at H3
    cases hxb : lexB t.data.toList 0 with
    | error i =>
      rw [hxb] at H2 H3
      have hil : i ≤ 200 := by have := lexB_err_le _ _ _ _ (Nat.le_refl _) hxb; have := HLB.out; omega
      clear hxa hxb
      go_wp2_with fail
      refine (H1.out _).mono ?_
      intro e w1 h1
      obtain ⟨A1, n1, c1, rfl, _, _, hb1⟩ := allP_ok h1
      clear h1
      go_wp2_with fail
      refine (H2.out _).mono ?_
      rintro e w2 ⟨rfl, hb2⟩
      go_wp2_with fail
      refine (H3.out _).mono ?_
      rintro e w3 ⟨rfl, hb3⟩
      have hpl : ((i + (s.data.toList.length + 1) : Nat) : Int) = (i : Int) + (s.size : Int) + 1 := by rw [HLA.out]; omega
      rw [hpl]
      go_wp2_with (go_at_call 3; refine (HR.out _).mono ?_; rintro e w4 ⟨rfl, hb4⟩)
      go_ret
      exact ⟨rfl, D0.out.trans ((below_step (below_step (below_step hb1 hb2) hb3) hb4).mono D0.out.size)⟩
    | ok y =>
      rw [hxb] at H2 H3
      have hyp := lexB_places _ _ _ _ (Nat.le_refl _) hxb
      have HYP : Hid (∀ q ∈ y, (0 : Int) ≤ q.p ∧ q.p ≤ 200) := fun q hq => by have := hyp q hq; have := HLB.out; omega
      obtain ⟨ux, hux, hux2⟩ := lexB_ne _ _ _ _ (Nat.le_refl _) hxa
      obtain ⟨uy, huy, huy2⟩ := lexB_ne _ _ _ _ (Nat.le_refl _) hxb
      have hxl : 1 ≤ x.length ∧ x.length ≤ 201 := by rw [hux, List.length_append]; have := HLA.out; simp; omega
      have hyl : 1 ≤ y.length ∧ y.length ≤ 201 := by rw [huy, List.length_append]; have := HLB.out; simp; omega
      have HXL := Lib.hid hxl
      have HYL := Lib.hid hyl
      have H3' : Hid (∀ (w : World), Calls Try.prog 8 #[.string (s ++ ⟨#[32]⟩ ++ t)] w fun e w' => AllP w (.ok (joinT x y (s.data.toList.length + 1))) e w') := H3
      clear hxa hxb hyp hux hux2 huy huy2 hxl hyl H3
      go_wp2_with fail
      refine (H1.out _).mono ?_
      intro e w1 h1
      obtain ⟨A1, n1, c1, rfl, tx1, hx1, hb1⟩ := allP_ok h1
      clear h1
      have TX1 := Lib.hid tx1
      clear tx1
      go_wp2_with fail
      refine (H2.out _).mono ?_
      intro e w2 h2
      obtain ⟨A2, n2, c2, rfl, ty2, hy2, hb2⟩ := allP_ok h2
      clear h2
      have TX2 := Lib.hid (TX1.out.then_ hb2)
      have TY2 := Lib.hid ty2
      clear ty2
      go_wp2_with fail
      refine (H3'.out _).mono ?_
      intro e w3 h3
      obtain ⟨A3, n3, c3, rfl, tz3, hz3, hb3⟩ := allP_ok h3
      clear h3
      have TX := Lib.hid (TX2.out.then_ hb3)
      have TY := Lib.hid (TY2.out.then_ hb3)
      have TZ := Lib.hid tz3
      have hn3 : n3 = n1 - 1 + n2 := by rw [← hz3, joinT_len, hx1, hy2]
      have hn1 : 1 ≤ n1 ∧ n1 ≤ 201 := by rw [← hx1]; exact HXL.out
      have hn2 : 1 ≤ n2 ∧ n2 ≤ 201 := by rw [← hy2]; exact HYL.out
      have hcx := TX.out.2.2.1
      have hcy := TY.out.2.2.1
      have hcz := TZ.out.2.2.1
      have hex := TX.out.2.1
      have hey := TY.out.2.1
      have hez := TZ.out.2.1
      unfold maxLen at hcx hcy hcz
      have hni : (n3 : Int) = (n1 : Int) + (n2 : Int) - 1 := by omega
      have hne : ((n3 : Int) != (n1 : Int) + (n2 : Int) - 1) = false := by rw [bne_eq_false_iff_eq]; exact hni
      have HX1 := Lib.hid hx1
      have HY2 := Lib.hid hy2
      have HN3 := Lib.hid hn3
      have D3 := Lib.hid (D0.out.trans ((below_step (below_step hb1 hb2) hb3).mono D0.out.size))
      clear tz3 hb1 hb2 hb3 hx1 hy2 hz3 hn3 hni
      go_wp2_with fail
      go_loopw [82] (fun i wr => ∃ k : Nat, k ≤ n3 ∧ i = .int .i64 (k : Int) ∧ Below w3.heap.size w3 wr) (fun i _ => n3 - (intOf i).toNat)
      case atStart => exact ⟨0, Nat.zero_le _, rfl, Below.refl _ _⟩
      case round =>
        obtain ⟨k, hk, rfl, hbr⟩ := hrel
        have BR := Lib.hid hbr
        clear hbr
        by_cases hlt : k < n3
        · have hki : 0 ≤ (k : Int) ∧ (k : Int) < (n3 : Int) := by omega
          have TZr := Lib.hid (TZ.out.then_ BR.out)
          have BA := Lib.hid ((Below.refl wr.heap.size wr).alloc (Nat.le_refl _) (.cells #[.int .i64 0, .int .i64 0, .int .i64 0, .string ⟨#[]⟩] 27))
          have TXa := Lib.hid ((TX.out.then_ BR.out).then_ BA.out)
          have TYa := Lib.hid ((TY.out.then_ BR.out).then_ BA.out)
          have T1 := Lib.hid (Tb.made wr 0 0 0 ⟨#[]⟩)
          have c1 := T1.out.c4
          have f1 := T1.out.fz
          by_cases hlo : k < n1 - 1
          · have hlo2 : (k : Int) < (n1 : Int) - 1 := by omega
            have hxk : k < n1 := by omega
            have hxk2 : (k : Int) < (n1 : Int) := by omega
            obtain ⟨bx, ox, vx, hAx, hbx, hvx, x0, x1, x2, x3⟩ := TXa.out.at_ hxk
            subst hAx
            obtain ⟨kx, px, nx, sx⟩ := vx
            have HVX := Lib.hid hvx
            clear hvx hbx
            go_upto_region 19 with fail
            have BB := Lib.hid ((Below.refl wr.heap.size wr).alloc (Nat.le_refl _) (.cells #[.int .i64 kx, .int .i64 px, .int .i64 nx, .string sx] 27))
            have TZa := Lib.hid (TZr.out.then_ BB.out)
            have T2 := Lib.hid (Tb.made wr kx px nx sx)
            obtain ⟨bz, oz, vz, hAz, hbz, hvz, z0, z1, z2, z3⟩ := TZa.out.at_ hlt
            have hz := joinT_lo (y := y) (d := s.data.toList.length + 1) (by rw [HX1.out]; exact hlo) HVX.out
            rw [hz] at hvz
            obtain rfl := Option.some.inj hvz
            subst hAz
            have hve := tok_eq kx px nx kx px nx sx sx
            rw [teq_true rfl] at hve
            have t0 := T2.out.c4
            clear hvz hz hbz c1 f1 x0 x1 x2 x3
            go_quiet (fail)
            go_wp2_with fail
            go_roundw
            case rel => exact ⟨k + 1, by omega, by go_num, below_drewN (BR.out.trans (BB.out.mono BR.out.size)) _⟩
            case measure => simp [intOf]; omega
          · have hlo2 : ¬ (k : Int) < (n1 : Int) - 1 := by omega
            have hyk : k - (n1 - 1) < n2 := by have := HN3.out; omega
            have hy0 : (0 : Int) ≤ (k : Int) - (n1 : Int) + 1 := by omega
            have hy0' : (0 : Int) ≤ (k : Int) - (n1 : Int) + 1 ∧ (k : Int) - (n1 : Int) + 1 < (n2 : Int) := by omega
            have hyt : ((k : Int) - (n1 : Int) + 1).toNat = k - (n1 - 1) := by omega
            obtain ⟨bx, ox, vx, hAx, hbx, hvx, x0, x1, x2, x3⟩ := TYa.out.at_ hyk
            subst hAx
            obtain ⟨kx, px, nx, sx⟩ := vx
            have hpx := HYP.out _ (List.mem_of_getElem? hvx)
            dsimp only at hpx
            have HVX := Lib.hid hvx
            clear hvx hbx
            go_upto_region 19 with fail
            have BB := Lib.hid ((Below.refl wr.heap.size wr).alloc (Nat.le_refl _) (.cells #[.int .i64 kx, .int .i64 (px + (s.size : Int) + 1), .int .i64 nx, .string sx] 27))
            have TZa := Lib.hid (TZr.out.then_ BB.out)
            have T2 := Lib.hid (Tb.made wr kx (px + (s.size : Int) + 1) nx sx)
            obtain ⟨bz, oz, vz, hAz, hbz, hvz, z0, z1, z2, z3⟩ := TZa.out.at_ hlt
            have hz := joinT_hi (x := x) (d := s.data.toList.length + 1) (by rw [HX1.out]; exact hlo) (by rw [HX1.out]; exact HVX.out)
            have hsh : shT (s.data.toList.length + 1) ⟨kx, px, nx, sx⟩ = ⟨kx, px + (s.size : Int) + 1, nx, sx⟩ := by
              unfold shT
              dsimp only
              rw [show px + ((s.data.toList.length + 1 : Nat) : Int) = px + (s.size : Int) + 1 by rw [HLA.out]; omega]
            rw [hz, hsh] at hvz
            obtain rfl := Option.some.inj hvz
            subst hAz
            have hve := tok_eq kx (px + (s.size : Int) + 1) nx kx (px + (s.size : Int) + 1) nx sx sx
            rw [teq_true rfl] at hve
            have t0 := T2.out.c4
            clear hvz hz hbz c1 f1 x0 x1 x2 x3 hsh
            go_quiet (fail)
            go_wp2_with fail
            go_roundw
            case rel => exact ⟨k + 1, by omega, by go_num, below_drewN (BR.out.trans (BB.out.mono BR.out.size)) _⟩
            case measure => simp [intOf]; omega
        · obtain rfl : k = n3 := by omega
          go_wp2_with fail
          refine (HR.out _).mono ?_
          rintro e w4 ⟨rfl, hb4⟩
          go_wp2_with fail
          go_ret
          exact ⟨rfl, D3.out.trans ((below_step BR.out hb4).mono D3.out.size)⟩
end Go.Proofs.Ytpedfkigneahgaa
