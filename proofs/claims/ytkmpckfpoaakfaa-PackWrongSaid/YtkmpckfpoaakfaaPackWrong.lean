/- PackWrong: the walk. -/
import Derived.Test.YtkmpckfpoaakfaaWrongR
import Derived.Deep.DeepCutAuto
namespace Go.Proofs.Ytkmpckfpoaakfaa
set_option linter.unusedVariables false
open Go.RowKit

theorem rNum_ends {l : List UInt8} {p : Nat} (hp : p ≤ l.length) : ((rNum (l ++ [128]) p 0).2.2 = 7 ∧ (rNum (l ++ [128]) p 0).2.1 = p) ∨ ((rNum (l ++ [128]) p 0).2.2 = 0 ∧ p < (rNum (l ++ [128]) p 0).2.1 ∧ (rNum (l ++ [128]) p 0).2.1 ≤ l.length) := by
  cases hd : dec 0 0 ((l ++ [128]).drop p) with
  | none => left; rw [rNum_none hd]; exact ⟨rfl, rfl⟩
  | some vk =>
    obtain ⟨v, k⟩ := vk
    right
    rw [rNum_some hd]
    obtain ⟨h1, h2, h3, c, h4, h5⟩ := dec_some hd
    refine ⟨rfl, by show p < p + k; omega, ?_⟩
    show p + k ≤ l.length
    rw [List.length_drop, List.length_append, List.length_singleton] at h2
    rcases Nat.lt_or_ge l.length (p + k) with hlt | hge
    · rw [List.getElem?_drop, show p + (k - 0 - 1) = l.length from by omega, List.getElem?_append_right (Nat.le_refl _), Nat.sub_self] at h4
      simp at h4
      subst h4
      exact absurd h5 (by decide)
    · exact hge

def WrRel (w : World) (r bs n : Nat) (l : List UInt8) (i : Value) (wr : World) : Prop :=
  ∃ (k p : Nat) (q : Int), i = .int .i64 (k : Int) ∧ Rdr wr 55 bs r (l ++ [128]) p q ∧ (q = 7 ∨ (q = 0 ∧ k ≤ p ∧ p ≤ n)) ∧ Below w.heap.size w wr ∧ k ≤ n + 1

set_option maxHeartbeats 6400000 in
set_option maxRecDepth 100000 in
theorem packWrong_walk (w : World) (A : Option Addr) (n c : Nat) (hl : ∃ l, Sl w w.heap.size A n c (bv l)) (A2 : Option Addr) (n2 c2 : Nat) (hk : ∃ ks, Asks w A2 n2 c2 ks) :
    Calls Try.prog 8 #[.slice A n c, .slice A2 n2 c2] w fun e w' => e = .returned (.bool true) ∧ Below w.heap.size w w' := by
  obtain ⟨i, hi, hz0, hz1, hz2⟩ := info_parts u8info
  obtain ⟨l0, hl⟩ := hl
  obtain ⟨ks, hk⟩ := hk
  have hnc := hl.le
  have hcap := hl.cap
  unfold maxLen at hcap
  have H := Lib.hid hl
  have HK := Lib.hid hk
  clear hl hk
  go_enter Try.func8, Try.ntmps8
  go_upto_region 1 with fail
  go_cut [0] (fun u wx => ∃ (n1 : Nat) (l : List UInt8), u = .slice A n1 c ∧ Sl w w.heap.size A n1 c (bv l) ∧ n1 ≤ 60 ∧ w = wx)
  case first =>
    go_wp2_with fail
    all_goals go_meet
    · exact ⟨60, l0.take 60, rfl, by rw [bv_take]; exact H.out.take (by omega), by omega, rfl⟩
    · exact ⟨n, l0, rfl, H.out, by omega, rfl⟩
  case rest =>
    obtain ⟨n1, l, rfl, hl, hn1, rfl⟩ := hcut
    have hlen : l.length = n1 := by rw [← bv_len]; exact hl.len
    obtain ⟨A3, c3, w3, hap, hown3, hb3⟩ := append_row (P := Try.prog) (ty := 24) Try.underlying24 hi hz0 hz1 hz2 (own_empty w w.heap.size 5 (Nat.le_refl _)) (hl.lit_keep (Nat.le_refl _) (.cells #[] 5)) one_bv (by omega) (by simp)
    simp only [Nat.zero_add, List.nil_append] at hap hown3
    have hb3' : Below w.heap.size w w3 := ((Below.refl _ w).alloc (Nat.le_refl _) (.cells #[] 5)).trans hb3
    obtain ⟨A4, c4, w4, hap4, hown4, hb4⟩ := append_one (P := Try.prog) (ty := 24) Try.underlying24 hi hz0 hz1 hz2 hown3 (by omega) hb3'.size 128
    have hsl4 : Sl w4 w4.heap.size A4 (n1 + 1) c4 (bv (l ++ [128])) := by
      rw [bv_app]
      exact Sl.of_own hown4
    have HAP := Lib.hid hap
    have HAP4 := Lib.hid hap4
    have S4 := Lib.hid hsl4
    have B4 := Lib.hid (hb3'.trans hb4)
    have HLEN := Lib.hid hlen
    clear hl hap hap4 hown3 hown4 hb3 hb3' hb4 hsl4 hlen H
    go_wp2_with (first
      | (at_builtin; refine wpList_append_run rfl (.tmp 14) (.tmp 15) _ _ rfl rfl rfl HAP.out ?_)
      | (at_builtin; refine wpList_append_run rfl (.tmp 16) (.tmp 17) _ _ rfl rfl rfl HAP4.out ?_))
    refine (read_any S4.out (by omega)).mono ?_
    rintro e w5 ⟨r, rfl, hr5, hb5⟩
    have HBS : Hid (w.heap.size ≤ r) := Nat.le_trans B4.out.size hr5.base
    have R5 := Lib.hid hr5
    have B5 := Lib.hid (below_step B4.out hb5)
    clear hr5 hb5
    go_wp2_with fail
    go_loopw [6] (fun i wr => WrRel w r w4.heap.size n1 l i wr) (fun i _ => n1 + 2 - (intOf i).toNat)
    case atStart => exact ⟨0, 0, 0, rfl, R5.out, .inr ⟨rfl, Nat.le_refl _, by omega⟩, B5.out, by omega⟩
    case round =>
      obtain ⟨k, p, q, rfl, hr, hq, hb, hk⟩ := hrel
      have R := Lib.hid hr
      have B := Lib.hid hb
      clear hr hb
      rcases hq with rfl | ⟨rfl, hkp, hpn⟩
      · by_cases hkn : k ≤ n1
        · go_wp2_with fail
          refine (wwrong R.out).mono ?_
          rintro e w7 ⟨rfl, rfl⟩
          go_wp2_with fail
          refine (wat R.out).mono ?_
          rintro e w7 ⟨rfl, rfl⟩
          go_wp2_with fail
          refine (wwrong R.out).mono ?_
          rintro e w7 ⟨rfl, rfl⟩
          go_wp2_with fail
          go_loopw [8] (fun i wz => ∃ k2 : Nat, i = .int .i64 (k2 : Int) ∧ k2 ≤ 20 ∧ Rdr wz 55 w4.heap.size r (l ++ [128]) p 7 ∧ Below w.heap.size w wz) (fun i _ => 20 - (intOf i).toNat)
          case atStart => exact ⟨0, rfl, by omega, R.out, B.out⟩
          case round =>
            obtain ⟨k2, rfl, hk20, hrz, hbz⟩ := hrel
            have RZ := Lib.hid hrz
            have BZ := Lib.hid hbz
            clear hrz hbz
            by_cases hlt : k2 < n2
            · by_cases h20 : k2 < 20
              · have ask := HK.out.below BZ.out
                obtain ⟨a1, a2, a3, a4, a5⟩ := ask
                obtain ⟨b2, o2, rfl, hb2, hcells⟩ := a4.resolve_left (by omega)
                have hkl : k2 < ks.length := by omega
                obtain ⟨g0, g1, g2⟩ := hcells k2 hkl
                generalize ks[k2].1 = x0 at *
                generalize ks[k2].2.1 = x1 at *
                generalize ks[k2].2.2 = x2 at *
                have C13 : Hid (∀ j, Calls Try.prog 13 #[.pointer (some ⟨r, 0, none⟩)] (wr.drewN j) fun e w' => e = .returned (.int .i64 0) ∧ w' = wr.drewN j) := fun j => wnum (RZ.out.drewN j) (by omega)
                have C24 : Hid (∀ j, Calls Try.prog 24 #[.pointer (some ⟨r, 0, none⟩), .int .i64 x1, .int .i64 x2] (wr.drewN j) fun e w' => e = .returned (.int .i64 0) ∧ w' = wr.drewN j) := fun j => win _ _ (RZ.out.drewN j) (by omega)
                have C12 : Hid (∀ j, Calls Try.prog 12 #[.pointer (some ⟨r, 0, none⟩), .int .i64 x1] (wr.drewN j) fun e w' => e = .returned (.string ⟨#[]⟩) ∧ w' = wr.drewN j) := fun j => wtext _ (RZ.out.drewN j) (by omega)
                have C18 : Hid (∀ j, Calls Try.prog 18 #[.pointer (some ⟨r, 0, none⟩)] (wr.drewN j) fun e w' => e = .returned (.int .i64 (p : Int)) ∧ w' = wr.drewN j) := fun j => wat (RZ.out.drewN j)
                have C17 : Hid (∀ j, Calls Try.prog 17 #[.pointer (some ⟨r, 0, none⟩)] (wr.drewN j) fun e w' => e = .returned (.int .i64 7) ∧ w' = wr.drewN j) := fun j => wwrong (RZ.out.drewN j)
                have C27 : Hid (∀ j, Calls Try.prog 27 #[.pointer (some ⟨r, 0, none⟩)] (wr.drewN j) fun e w' => e = .returned (.int .i64 7) ∧ w' = wr.drewN j) := fun j => wend (RZ.out.drewN j) (by omega)
                clear a1 a4 a5 hcells
                go_wp2_with fail
                go_quiet ((first
                  | (go_at_call 13; exact Calls.quiet_of_same (C13.out _))
                  | (go_at_call 24; exact Calls.quiet_of_same (C24.out _))
                  | (go_at_call 12; exact Calls.quiet_of_same (C12.out _))
                  | (go_at_call 18; exact Calls.quiet_of_same (C18.out _))
                  | (go_at_call 17; exact Calls.quiet_of_same (C17.out _))
                  | (go_at_call 27; exact Calls.quiet_of_same (C27.out _))))
                go_wp2_with fail
                go_roundw
                case rel => exact ⟨k2 + 1, by go_num, by omega, RZ.out.drewN _, below_drewN BZ.out _⟩
                case measure => simp [intOf]; omega
              · go_wp2_with fail
                refine (runs_any _).mono ?_
                rintro e w9 ⟨rfl, hb9⟩
                have B9 := Lib.hid (below_step BZ.out hb9)
                clear hb9
                go_wp2_with fail
                go_ret
                exact ⟨rfl, B9.out⟩
            · go_wp2_with fail
              refine (runs_any _).mono ?_
              rintro e w9 ⟨rfl, hb9⟩
              have B9 := Lib.hid (below_step BZ.out hb9)
              clear hb9
              go_wp2_with fail
              go_ret
              exact ⟨rfl, B9.out⟩
        · have hkn' : n1 < k := by omega
          go_wp2_with fail
          refine (wat R.out).mono ?_
          rintro e w7 ⟨rfl, rfl⟩
          go_wp2_with fail
          refine (wwrong R.out).mono ?_
          rintro e w7 ⟨rfl, rfl⟩
          go_wp2_with fail
          go_loopw [8] (fun i wz => ∃ k2 : Nat, i = .int .i64 (k2 : Int) ∧ k2 ≤ 20 ∧ Rdr wz 55 w4.heap.size r (l ++ [128]) p 7 ∧ Below w.heap.size w wz) (fun i _ => 20 - (intOf i).toNat)
          case atStart => exact ⟨0, rfl, by omega, R.out, B.out⟩
          case round =>
            obtain ⟨k2, rfl, hk20, hrz, hbz⟩ := hrel
            have RZ := Lib.hid hrz
            have BZ := Lib.hid hbz
            clear hrz hbz
            by_cases hlt : k2 < n2
            · by_cases h20 : k2 < 20
              · have ask := HK.out.below BZ.out
                obtain ⟨a1, a2, a3, a4, a5⟩ := ask
                obtain ⟨b2, o2, rfl, hb2, hcells⟩ := a4.resolve_left (by omega)
                have hkl : k2 < ks.length := by omega
                obtain ⟨g0, g1, g2⟩ := hcells k2 hkl
                generalize ks[k2].1 = x0 at *
                generalize ks[k2].2.1 = x1 at *
                generalize ks[k2].2.2 = x2 at *
                have C13 : Hid (∀ j, Calls Try.prog 13 #[.pointer (some ⟨r, 0, none⟩)] (wr.drewN j) fun e w' => e = .returned (.int .i64 0) ∧ w' = wr.drewN j) := fun j => wnum (RZ.out.drewN j) (by omega)
                have C24 : Hid (∀ j, Calls Try.prog 24 #[.pointer (some ⟨r, 0, none⟩), .int .i64 x1, .int .i64 x2] (wr.drewN j) fun e w' => e = .returned (.int .i64 0) ∧ w' = wr.drewN j) := fun j => win _ _ (RZ.out.drewN j) (by omega)
                have C12 : Hid (∀ j, Calls Try.prog 12 #[.pointer (some ⟨r, 0, none⟩), .int .i64 x1] (wr.drewN j) fun e w' => e = .returned (.string ⟨#[]⟩) ∧ w' = wr.drewN j) := fun j => wtext _ (RZ.out.drewN j) (by omega)
                have C18 : Hid (∀ j, Calls Try.prog 18 #[.pointer (some ⟨r, 0, none⟩)] (wr.drewN j) fun e w' => e = .returned (.int .i64 (p : Int)) ∧ w' = wr.drewN j) := fun j => wat (RZ.out.drewN j)
                have C17 : Hid (∀ j, Calls Try.prog 17 #[.pointer (some ⟨r, 0, none⟩)] (wr.drewN j) fun e w' => e = .returned (.int .i64 7) ∧ w' = wr.drewN j) := fun j => wwrong (RZ.out.drewN j)
                have C27 : Hid (∀ j, Calls Try.prog 27 #[.pointer (some ⟨r, 0, none⟩)] (wr.drewN j) fun e w' => e = .returned (.int .i64 7) ∧ w' = wr.drewN j) := fun j => wend (RZ.out.drewN j) (by omega)
                clear a1 a4 a5 hcells
                go_wp2_with fail
                go_quiet ((first
                  | (go_at_call 13; exact Calls.quiet_of_same (C13.out _))
                  | (go_at_call 24; exact Calls.quiet_of_same (C24.out _))
                  | (go_at_call 12; exact Calls.quiet_of_same (C12.out _))
                  | (go_at_call 18; exact Calls.quiet_of_same (C18.out _))
                  | (go_at_call 17; exact Calls.quiet_of_same (C17.out _))
                  | (go_at_call 27; exact Calls.quiet_of_same (C27.out _))))
                go_wp2_with fail
                go_roundw
                case rel => exact ⟨k2 + 1, by go_num, by omega, RZ.out.drewN _, below_drewN BZ.out _⟩
                case measure => simp [intOf]; omega
              · go_wp2_with fail
                refine (runs_any _).mono ?_
                rintro e w9 ⟨rfl, hb9⟩
                have B9 := Lib.hid (below_step BZ.out hb9)
                clear hb9
                go_wp2_with fail
                go_ret
                exact ⟨rfl, B9.out⟩
            · go_wp2_with fail
              refine (runs_any _).mono ?_
              rintro e w9 ⟨rfl, hb9⟩
              have B9 := Lib.hid (below_step BZ.out hb9)
              clear hb9
              go_wp2_with fail
              go_ret
              exact ⟨rfl, B9.out⟩
      · have hkn : k ≤ n1 := by omega
        have HE := Lib.hid (rNum_ends (l := l) (p := p) (by rw [HLEN.out]; exact hpn))
        go_wp2_with fail
        refine (wwrong R.out).mono ?_
        rintro e w7 ⟨rfl, rfl⟩
        go_wp2_with fail
        refine (rnum_any R.out).mono ?_
        rintro e w7 ⟨rfl, hr7, ho7⟩
        have R7 := Lib.hid hr7
        have B7 := Lib.hid (only_step B.out ho7 HBS.out)
        clear hr7 ho7
        go_wp2_with fail
        go_roundw
        case rel =>
          refine ⟨k + 1, _, _, by go_num, R7.out, ?_, B7.out, by omega⟩
          have e1 := HE.out
          have e2 := HLEN.out
          omega
        case measure => simp [intOf]; omega
end Go.Proofs.Ytkmpckfpoaakfaa
