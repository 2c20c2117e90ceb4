/- seen.id: a name that wasn't met. -/
import Derived.Test.YtjpkemamfccfdaaGreatDoorRRSeen
namespace Go.Proofs.YtjpkemamfccfdaaGreatDoor
set_option linter.unusedVariables false
open Go.RowKit

theorem idS_ok {x : ByteArray} {s : Seen} (h : Named (bl x)) (hm : metB x s.ids = false) : idS x s = some ⟨s.ids ++ [x], s.n⟩ := by unfold idS; rw [if_pos ⟨h, hm⟩]
theorem idS_met {x : ByteArray} {s : Seen} (hm : metB x s.ids = true) : idS x s = none := by unfold idS; rw [if_neg (by rintro ⟨_, h⟩; rw [hm] at h; cases h)]
theorem idS_bad {x : ByteArray} {s : Seen} (h : ¬ Named (bl x)) : idS x s = none := by unfold idS; rw [if_neg (fun hh => h hh.1)]
/-- One more name, and where it is kept. -/
theorem Sn.push {w : World} {g n c : Nat} {A : Option Addr} {s : Seen} (h : Sn w g A n c s) (x : ByteArray) (hn : n ≤ 500000) :
    ∃ A' c' w', (Builtin.append_ #[59, 59] 59 #[.slice A n c, .slice (some ⟨w.heap.size, 0, none⟩) 1 1]).run Tryz.prog (w.alloc (.cells #[.string x] 9)) = .ok (.slice A' (n + 1) c') w' ∧
      Ob w' g 102 #[.slice A n c, .int .i64 s.n] ∧ SnF g (Value.slice A n c).ownBlock w (w'.setCell ⟨g, 0, none⟩ (.slice A' (n + 1) c')) ∧ Rn w (Value.slice A n c).ownBlock (Value.slice A' (n + 1) c').ownBlock ∧
      Sn (w'.setCell ⟨g, 0, none⟩ (.slice A' (n + 1) c')) g A' (n + 1) c' ⟨s.ids ++ [x], s.n⟩ := by
  obtain ⟨i, hi, hz, hs, hb⟩ := info_of strinfo
  have hb0 : Below w.heap.size w (w.alloc (.cells #[.string x] 9)) := (Below.refl _ _).alloc (Nat.le_refl _) _
  have hown : (w.alloc (.cells #[.string x] 9)).ownsRow (g + 1) 9 1 (.slice A n c) n (svs s.ids) := h.2.1.alloc _
  have hy : Sl (w.alloc (.cells #[.string x] 9)) (w.heap.size + 1) (some ⟨w.heap.size, 0, none⟩) 1 1 [.string x] := Sl.lit w _ [.string x] 1 rfl (by unfold maxLen; omega)
  have hsz : (w.alloc (.cells #[.string x] 9)).heap.size = w.heap.size + 1 := size_al _ _
  have hglt := h.1.lt
  obtain ⟨A', c', w', r, o, b, gb, ob⟩ := append_cells (ty := 59) Tryz.underlying59 hi hz rfl hs hb (by omega) hown hy (by intro v hv; simp at hv; subst hv; rfl) (by omega) (by omega)
  have hrow := h.lt
  have hog : Ob w' g 102 #[.slice A n c, .int .i64 s.n] := by
    refine (h.1.below hb0 hglt).keep (gb.block g (by omega) ?_)
    intro e
    have := (hrow g e.symm).1
    omega
  refine ⟨A', c', w', r, hog, ?_, ?_, ?_⟩
  · refine ⟨gb.os, gb.tape, gb.output, ?_, fun k hk hg hr => ?_⟩
    · have h1 := gb.size
      have h2 := (Only.refl.setCell (p := ⟨g, 0, none⟩) rfl (.slice A' (n + 1) c') : Only g w' _).size
      omega
    · have e1 : (w'.setCell ⟨g, 0, none⟩ (.slice A' (n + 1) c')).heap[k]? = w'.heap[k]? := (Only.refl.setCell (p := ⟨g, 0, none⟩) rfl _ : Only g w' _).heap (by have := gb.size; omega) hg
      rw [e1, gb.block k (by omega) (fun e => hr e)]
      exact hb0.block k hk
  · rcases ob with e | e
    · exact .inl e
    · exact .inr ⟨_, e, by omega⟩
  · refine ⟨hog.put 0 _, ?_, by simp [h.2.2]⟩
    have hne : ∀ b, (Value.slice A' (n + 1) c').ownBlock = some b → b ≠ g := by
      intro b hb' e
      have := (World.ownsRow.lt o b hb').1
      omega
    have hk := World.ownsRow.kept o (row := some g) (Only.refl.setCell (p := ⟨g, 0, none⟩) rfl (.slice A' (n + 1) c') : Only g w' _) (by
      cases hv : (Value.slice A' (n + 1) c').ownBlock with
      | none => exact .inl rfl
      | some b => exact .inr (by intro e; injection e with e; exact hne b hv e))
    rw [svs_app]
    exact hk

set_option maxRecDepth 100000 in
set_option maxHeartbeats 3200000 in
theorem seenid_any {w : World} {g n c : Nat} {A : Option Addr} {s : Seen} (h : Sn w g A n c s) (x : ByteArray) (hx : x.size ≤ maxLen) (hn : n ≤ 400000) :
    Calls Tryz.prog 66 #[.pointer (some ⟨g, 0, none⟩), .string x] w fun e w' => ∃ A' n' c', e = .returned (.bool (idS x s).isSome) ∧ SnF g (Value.slice A n c).ownBlock w w' ∧ Rn w (Value.slice A n c).ownBlock (Value.slice A' n' c').ownBlock ∧ n' ≤ n + 1 ∧ (∀ s', idS x s = some s' → Sn w' g A' n' c' s') := by
  have HN := Lib.hid (refname_any x hx)
  have H := Lib.hid h
  have hc0 := h.1.cell 0
  have hle : n ≤ c ∧ c ≤ maxLen := ⟨(Sl.of_own h.2.1).le, (Sl.of_own h.2.1).cap⟩
  have hcm := hle.2
  have hnc := hle.1
  unfold maxLen at hcm
  clear hle h
  by_cases hnm : Named (bl x)
  case neg =>
    have e : decide (Named x.data.toList) = false := decide_eq_false hnm
    rw [e] at HN
    have HE : Hid (idS x s = none) := idS_bad hnm
    clear hnm e
    go_enter Tryz.func66, Tryz.ntmps66
    go_wp2_with (go_at_call 20; refine (HN.out _).mono ?_; rintro e w1 ⟨rfl, hw1⟩; rw [hw1]; clear hw1)
    go_ret
    exact ⟨A, n, c, ret_bool (by rw [HE.out]; rfl), SnF.refl, Rn.refl, by omega, fun s' hs' => by rw [HE.out] at hs'; cases hs'⟩
  case pos =>
    have e : decide (Named x.data.toList) = true := decide_eq_true hnm
    rw [e] at HN
    have HNM := Lib.hid hnm
    clear hnm e
    go_enter Tryz.func66, Tryz.ntmps66
    go_wp2_with (go_at_call 20; refine (HN.out _).mono ?_; rintro e w1 ⟨rfl, hw1⟩; rw [hw1]; clear hw1)
    go_loopw [15] (fun i wr => ∃ k : Nat, k ≤ n ∧ i = .int .i64 k ∧ NotTo s.ids x k ∧ wr = w) (fun i _ => n - (intOf i).toNat)
    case atStart => exact ⟨0, Nat.zero_le _, rfl, fun j y _ hj => by omega, rfl⟩
    case round =>
      obtain ⟨k, hk, rfl, ht, hwr⟩ := hrel
      subst hwr
      have HT := Lib.hid ht
      clear ht
      by_cases hlt : k < n
      · have hkl : k < s.ids.length := by rw [H.out.2.2]; exact hlt
        obtain ⟨y, hy⟩ : ∃ y, s.ids[k]? = some y := ⟨_, List.getElem?_eq_getElem hkl⟩
        obtain ⟨b, o, rfl, hcy⟩ := H.out.at_ hy
        by_cases he : x = y
        · have hm : (x.toList == y.toList) = true := by rw [he]; simp
          have HE : Hid (idS x s = none) := idS_met (metB_at (by rw [he]; exact hy))
          clear hkl hy he
          go_wp2_with fail
          go_ret
          exact ⟨some ⟨b, o, none⟩, n, c, ret_bool (by rw [HE.out]; rfl), SnF.refl, Rn.refl, by omega, fun s' hs' => by rw [HE.out] at hs'; cases hs'⟩
        · have hm : (x.toList == y.toList) = false := by
            rw [beq_eq_false_iff_ne, ByteArray.toList_eq, ByteArray.toList_eq]
            exact fun e => he (text_eq e)
          have HE := Lib.hid he
          have HY := Lib.hid hy
          clear hkl hy he
          go_wp2_with fail
          go_roundw
          case rel =>
            refine ⟨k + 1, by omega, by go_num, fun j z hz hj => ?_, trivial⟩
            by_cases hjk : j = k
            · subst hjk
              have := Option.some.inj (hz.symm.trans HY.out)
              rw [this]
              exact fun e => HE.out e.symm
            · exact HT.out j z hz (by omega)
          case measure => simp [intOf]; omega
      · obtain rfl : k = n := by omega
        have HE : Hid (idS x s = some ⟨s.ids ++ [x], s.n⟩) := idS_ok HNM.out (HT.out.all H.out.2.2)
        obtain ⟨A', c', w2, hap, hog, hsf, hrn, hsn⟩ := H.out.push x (by omega)
        have HAP := Lib.hid hap
        have HSF := Lib.hid hsf
        have HRN := Lib.hid hrn
        have HSN := Lib.hid hsn
        have f0 := hog.frozen 0
        have g0 := hog.cell 0
        have gl := hog.lt
        clear hap hog hsf hrn hsn
        go_wp2_with (at_builtin; refine wpList_append_run rfl _ _ _ _ rfl rfl rfl HAP.out ?_)
        go_ret
        exact ⟨A', k + 1, c', ret_bool (by rw [HE.out]; rfl), HSF.out, HRN.out, by omega, fun s' hs' => by rw [HE.out] at hs'; injection hs' with hs'; rw [← hs']; exact HSN.out⟩
end Go.Proofs.YtjpkemamfccfdaaGreatDoor
