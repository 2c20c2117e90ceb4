/- Several texts in one: EvalParts, OperApp, EvalDec, EvalPol, LexMath, ParMath, Parse1, Parse2, Parse3, Parse4, ParLen. -/
import Derived.Test.YtmoglaknmlhpgaaGreatFifC
import Derived.Test.YtmoglaknmlhpgaaGreatFifA
import Derived.Test.YtmoglaknmlhpgaaGreatFifB
import Derived.StillTailTactics
import Derived.Laws.ResultCell
/- Package eval: joined, along. -/
namespace Go.Proofs.YtmoglaknmlhpgaaGreat
set_option linter.unusedVariables false
open Go.RowKit
attribute [local go_sem] eq0 feq2 eq4 fgt0 gt2 ord_eq ord_gt ord_lt ev_store

theorem map_step {α β : Type} (f : α → β) {l : List α} {k : Nat} {x : α} (h : l[k]? = some x) : (l.take (k + 1)).map f = (l.take k).map f ++ [f x] := by
  obtain ⟨hk, e⟩ := List.getElem?_eq_some_iff.1 h
  rw [List.take_succ_eq_append_getElem hk, e, List.map_append]
  rfl
set_option maxRecDepth 100000 in
set_option maxHeartbeats 1600000 in
theorem joined_any {w : World} {R : Nat → Prop} {A : Option Addr} {n c : Nat} {l : List Res} (alg : Int) (h : Rss w R A n c l) (hn : n ≤ 700000) :
    Calls Tryz.prog 42 #[.int .i64 alg, .slice A n c] w fun e w' => e = .returned (.complex .f64 (fl (joinV alg l).1) (fl (joinV alg l).2)) ∧ Below w.heap.size w w' := by
  have hle := Rw.le h
  have hcap := Rw.cap h
  have HL := Lib.hid (Rw.len h)
  unfold maxLen at hcap
  have H := Lib.hid h
  obtain ⟨⟨⟨p, d⟩, e⟩, hq⟩ : ∃ q, allK alg (l.map Res.m) = q := ⟨_, rfl⟩
  have HQ := Lib.hid hq
  have HJ : Hid (joinV alg l = (p, d)) := by show _ = _; unfold joinV; rw [hq]
  generalize joinV alg l = j at *
  clear h hq
  go_enter Tryz.func42, Tryz.ntmps42
  go_wp2
  go_loopw [5, 12] (fun out i wr => ∃ (k : Nat) (A' : Option Addr) (c' : Nat), k ≤ n ∧ i = .int .i64 k ∧ out = .slice A' k c' ∧ OwM wr w.heap.size A' k c' ((l.take k).map Res.m) ∧ Below w.heap.size w wr) (fun out i _ => n - (intOf i).toNat)
  case atStart => exact ⟨0, none, 0, Nat.zero_le _, rfl, rfl, OwM.nil _ _ (Nat.le_refl _), Below.refl _ _⟩
  case round =>
    obtain ⟨k, A', c', hk, rfl, rfl, ho, hb⟩ := hrel
    have HO := Lib.hid ho
    have HB := Lib.hid hb
    clear ho hb
    by_cases hlt : k < n
    · obtain ⟨b, o, r, Ax, nx, cx, rfl, hRb, hbl, hx, ⟨x0, x1⟩, hin⟩ := (H.out.keep (Kept.all HB.out R) (fun _ h _ => h)).at_ hlt
      have HF := Lib.hid (map_step Res.m hx)
      obtain ⟨⟨rp, rd⟩, rob⟩ := r
      simp only at x0 x1
      have a1 : Below wr.heap.size wr (wr.alloc (.cells #[.complex .f64 (fl rp) (fl rd), .slice Ax nx cx] 33)) := (Below.refl _ _).alloc (Nat.le_refl _) _
      obtain ⟨A2, c2, w3, r3, o3, b3⟩ := (HO.out.below a1).push (m := (rp, rd)) (by omega) 134
      rw [size_al] at r3
      simp only at r3
      have R3 := Lib.hid r3
      have O3 := Lib.hid o3
      have B3 := Lib.hid (HB.out.trans ((a1.mono HB.out.size).trans b3))
      clear hx hin a1 r3 o3 b3
      go_wp2_with (first
        | (at_builtin; refine wpList_append_run (o := ⟨some 20, _, _, _, _, _⟩) rfl _ _ _ _ rfl rfl rfl R3.out ?_))
      go_roundw
      case rel => exact ⟨k + 1, A2, c2, by omega, by go_num, rfl, by rw [HF.out]; exact O3.out, B3.out⟩
      case measure => simp [intOf]; omega
    · obtain rfl : k = n := by omega
      have ho := HO.out
      rw [List.take_of_length_le (by have := HL.out; omega)] at ho
      have HA := Lib.hid (comball_any (w := wr) alg ho.sl HQ.out)
      clear ho
      go_wp2_with fail
      refine HA.out.mono ?_
      rintro z w' ⟨rfl, rfl⟩
      go_wp2_with fail
      go_ret
      exact ⟨by rw [HJ.out]; rfl, HB.out⟩
theorem obS_step {l : List Res} {k : Nat} {x : Res} (h : l[k]? = some x) : obS (l.take (k + 1)) = obS (l.take k) + x.ob.length := by
  obtain ⟨hk, e⟩ := List.getElem?_eq_some_iff.1 h
  rw [List.take_succ_eq_append_getElem hk, e, obS_app]
  rfl
theorem along_step {alg : Int} {m : Mk} {l : List Res} {k : Nat} {x : Res} (h : l[k]? = some x) (hn : alg = 3 → ∀ r ∈ l.take k, r.m ≠ m) : alongV alg m (l.take (k + 1)) = alongV alg m (l.take k) ++ if x.m = m then x.ob else [] := by
  obtain ⟨hk, e⟩ := List.getElem?_eq_some_iff.1 h
  rw [List.take_succ_eq_append_getElem hk, e]
  have h1 : alongV alg m [x] = if x.m = m then x.ob else [] := by
    unfold alongV
    simp only [alongV, List.append_nil]
    split
    · split <;> rfl
    · rfl
  by_cases h3 : alg = 3
  · have h0 := along_none (alg := alg) [] (hn h3)
    rw [List.append_nil] at h0
    rw [along_none [x] (hn h3), h0, h1]
    rfl
  · rw [along_app h3, h1]
theorem along_stop {alg : Int} {m : Mk} {l : List Res} {k : Nat} {x : Res} (h : l[k]? = some x) (h3 : alg = 3) (hn : ∀ r ∈ l.take k, r.m ≠ m) (hx : x.m = m) : alongV alg m l = alongV alg m (l.take (k + 1)) := by
  obtain ⟨hk, e⟩ := List.getElem?_eq_some_iff.1 h
  conv => lhs; rw [← List.take_append_drop k l, List.drop_eq_getElem_cons hk, e]
  rw [List.take_succ_eq_append_getElem hk, e, along_none _ hn, along_none _ hn]
  unfold alongV
  rw [if_pos hx, if_pos h3, if_pos hx, if_pos h3]
set_option maxRecDepth 100000 in
set_option maxHeartbeats 1600000 in
theorem along_any {w : World} {R : Nat → Prop} {A : Option Addr} {n c : Nat} {l : List Res} (alg : Int) (p d : Fin 5) (h : Rss w R A n c l) (hn : obS l ≤ 700000) :
    Calls Tryz.prog 43 #[.int .i64 alg, .slice A n c, .complex .f64 (fl p) (fl d)] w fun e w' => ∃ A' n' c', e = .returned (.slice A' n' c') ∧ Below w.heap.size w w' ∧ OwD w' w.heap.size A' n' c' (alongV alg (p, d) l) := by
  have hle := Rw.le h
  have hcap := Rw.cap h
  have HL := Lib.hid (Rw.len h)
  unfold maxLen at hcap
  have H := Lib.hid h
  clear h
  have HN := Lib.hid hn
  go_enter Tryz.func43, Tryz.ntmps43
  go_wp2
  go_loopw [7, 12] (fun out i wr => ∃ (k : Nat) (A' : Option Addr) (n' c' : Nat), k ≤ n ∧ i = .int .i64 k ∧ out = .slice A' n' c' ∧ (n' ≤ obS (l.take k) ∧ OwD wr w.heap.size A' n' c' (alongV alg (p, d) (l.take k)) ∧ (alg = 3 → ∀ r ∈ l.take k, r.m ≠ (p, d))) ∧ Below w.heap.size w wr) (fun out i _ => n - (intOf i).toNat)
  case atStart => exact ⟨0, none, 0, 0, Nat.zero_le _, rfl, rfl, ⟨Nat.zero_le _, OwD.nil _ _ (Nat.le_refl _), fun _ r hr => by simp at hr⟩, Below.refl _ _⟩
  case round =>
    obtain ⟨k, A', n', c', hk, rfl, rfl, ho, hb⟩ := hrel
    have HO := Lib.hid ho
    have HB := Lib.hid hb
    clear ho hb
    by_cases hlt : k < n
    · obtain ⟨b, o, r, Ax, nx, cx, rfl, hRb, hbl, hx, ⟨x0, x1⟩, hin⟩ := (H.out.keep (Kept.all HB.out R) (fun _ h _ => h)).at_ hlt
      have HX := Lib.hid hx
      have HF := Lib.hid (along_step hx HO.out.2.2)
      have HS := Lib.hid (obS_step hx)
      have HS2 := Lib.hid (obS_take l (k + 1))
      obtain ⟨⟨rp, rd⟩, rob⟩ := r
      simp only at x0 x1 hin
      have a1 : Below wr.heap.size wr (wr.alloc (.cells #[.complex .f64 (fl rp) (fl rd), .slice Ax nx cx] 33)) := (Below.refl _ _).alloc (Nat.le_refl _) _
      have HNX : Hid (nx = rob.length) := (Rw.len hin).symm
      by_cases hm : (rp, rd) = (p, d)
      · obtain ⟨rfl, rfl⟩ := Prod.mk.inj hm
        obtain ⟨A2, c2, w3, r3, o3, b3⟩ := (HO.out.2.1.below a1).app (hin.keep (Kept.all a1 R) (fun _ h _ => h)) (by have h1 := HO.out.1; have h2 := HS.out; have h3 := HS2.out; have h4 := HNX.out; have h5 := HN.out; simp only at h2; omega) 26
        have R3 := Lib.hid r3
        have O3 := Lib.hid o3
        have B3 := Lib.hid (HB.out.trans ((a1.mono HB.out.size).trans b3))
        have HE : Hid (alongV alg (rp, rd) (l.take (k + 1)) = alongV alg (rp, rd) (l.take k) ++ rob) := HF.out.trans (by rw [if_pos rfl])
        have HLen : Hid (n' + nx ≤ obS (l.take (k + 1))) := by have h1 := HO.out.1; have h2 := HS.out; have h4 := HNX.out; simp only at h2; show _ ≤ _; omega
        clear hx hin a1 r3 o3 b3 hm HF
        by_cases h3 : alg = 3
        · have hb3 : (alg == 3) = true := by rw [beq_iff_eq]; exact h3
          have HW := Lib.hid (along_stop HX.out h3 (HO.out.2.2 h3) rfl)
          clear h3
          go_wp2_with (first
            | (at_builtin; refine wpList_append_run (o := ⟨some 23, _, _, _, _, _⟩) rfl _ _ _ _ rfl rfl rfl R3.out ?_))
          go_ret
          exact ⟨A2, n' + nx, c2, rfl, B3.out, by rw [HW.out, HE.out]; exact O3.out⟩
        · have hb3 : (alg == 3) = false := by rw [beq_eq_false_iff_ne]; exact h3
          have H3 := Lib.hid h3
          clear h3
          go_wp2_with (first
            | (at_builtin; refine wpList_append_run (o := ⟨some 23, _, _, _, _, _⟩) rfl _ _ _ _ rfl rfl rfl R3.out ?_))
          go_roundw
          case rel => exact ⟨k + 1, A2, n' + nx, c2, by omega, by go_num, rfl, ⟨HLen.out, by rw [HE.out]; exact O3.out, fun h => absurd h H3.out⟩, B3.out⟩
          case measure => simp [intOf]; omega
      · have hmb : (rp == p && rd == d) = false := by
          rw [Bool.eq_false_iff]
          intro h
          rw [Bool.and_eq_true, beq_iff_eq, beq_iff_eq] at h
          exact hm (by rw [h.1, h.2])
        have HE : Hid (alongV alg (p, d) (l.take (k + 1)) = alongV alg (p, d) (l.take k)) := HF.out.trans (by rw [if_neg hm, List.append_nil])
        have HM : Hid (alg = 3 → ∀ r ∈ l.take (k + 1), r.m ≠ (p, d)) := fun h3 r hr => by
          obtain ⟨hk', e⟩ := List.getElem?_eq_some_iff.1 HX.out
          rw [List.take_succ_eq_append_getElem hk', e] at hr
          rcases List.mem_append.1 hr with hr | hr
          · exact HO.out.2.2 h3 r hr
          · simp at hr
            subst hr
            exact hm
        have A1 := Lib.hid a1
        clear hx hin a1 hm HF
        go_wp2_with fail
        go_roundw
        case rel => exact ⟨k + 1, A', n', c', by omega, by go_num, rfl, ⟨by have h1 := HO.out.1; have h2 := HS.out; omega, by rw [HE.out]; exact HO.out.2.1.below A1.out, HM.out⟩, below_step HB.out A1.out⟩
        case measure => simp [intOf]; omega
    · obtain rfl : k = n := by omega
      go_wp2
      go_ret
      have ho := HO.out
      rw [List.take_of_length_le (by have := HL.out; omega)] at ho
      exact ⟨A', n', c', rfl, HB.out, ho.2.1⟩
end Go.Proofs.YtmoglaknmlhpgaaGreat
/- A builtin append whose run is known, as an operation of a region's head. -/
namespace Go.Proofs.YtmoglaknmlhpgaaGreat
set_option linter.unusedVariables false
open Go.RowKit

theorem oper_append {P : Program} {o : Oper} {a : Act} {w w' : World} {K : Act → World → Prop} {Q : Exit → Act → World → Prop} (s x : Operand) (t u : TypeId)
    (hop : o.op = Op.call { callee := Callee.builtin Builtin.append, args := #[s, x], argTypes := #[t, u] }) {sv xv v' : Value} (hs : a.eval s = sv) (hx : a.eval x = xv) (hrun : (Builtin.append_ #[t, u] o.type #[sv, xv]).run P w = .ok v' w') (hK : K (a.put o.dst v') w') : Oper.wp P o a w K Q := by
  unfold Oper.wp
  simp [execOp, hop, resolve, invoke, builtin, hs, hx, hrun, Result.andThen]
  exact hK
end Go.Proofs.YtmoglaknmlhpgaaGreat
/- Package eval: parts, decided, Policy. -/
namespace Go.Proofs.YtmoglaknmlhpgaaGreat
set_option linter.unusedVariables false
open Go.RowKit
attribute [local go_sem] eq0 feq2 eq4 fgt0 gt2 ord_eq ord_gt ord_lt ev_store

def RightAt (p : Pol) : Prop := ∃ d s s', d ≤ 4 ∧ polS d p s = (0, s')
theorem right_at {p : Pol} (h : rightE p = 0) : RightAt p := ⟨4, ⟨[], 0⟩, (polS 4 p ⟨[], 0⟩).2, by omega, by unfold rightE at h; rw [← h]⟩
theorem dut_short {o : Dut} (h : dutE o = 0) : o.arg.size ≤ 1000000 := by
  unfold dutE at h
  split at h
  · rename_i hc
    have := hc.2.2.2
    unfold Named at this
    have h1 := this.1.2
    have : o.arg.size = (bl o.arg).length := by
      show o.arg.data.size = o.arg.data.toList.length
      exact Array.length_toList.symm
    omega
  · cases h
theorem firstE_all {α : Type} {f : α → Int} : ∀ {l : List α}, firstE f l = 0 → ∀ x ∈ l, f x = 0
  | [], _, x, hx => by simp at hx
  | y :: l, h, x, hx => by
    simp only [firstE] at h
    split at h
    · rename_i h0; exact absurd h h0
    · rename_i h0
      rcases List.mem_cons.1 hx with rfl | hx
      · simpa using h0
      · exact firstE_all h x hx
theorem ob_short {l : List Dut} (h : obE l = 0) : ShortD l := fun o ho => by
  unfold obE at h
  split at h
  · cases h
  · exact dut_short (firstE_all h o ho)
theorem RightAt.all {p : Pol} (h : RightAt p) : (∀ k ∈ p.kids, RightAt k) ∧ (obE p.ob = 0 ∧ tgE p.tg = 0) ∧ (∀ r ∈ p.rules, tgE r.tg = 0 ∧ exprE r.cond = 0 ∧ obE r.ob = 0) ∧ szP p ≤ 700000 ∧ p.rules.length ≤ 16 ∧ p.kids.length ≤ 16 := by
  obtain ⟨d, s, s', hd, e⟩ := h
  match d, hd, e with
  | 0, _, e => simp [polS] at e
  | d + 1, hd, e =>
    have hc := sz_cap (d + 1) e
    obtain ⟨_, h2, h3, h4, h5, s1, s2, h6, h7⟩ := polE_parts e
    have hcap : capP (d + 1) ≤ 700000 := by
      rcases (show d = 0 ∨ d = 1 ∨ d = 2 ∨ d = 3 by omega) with rfl | rfl | rfl | rfl <;> decide
    refine ⟨fun k hk => ?_, ⟨h3, h2⟩, fun r hr => ?_, by omega, h4, h5⟩
    · obtain ⟨x, y, e'⟩ := firsts_all h7 k hk
      exact ⟨d, x, y, by omega, e'⟩
    · obtain ⟨x, y, e'⟩ := firsts_all h6 r hr
      exact rule_parts e'

def DecOk (d : Nat) : Prop :=
  ∀ {ask : List Giv} {w : World} {R R2 : Nat → Prop} {A : Option Addr} {n c : Nat} {p : Pol} {A1 A2 A3 A4 : Option Addr} {n1 k1 n2 k2 n3 k3 n4 k4 : Nat}, RightAt p →
    Tg w R A1 n1 k1 p.tg → Rus w R A2 n2 k2 p.rules → Pls w R d A3 n3 k3 p.kids → Dus w R A4 n4 k4 p.ob → Gvs w R2 A n c ask → ShortG ask →
    Calls Tryz.prog 26 #[.agg #[.string p.id, .bool p.set, .int .i64 p.alg, .slice A1 n1 k1, .slice A2 n2 k2, .slice A3 n3 k3, .slice A4 n4 k4], .slice A n c] w
      fun e w' => ∃ A' n' c', e = .returned (.agg #[.complex .f64 (fl (evV ask p).m.1) (fl (evV ask p).m.2), .slice A' n' c']) ∧ Below w.heap.size w w' ∧ Dus w' (fun b => w.heap.size ≤ b) A' n' c' (evV ask p).ob
set_option maxRecDepth 100000 in
set_option maxHeartbeats 3200000 in
theorem evparts_any (d : Nat) (ih : ∀ d', d = d' + 1 → DecOk d') {ask : List Giv} {w : World} {R R2 : Nat → Prop} {A : Option Addr} {n c : Nat} {p : Pol} {A1 A2 A3 A4 : Option Addr} {n1 k1 n2 k2 n3 k3 n4 k4 : Nat} (hp : RightAt p)
    (h2 : Rus w R A2 n2 k2 p.rules) (h3 : Pls w R d A3 n3 k3 p.kids) (hA : Gvs w R2 A n c ask) (hG : ShortG ask) :
    Calls Tryz.prog 41 #[.agg #[.string p.id, .bool p.set, .int .i64 p.alg, .slice A1 n1 k1, .slice A2 n2 k2, .slice A3 n3 k3, .slice A4 n4 k4], .slice A n c] w
      fun e w' => ∃ A' n' c', e = .returned (.slice A' n' c') ∧ Below w.heap.size w w' ∧ Rss w' (fun b => w.heap.size ≤ b) A' n' c' (partsV ask p) := by
  have HRA := Lib.hid hp.all
  have hle2 := Rw.le h2
  have hcap2 := Rw.cap h2
  have hle3 := Rw.le h3
  have hcap3 := Rw.cap h3
  unfold maxLen at hcap2 hcap3
  have HL2 := Lib.hid (Rw.len h2)
  have HL3 := Lib.hid (Rw.len h3)
  have HB2 : Hid (n2 ≤ 16) := by have := hp.all.2.2.2.2.1; have := Rw.len h2; show _ ≤ _; omega
  have HB3 : Hid (n3 ≤ 16) := by have := hp.all.2.2.2.2.2; have := Rw.len h3; show _ ≤ _; omega
  have H2 := Lib.hid h2
  have H3 := Lib.hid h3
  have HA := Lib.hid hA
  have HIH := Lib.hid ih
  have OB0 := Ob.made w 28 #[.string p.id, .bool p.set, .int .i64 p.alg, .slice A1 n1 k1, .slice A2 n2 k2, .slice A3 n3 k3, .slice A4 n4 k4]
  have a0 : Below w.heap.size w (w.alloc (.cells #[.string p.id, .bool p.set, .int .i64 p.alg, .slice A1 n1 k1, .slice A2 n2 k2, .slice A3 n3 k3, .slice A4 n4 k4] 28)) := (Below.refl w.heap.size w).alloc (Nat.le_refl _) _
  have OB := Lib.hid OB0
  have A0 := Lib.hid a0
  have HV : Hid (partsV ask p = p.rules.map (ruleV ask) ++ p.kids.map (evV ask)) := rfl
  have q4 := OB0.cell 4
  clear hp h2 h3 hA OB0 a0 ih
  go_enter Tryz.func41, Tryz.ntmps41
  go_wp2
  go_loopw [5, 13] (fun out i wr => ∃ (k : Nat) (A' : Option Addr) (c' : Nat), k ≤ n2 ∧ i = .int .i64 k ∧ out = .slice A' k c' ∧ Gr 2 ResAt wr (w.alloc (.cells #[.string p.id, .bool p.set, .int .i64 p.alg, .slice A1 n1 k1, .slice A2 n2 k2, .slice A3 n3 k3, .slice A4 n4 k4] 28)).heap.size 33 A' k c' ((p.rules.take k).map (ruleV ask)) ∧ Below (w.alloc (.cells #[.string p.id, .bool p.set, .int .i64 p.alg, .slice A1 n1 k1, .slice A2 n2 k2, .slice A3 n3 k3, .slice A4 n4 k4] 28)).heap.size (w.alloc (.cells #[.string p.id, .bool p.set, .int .i64 p.alg, .slice A1 n1 k1, .slice A2 n2 k2, .slice A3 n3 k3, .slice A4 n4 k4] 28)) wr) (fun out i _ => n2 - (intOf i).toNat)
  case atStart => exact ⟨0, none, 0, Nat.zero_le _, rfl, rfl, Gr.nil _ _ (Nat.le_refl _), Below.refl _ _⟩
  case round =>
    obtain ⟨k, A', c', hk, rfl, rfl, ho, hb⟩ := hrel
    have HO := Lib.hid ho
    have HB := Lib.hid hb
    have HW := Lib.hid (below_step A0.out hb)
    have OW := Lib.hid (OB.out.below hb OB.out.lt)
    clear ho hb
    by_cases hlt : k < n2
    · obtain ⟨b, o, r, B1, m1, d1, B2, m2, d2, B3, m3, d3, rfl, hRb, hbl, hx, hid, ⟨x0, x1, x2, x3, x4⟩, t1, t2, t3⟩ := (H2.out.keep (Kept.all HW.out R) (fun _ h _ => h)).at_ hlt
      have HX := Lib.hid (map_step (ruleV ask) hx)
      have hr := HRA.out.2.2.1 r (List.mem_of_getElem? hx)
      have a1 : Below wr.heap.size wr (wr.alloc (.cells #[.string r.id, .bool r.deny, .slice B1 m1 d1, .slice B2 m2 d2, .slice B3 m3 d3] 61)) := (Below.refl _ _).alloc (Nat.le_refl _) _
      have hm3 : m3 ≤ 500000 := by have h1 := Rw.len t3; have h2 := ob_eight hr.2.2; omega
      have HC := Lib.hid (evrule_any (w := wr.alloc (.cells #[.string r.id, .bool r.deny, .slice B1 m1 d1, .slice B2 m2 d2, .slice B3 m3 d3] 61)) (t1.keep (Kept.all a1 R) (fun _ h _ => h)) (t2.keep (Kept.all a1 R) (fun _ h _ => h)) (t3.keep (Kept.all a1 R) (fun _ h _ => h)) (ob_short hr.2.2) hm3 (HA.out.keep (Kept.all (HW.out.trans (a1.mono HW.out.size)) R2) (fun _ h _ => h)) hG)
      have A1' := Lib.hid a1
      clear hx hid t1 t2 t3 hr a1 hm3
      generalize hv : ruleV ask r = v at *
      clear hv
      obtain ⟨⟨vp, vd⟩, vob⟩ := v
      obtain ⟨rid, rdeny, rtg, rcond, rob⟩ := r
      simp only at x0 x1 x2 x3 x4 HC A1'
      go_wp2_with fail
      refine HC.out.mono ?_
      rintro z w3 ⟨E1, e2, e3, rfl, hb, hd⟩
      have b1 : Below wr.heap.size wr w3 := below_step A1'.out hb
      have hsz := A1'.out.size
      obtain ⟨A5, c5, w5, r5, o5, b5⟩ := push_res (r := ⟨(vp, vd), vob⟩) (Gr.below keeps_res HO.out b1) (hd.keep (Kept.refl _ _) (fun b hb _ => HO.out.apart b (Nat.le_trans hsz hb))) (by have := HB2.out; omega)
      have R5 := Lib.hid r5
      have O5 := Lib.hid o5
      have B5 := Lib.hid (HB.out.trans ((b1.mono HB.out.size).trans b5))
      clear hb hd b1 hsz r5 o5 b5
      go_wp2_with (first
        | (at_builtin; refine wpList_append_run (o := ⟨some 22, _, _, _, _, _⟩) rfl _ _ _ _ rfl rfl rfl R5.out ?_))
      go_roundw
      case rel => exact ⟨k + 1, A5, c5, by omega, by go_num, rfl, by rw [HX.out]; exact O5.out, B5.out⟩
      case measure => simp [intOf]; omega
    · obtain rfl : n2 = k := by omega
      have hL := HO.out
      rw [List.take_of_length_le (by have := HL2.out; omega)] at hL
      have HR := Lib.hid hL
      have q5 := OW.out.cell 5
      clear hL HO
      go_wp2
      go_loopw [5, 27] (fun out i wq => ∃ (j : Nat) (A' : Option Addr) (c' : Nat), j ≤ n3 ∧ i = .int .i64 j ∧ out = .slice A' (n2 + j) c' ∧ Gr 2 ResAt wq (w.alloc (.cells #[.string p.id, .bool p.set, .int .i64 p.alg, .slice A1 n1 k1, .slice A2 n2 k2, .slice A3 n3 k3, .slice A4 n4 k4] 28)).heap.size 33 A' (n2 + j) c' (p.rules.map (ruleV ask) ++ (p.kids.take j).map (evV ask)) ∧ Below (w.alloc (.cells #[.string p.id, .bool p.set, .int .i64 p.alg, .slice A1 n1 k1, .slice A2 n2 k2, .slice A3 n3 k3, .slice A4 n4 k4] 28)).heap.size (w.alloc (.cells #[.string p.id, .bool p.set, .int .i64 p.alg, .slice A1 n1 k1, .slice A2 n2 k2, .slice A3 n3 k3, .slice A4 n4 k4] 28)) wq) (fun out i _ => n3 - (intOf i).toNat)
      case atStart => exact ⟨0, A', c', Nat.zero_le _, rfl, rfl, by simpa using HR.out, HB.out⟩
      case round =>
        obtain ⟨wo, hwo⟩ : ∃ wo, wo = wr := ⟨wr, rfl⟩
        subst hwo
        obtain ⟨j, A6, c6, hj, rfl, rfl, ho, hb⟩ := hrel
        have HO := Lib.hid ho
        have HC0 := Lib.hid hb
        have HW2 := Lib.hid (below_step A0.out hb)
        clear ho hb
        by_cases hlt2 : j < n3
        · obtain ⟨b, o, kid, d', B1, m1, d1, B2, m2, d2, B3, m3, d3, B4, m4, d4, rfl, hRb, hbl, hx, hd, ⟨hid, halg⟩, ⟨x0, x1, x2, x3, x4, x5, x6⟩, t1, t2, t3, t4⟩ := (H3.out.keep (Kept.all HW2.out R) (fun _ h _ => h)).at_ hlt2
          have HX := Lib.hid (map_step (evV ask) hx)
          have a1 : Below wo.heap.size wo (wo.alloc (.cells #[.string kid.id, .bool kid.set, .int .i64 kid.alg, .slice B1 m1 d1, .slice B2 m2 d2, .slice B3 m3 d3, .slice B4 m4 d4] 28)) := (Below.refl _ _).alloc (Nat.le_refl _) _
          have HC := Lib.hid (HIH.out d' hd (w := wo.alloc (.cells #[.string kid.id, .bool kid.set, .int .i64 kid.alg, .slice B1 m1 d1, .slice B2 m2 d2, .slice B3 m3 d3, .slice B4 m4 d4] 28)) (HRA.out.1 kid (List.mem_of_getElem? hx)) (t1.keep (Kept.all a1 R) (fun _ h _ => h)) (t2.keep (Kept.all a1 R) (fun _ h _ => h)) (t3.keep (Kept.all a1 R) (fun _ h _ => h)) (t4.keep (Kept.all a1 R) (fun _ h _ => h)) (HA.out.keep (Kept.all (HW2.out.trans (a1.mono HW2.out.size)) R2) (fun _ h _ => h)) hG)
          have A1' := Lib.hid a1
          clear hx hid t1 t2 t3 t4 a1 hd halg
          generalize hv : evV ask kid = v at *
          clear hv
          obtain ⟨⟨vp, vd⟩, vob⟩ := v
          obtain ⟨ki, ks, ka, kt, kr, kk, ko⟩ := kid
          simp only [Pol.id, Pol.set, Pol.alg] at x0 x1 x2 x3 x4 x5 x6 HC A1'
          go_wp2_with fail
          refine HC.out.mono ?_
          rintro z w3 ⟨E1, e2, e3, rfl, hb, hd⟩
          have b1 : Below wo.heap.size wo w3 := below_step A1'.out hb
          have hsz := A1'.out.size
          obtain ⟨A5, c5, w5, r5, o5, b5⟩ := push_res (r := ⟨(vp, vd), vob⟩) (Gr.below keeps_res HO.out b1) (hd.keep (Kept.refl _ _) (fun b hb _ => HO.out.apart b (Nat.le_trans hsz hb))) (by have := HB2.out; have := HB3.out; omega)
          have R5 := Lib.hid r5
          have O5 := Lib.hid o5
          have B5 := Lib.hid (HC0.out.trans ((b1.mono HC0.out.size).trans b5))
          clear hb hd b1 hsz r5 o5 b5
          go_wp2_with (first
            | (at_builtin; refine wpList_append_run (o := ⟨some 36, _, _, _, _, _⟩) rfl _ _ _ _ rfl rfl rfl R5.out ?_))
          go_roundw
          case rel => exact ⟨j + 1, A5, c5, by omega, by go_num, rfl, by rw [HX.out, ← List.append_assoc]; exact O5.out, B5.out⟩
          case measure => simp [intOf]; omega
        · obtain rfl : n3 = j := by omega
          go_wp2
          go_ret
          have hR := HO.out
          rw [List.take_of_length_le (by have := HL3.out; omega), ← HV.out] at hR
          refine ⟨A6, n2 + n3, c6, rfl, HW2.out, ?_⟩
          have h1 : Rss wo (fun b => (w.alloc (.cells #[.string p.id, .bool p.set, .int .i64 p.alg, .slice A1 n1 k1, .slice A2 n2 k2, .slice A3 n3 k3, .slice A4 n4 k4] 28)).heap.size ≤ b) A6 (n2 + n3) c6 (partsV ask p) := hR.rw keeps_res (by have := HB2.out; have := HB3.out; omega)
          exact h1.keep (Kept.refl _ _) (fun b hb _ => Nat.le_trans A0.out.size hb)

set_option maxRecDepth 100000 in
set_option maxHeartbeats 6400000 in
theorem dec_step (d : Nat) (ih : ∀ d', d = d' + 1 → DecOk d') : DecOk d := by
  intro ask w R R2 A n c p A1 A2 A3 A4 n1 k1 n2 k2 n3 k3 n4 k4 hp h1 h2 h3 h4 hA hG
  have HM := Lib.hid (fun W (hW : Below w.heap.size w W) => tgmet_any (w := W) (h1.keep (Kept.all hW R) (fun _ h _ => h)) (hA.keep (Kept.all hW R2) (fun _ h _ => h)) hG)
  have HP := Lib.hid (fun W (hW : Below w.heap.size w W) => evparts_any (w := W) (A1 := A1) (n1 := n1) (k1 := k1) (A4 := A4) (n4 := n4) (k4 := k4) d ih hp (h2.keep (Kept.all hW R) (fun _ h _ => h)) (h3.keep (Kept.all hW R) (fun _ h _ => h)) (hA.keep (Kept.all hW R2) (fun _ h _ => h)) hG)
  have hob := Rw.len h4
  have hsz := hp.all.2.2.2.1
  have hpl := parts_len ask p
  have hn4 : n4 ≤ 500000 := by have := ob_eight hp.all.2.1.1; omega
  have HD := Lib.hid (fun W (hW : Below w.heap.size w W) (p d : Fin 5) => duties_any (w := W) p d (h4.keep (Kept.all hW R) (fun _ h _ => h)) (ob_short hp.all.2.1.1) hn4)
  have HV : Hid (evV ask p = polV (metI ask p.tg) p.alg p.ob (partsV ask p)) := decV_eq ask p
  have HT := Lib.hid (tri_met ask p.tg)
  have HS := Lib.hid (show (partsV ask p).length ≤ 700000 ∧ obS (partsV ask p) ≤ 700000 by omega)
  have HLD := Lib.hid (fun m => dutsM_len p.ob m)
  have HLO : Hid (p.ob.length ≤ 8) := ob_eight hp.all.2.1.1
  have HSD : Hid (obS (partsV ask p) + p.ob.length ≤ 700000) := by show _ ≤ _; omega
  have HPV : Hid (∀ t, polV t p.alg p.ob (partsV ask p) = if t = 0 then noRes else if t = 1 then ⟨indM (joinV p.alg (partsV ask p)), []⟩ else ⟨joinV p.alg (partsV ask p), alongV p.alg (joinV p.alg (partsV ask p)) (partsV ask p) ++ dutsM p.ob (joinV p.alg (partsV ask p))⟩) := fun _ => rfl
  clear h1 h2 h3 h4 hA ih hp hob hsz hpl hn4
  generalize metI ask p.tg = t at *
  generalize evV ask p = v at *
  generalize partsV ask p = ps at *
  obtain ⟨⟨jp, jd⟩, hj⟩ : ∃ q, q = joinV p.alg ps := ⟨_, rfl⟩
  have HJ := Lib.hid (fun W (R : Nat → Prop) (A : Option Addr) (n c : Nat) (h : Rss W R A n c ps) (hn : n ≤ 700000) => joined_any (w := W) p.alg h hn)
  rw [← hj] at HJ HPV
  clear hj
  have HAL := Lib.hid (fun W (R : Nat → Prop) (A : Option Addr) (n c : Nat) (h : Rss W R A n c ps) => along_any (w := W) p.alg jp jd h HS.out.2)
  obtain ⟨alv, hal⟩ : ∃ x, x = alongV p.alg (jp, jd) ps := ⟨_, rfl⟩
  have HAN : Hid (alv.length ≤ obS ps) := by show _ ≤ _; rw [hal]; exact along_len _ _ _
  rw [← hal] at HAL HPV
  clear hal
  obtain ⟨dv, hdv⟩ : ∃ x, x = dutsM p.ob (jp, jd) := ⟨_, rfl⟩
  have HDN := Lib.hid (HLD.out (jp, jd))
  have HD2 := Lib.hid (fun W hW => HD.out W hW jp jd)
  rw [← hdv] at HDN HD2 HPV
  clear hdv HD HLD
  have OB := Lib.hid (Ob.made w 28 #[.string p.id, .bool p.set, .int .i64 p.alg, .slice A1 n1 k1, .slice A2 n2 k2, .slice A3 n3 k3, .slice A4 n4 k4])
  have a1 : Below w.heap.size w (w.alloc (.cells #[.string p.id, .bool p.set, .int .i64 p.alg, .slice A1 n1 k1, .slice A2 n2 k2, .slice A3 n3 k3, .slice A4 n4 k4] 28)) := (Below.refl w.heap.size w).alloc (Nat.le_refl _) _
  have OB2 := Lib.hid (OB.out.keep (w' := (w.alloc (.cells #[.string p.id, .bool p.set, .int .i64 p.alg, .slice A1 n1 k1, .slice A2 n2 k2, .slice A3 n3 k3, .slice A4 n4 k4] 28)).alloc (.cells #[.complex .f64 0 0, .slice none 0 0] 33)) (Below.heap_alloc _ _ _ OB.out.lt))
  have OR := Ob.made (w.alloc (.cells #[.string p.id, .bool p.set, .int .i64 p.alg, .slice A1 n1 k1, .slice A2 n2 k2, .slice A3 n3 k3, .slice A4 n4 k4] 28)) 33 #[.complex .f64 0 0, .slice none 0 0]
  rw [size_al] at OR
  have OR2 := Lib.hid OR
  have D2 := Lib.hid (a1.alloc (by rw [size_al]; omega) (.cells #[.complex .f64 0 0, .slice none 0 0] 33))
  have HZ2 : Hid (((w.alloc (.cells #[.string p.id, .bool p.set, .int .i64 p.alg, .slice A1 n1 k1, .slice A2 n2 k2, .slice A3 n3 k3, .slice A4 n4 k4] 28)).alloc (.cells #[.complex .f64 0 0, .slice none 0 0] 33)).heap.size = w.heap.size + 2) := by show _ = _; rw [size_al, size_al]
  have o3 := OB2.out.cell 3
  clear OB OR a1
  obtain ⟨pid, pset, palg, ptg, pru, pki, pob⟩ := p
  simp only [Pol.id, Pol.set, Pol.alg, Pol.ob] at *
  go_enter Tryz.func26, Tryz.ntmps26
  go_wp2_with fail
  refine (HM.out _ D2.out).mono ?_
  rintro e w1 ⟨rfl, hb⟩
  have D3 := Lib.hid (below_step D2.out hb)
  have OB3 := Lib.hid (OB2.out.below hb OB2.out.lt)
  have OR3 := Lib.hid (OR2.out.below hb OR2.out.lt)
  have HZ3 : Hid (w.heap.size + 2 ≤ w1.heap.size) := by have h1 := hb.size; have h2 := HZ2.out; show _ ≤ _; omega
  clear hb o3
  rcases (show t = 0 ∨ t = 1 ∨ t = 2 by have := HT.out; unfold Tri at this; omega) with rfl | rfl | rfl
  · have HQ : Hid (v = noRes) := HV.out.trans ((HPV.out 0).trans (if_pos rfl))
    have r0 := OR3.out.cell 0
    have r1 := OR3.out.cell 1
    have s0 := OR3.out.frozen 0
    have s1 := OR3.out.frozen 1
    go_wp2_with fail
    try simp only [Exit.inBlock, Exit.then]
    refine bodyPost_ret (res_ret rfl rfl (OR3.out.set2 (.complex .f64 0 0) (.slice none 0 0))) rfl ?_
    exact ⟨none, 0, 0, by rw [HQ.out, mark_na noRes.m rfl], below_set2 D3.out (by omega) _ _, by rw [HQ.out]; exact Rw.nil_ _ _ _ _⟩
  · have HQ : Hid (v = ⟨indM (jp, jd), []⟩) := HV.out.trans ((HPV.out 1).trans ((if_neg (by omega)).trans (if_pos rfl)))
    have o0 := OB3.out.cell 0
    have o1 := OB3.out.cell 1
    have o2 := OB3.out.cell 2
    have o3 := OB3.out.cell 3
    have o4 := OB3.out.cell 4
    have o5 := OB3.out.cell 5
    have o6 := OB3.out.cell 6
    go_wp2_with fail
    refine (HP.out _ D3.out).mono ?_
    rintro e w2 ⟨E1, e2, e3, rfl, hb, hps⟩
    have D4 := Lib.hid (below_step D3.out hb)
    have OB4 := Lib.hid (OB3.out.below hb OB3.out.lt)
    have OR4 := Lib.hid (OR3.out.below hb OR3.out.lt)
    have HZ4 : Hid (w.heap.size + 2 ≤ w2.heap.size) := by have h1 := hb.size; have h2 := HZ3.out; show _ ≤ _; omega
    have HPS := Lib.hid hps
    have HE2 : Hid (e2 ≤ 700000) := by have h1 := Rw.len hps; have h2 := HS.out.1; show _ ≤ _; omega
    clear hb hps o0 o1 o2 o3 o4 o5 o6
    have o2 := OB4.out.cell 2
    go_wp2_with fail
    refine (HJ.out _ _ _ _ _ HPS.out HE2.out).mono ?_
    rintro e w3 ⟨rfl, hb⟩
    have D5 := Lib.hid (below_step D4.out hb)
    have OB5 := Lib.hid (OB4.out.below hb OB4.out.lt)
    have OR5 := Lib.hid (OR4.out.below hb OR4.out.lt)
    have HZ5 : Hid (w.heap.size + 2 ≤ w3.heap.size) := by have h1 := hb.size; have h2 := HZ4.out; show _ ≤ _; omega
    have HPS5 := Lib.hid (HPS.out.keep (Kept.all hb _) (fun _ h _ => h))
    clear hb o2
    have HI := Lib.hid (indet_any jp jd)
    have r0 := OR5.out.cell 0
    have r1 := OR5.out.cell 1
    have s0 := OR5.out.frozen 0
    have s1 := OR5.out.frozen 1
    go_wp2_with fail
    refine (HI.out _).mono ?_
    rintro z w' ⟨rfl, rfl⟩
    go_wp2_with fail
    try simp only [Exit.inBlock, Exit.then]
    refine bodyPost_ret (res_ret rfl rfl (OR5.out.set2 (.complex .f64 (fl (indetP jp jd)) (fl (indetD jp jd))) (.slice none 0 0))) rfl ?_
    exact ⟨none, 0, 0, by rw [HQ.out]; rfl, below_set2 D5.out (by omega) _ _, by rw [HQ.out]; exact Rw.nil_ _ _ _ _⟩
  · have HQ : Hid (v = ⟨(jp, jd), alv ++ dv⟩) := HV.out.trans ((HPV.out 2).trans ((if_neg (by omega)).trans (if_neg (by omega))))
    have o0 := OB3.out.cell 0
    have o1 := OB3.out.cell 1
    have o2 := OB3.out.cell 2
    have o3 := OB3.out.cell 3
    have o4 := OB3.out.cell 4
    have o5 := OB3.out.cell 5
    have o6 := OB3.out.cell 6
    go_wp2_with fail
    refine (HP.out _ D3.out).mono ?_
    rintro e w2 ⟨E1, e2, e3, rfl, hb, hps⟩
    have D4 := Lib.hid (below_step D3.out hb)
    have OB4 := Lib.hid (OB3.out.below hb OB3.out.lt)
    have OR4 := Lib.hid (OR3.out.below hb OR3.out.lt)
    have HZ4 : Hid (w.heap.size + 2 ≤ w2.heap.size) := by have h1 := hb.size; have h2 := HZ3.out; show _ ≤ _; omega
    have HPS := Lib.hid hps
    have HE2 : Hid (e2 ≤ 700000) := by have h1 := Rw.len hps; have h2 := HS.out.1; show _ ≤ _; omega
    clear hb hps o0 o1 o2 o3 o4 o5 o6
    have o2 := OB4.out.cell 2
    go_wp2_with fail
    refine (HJ.out _ _ _ _ _ HPS.out HE2.out).mono ?_
    rintro e w3 ⟨rfl, hb⟩
    have D5 := Lib.hid (below_step D4.out hb)
    have OB5 := Lib.hid (OB4.out.below hb OB4.out.lt)
    have OR5 := Lib.hid (OR4.out.below hb OR4.out.lt)
    have HZ5 : Hid (w.heap.size + 2 ≤ w3.heap.size) := by have h1 := hb.size; have h2 := HZ4.out; show _ ≤ _; omega
    have HPS5 := Lib.hid (HPS.out.keep (Kept.all hb _) (fun _ h _ => h))
    clear hb o2
    go_wp2_with fail
    have OBK := Lib.hid (fun V (hV : Below w3.heap.size w3 V) => OB5.out.below hV OB5.out.lt)
    refine wp_region_held_tail (fun w' => Below w3.heap.size w3 w') 11 (by kernel_rfl) (by kernel_rfl) ?_
    intro G
    change HeadW _ _ _ _ _ _ _ _ _ _ (w3.drewN 1)
    have S := Lib.hid (below_drewN (Below.refl w3.heap.size w3) 1)
    generalize w3.drewN 1 = y0 at *
    refine HeadW_take (i := 0) (v := ?_) G rfl (by kernel_rfl) (by kernel_rfl) (by kernel_rfl) (fun _ _ _ h => h) (Or.inl ⟨by rfl, ?_⟩) S.out ?_
    rotate_left
    · intro wz hS
      go_simp
      try with_reducible rfl
    refine HeadW_take (i := 1) (v := ?_) G rfl (by kernel_rfl) (by kernel_rfl) (by kernel_rfl) (fun _ _ _ h => h) (Or.inl ⟨by rfl, ?_⟩) S.out ?_
    rotate_left
    · intro wz hS
      go_simp
      try with_reducible rfl
    refine HeadW_take (i := 2) (v := ?_) G rfl (by kernel_rfl) (by kernel_rfl) (by kernel_rfl) (fun _ _ _ h => h) (Or.inl ⟨by rfl, ?_⟩) S.out ?_
    rotate_left
    · intro wz hS
      have hk := (OBK.out _ hS).cell 2
      go_simp
      try with_reducible rfl
    refine HeadW_take (i := 3) (v := ?_) G rfl (by kernel_rfl) (by kernel_rfl) (by kernel_rfl) (fun _ _ _ h => h) (Or.inl ⟨by rfl, ?_⟩) S.out ?_
    rotate_left
    · intro wz hS
      go_simp
      try with_reducible rfl
    refine HeadW_take (i := 4) (v := ?_) G rfl (by kernel_rfl) (by kernel_rfl) (by kernel_rfl) (fun _ _ _ h => h) (Or.inl ⟨by rfl, ?_⟩) S.out ?_
    rotate_left
    · intro wz hS
      go_simp
      try with_reducible rfl
    refine HeadW_take (i := 6) (v := ?_) G rfl (by kernel_rfl) (by kernel_rfl) (by kernel_rfl) (fun _ _ _ h => h) (Or.inl ⟨by rfl, ?_⟩) S.out ?_
    rotate_left
    · intro wz hS
      go_simp
      try with_reducible rfl
    refine HeadW_take (i := 7) (v := ?_) G rfl (by kernel_rfl) (by kernel_rfl) (by kernel_rfl) (fun _ _ _ h => h) (Or.inl ⟨by rfl, ?_⟩) S.out ?_
    rotate_left
    · intro wz hS
      have hk := (OBK.out _ hS).cell 6
      go_simp
      try with_reducible rfl
    refine HeadW_take (i := 8) (v := ?_) G rfl (by kernel_rfl) (by kernel_rfl) (by kernel_rfl) (fun _ _ _ h => h) (Or.inl ⟨by rfl, ?_⟩) S.out ?_
    rotate_left
    · intro wz hS
      go_simp
      try with_reducible rfl
    have HB0 := Lib.hid S.out.size
    refine HeadW_ready (rs := [5]) (by kernel_rfl) rfl rfl ?_
    refine AllW.cons rfl (fun K hK => ?_) AllW.nil
    go_simp
    refine (HAL.out _ _ _ _ _ (HPS5.out.keep (Kept.all S.out _) (fun _ h _ => h))).mono ?_
    rintro e y1 ⟨F1, f2, f3, rfl, hb, hal⟩
    have AL := Lib.hid hal
    have hal0 := hal.2.1
    have S := Lib.hid (S.out.trans (hb.mono S.out.size))
    refine hK _ _ S.out ?_
    clear hK K hb
    have HF2 : Hid (alv.length = f2) := hal0
    clear hal hal0
    refine HeadW_ready (rs := [9]) (by kernel_rfl) rfl rfl ?_
    refine AllW.cons rfl (fun K hK => ?_) AllW.nil
    go_simp
    refine (HD2.out _ (D5.out.trans (S.out.mono D5.out.size))).mono ?_
    rintro e y2 ⟨G1, g2, g3, rfl, hb, hdu⟩
    have AL2 := Lib.hid (AL.out.below hb)
    have hdn := hdu.2.1
    have DU := Lib.hid (hdu.dus (by have h1 := HDN.out; have h2 := HLO.out; omega))
    have S := Lib.hid (S.out.trans (hb.mono S.out.size))
    refine hK _ _ S.out ?_
    clear hK K hb
    have HG2 : Hid (dv.length = g2) := hdn
    clear hdu hdn AL
    obtain ⟨K1, k9, w6, r6, o6, b6⟩ := AL2.out.app DU.out (by have h1 := HF2.out; have h2 := HG2.out; have h3 := HAN.out; have h4 := HDN.out; have h5 := HSD.out; omega) 26
    have R6 := Lib.hid r6
    have O6 := Lib.hid o6
    have S6 := Lib.hid (S.out.trans (b6.mono HB0.out))
    clear r6 o6 b6
    refine HeadW_ready (rs := [10]) (by kernel_rfl) rfl rfl ?_
    refine AllW.cons rfl (fun K hK => ?_) AllW.nil
    refine oper_append (.tmp 32) (.tmp 36) 26 26 rfl rfl rfl R6.out ?_
    refine hK _ _ S6.out ?_
    clear hK K
    intro _
    refine ⟨by kernel_rfl, ?_⟩
    simp only [List.drop_succ_cons, List.drop_zero]
    have OR6 := Lib.hid (OR5.out.below S6.out OR5.out.lt)
    have D6 := Lib.hid (below_step D5.out S6.out)
    have DU6 := Lib.hid (O6.out.dus (by have h1 := HF2.out; have h2 := HG2.out; have h3 := HAN.out; have h4 := HDN.out; have h5 := HSD.out; omega))
    have r0 := OR6.out.cell 0
    have r1 := OR6.out.cell 1
    have s0 := OR6.out.frozen 0
    have s1 := OR6.out.frozen 1
    go_wp2_with fail
    try simp only [Exit.inBlock, Exit.then]
    refine bodyPost_ret (res_ret rfl rfl (OR6.out.set2 (.complex .f64 (fl jp) (fl jd)) (.slice K1 (f2 + g2) k9))) rfl ?_
    exact ⟨K1, f2 + g2, k9, by rw [HQ.out], below_set2 D6.out (by omega) _ _, by rw [HQ.out]; exact DU6.out.set2 (by have := HZ5.out; have := HB0.out; omega) (by have := HZ5.out; have := HB0.out; omega) _ _⟩
theorem dec_all : ∀ d, DecOk d
  | 0 => dec_step 0 (fun d' h => by omega)
  | d + 1 => dec_step (d + 1) (fun d' h => by obtain rfl : d = d' := by omega
                                              exact dec_all d)
end Go.Proofs.YtmoglaknmlhpgaaGreat

/- Package eval: Policy, of a right one. -/
namespace Go.Proofs.YtmoglaknmlhpgaaGreat
set_option linter.unusedVariables false
open Go.RowKit
attribute [local go_sem] eq0 feq2 eq4 fgt0 gt2 ord_eq ord_gt ord_lt ev_store

theorem res_ret2 {fn : Func} {p u : Tmp} {tmps : Array Value} {w : World} {g : Nat} {m v : Value} {A : Option Addr} {n c : Nat} (h : fn.results = #[.cell p 33, .tmp u]) (hp : tmps.getD p undef = .pointer (some ⟨g, 0, none⟩)) (hu : tmps.getD u undef = v)
    (hg : Ob w g 33 #[m, .slice A n c]) : (results fn tmps).run Tryz.prog w = .ok (.tuple #[.agg #[m, .slice A n c], v]) w := by
  rw [results_cell_tmp h, hp, hu]
  have hl := run_loadVar_row (P := Tryz.prog) w g 33 _ _ (0, 0) _ hg Tryz.underlying33 rfl (by kernel_rfl)
  simp [asAddr, hl, Result.andThen]
set_option maxRecDepth 100000 in
set_option maxHeartbeats 3200000 in
theorem evpol_ok {ask : List Giv} {w : World} {R R2 : Nat → Prop} {A : Option Addr} {n c : Nat} {p : Pol} {A1 A2 A3 A4 : Option Addr} {n1 k1 n2 k2 n3 k3 n4 k4 : Nat} (hr : rightE p = 0) (h : PolIn w R p A1 n1 k1 A2 n2 k2 A3 n3 k3 A4 n4 k4) (hA : Gvs w R2 A n c ask) (hG : ShortG ask) :
    Calls Tryz.prog 11 #[.agg #[.string p.id, .bool p.set, .int .i64 p.alg, .slice A1 n1 k1, .slice A2 n2 k2, .slice A3 n3 k3, .slice A4 n4 k4], .slice A n c] w
      fun e w' => ∃ A' n' c', e = .returned (.tuple #[.agg #[.complex .f64 (fl (evV ask p).m.1) (fl (evV ask p).m.2), .slice A' n' c'], .int .i64 0]) ∧ Below w.heap.size w w' ∧ Dus w' (fun b => w.heap.size ≤ b) A' n' c' (evV ask p).ob := by
  have HR := Lib.hid (fun W (hW : Below w.heap.size w W) => right_pol (h.then_ hW))
  rw [hr] at HR
  have HC : Hid (∀ W, Below w.heap.size w W → Calls Tryz.prog 26 #[.agg #[.string p.id, .bool p.set, .int .i64 p.alg, .slice A1 n1 k1, .slice A2 n2 k2, .slice A3 n3 k3, .slice A4 n4 k4], .slice A n c] W
      fun e w' => ∃ A' n' c', e = .returned (.agg #[.complex .f64 (fl (evV ask p).m.1) (fl (evV ask p).m.2), .slice A' n' c']) ∧ Below W.heap.size W w' ∧ Dus w' (fun b => W.heap.size ≤ b) A' n' c' (evV ask p).ob) := fun W hW => by
    obtain ⟨_, h1, h2, ⟨m, h3⟩, h4⟩ := h.then_ hW
    exact dec_all m (right_at hr) h1 h2 h3 h4 (hA.keep (Kept.all hW R2) (fun _ h _ => h)) hG
  generalize evV ask p = v at *
  obtain ⟨⟨vp, vd⟩, vob⟩ := v
  have OB := Lib.hid (Ob.made w 28 #[.string p.id, .bool p.set, .int .i64 p.alg, .slice A1 n1 k1, .slice A2 n2 k2, .slice A3 n3 k3, .slice A4 n4 k4])
  have a1 : Below w.heap.size w (w.alloc (.cells #[.string p.id, .bool p.set, .int .i64 p.alg, .slice A1 n1 k1, .slice A2 n2 k2, .slice A3 n3 k3, .slice A4 n4 k4] 28)) := (Below.refl w.heap.size w).alloc (Nat.le_refl _) _
  have OB2 := Lib.hid (OB.out.keep (w' := (w.alloc (.cells #[.string p.id, .bool p.set, .int .i64 p.alg, .slice A1 n1 k1, .slice A2 n2 k2, .slice A3 n3 k3, .slice A4 n4 k4] 28)).alloc (.cells #[.complex .f64 0 0, .slice none 0 0] 33)) (Below.heap_alloc _ _ _ OB.out.lt))
  have OR := Ob.made (w.alloc (.cells #[.string p.id, .bool p.set, .int .i64 p.alg, .slice A1 n1 k1, .slice A2 n2 k2, .slice A3 n3 k3, .slice A4 n4 k4] 28)) 33 #[.complex .f64 0 0, .slice none 0 0]
  rw [size_al] at OR
  have OR2 := Lib.hid OR
  have D2 := Lib.hid (a1.alloc (by rw [size_al]; omega) (.cells #[.complex .f64 0 0, .slice none 0 0] 33))
  have HZ2 : Hid (((w.alloc (.cells #[.string p.id, .bool p.set, .int .i64 p.alg, .slice A1 n1 k1, .slice A2 n2 k2, .slice A3 n3 k3, .slice A4 n4 k4] 28)).alloc (.cells #[.complex .f64 0 0, .slice none 0 0] 33)).heap.size = w.heap.size + 2) := by show _ = _; rw [size_al, size_al]
  clear OB OR a1 hr h hA hG
  go_enter Tryz.func11, Tryz.ntmps11
  go_wp2_with fail
  refine (HR.out _ D2.out).mono ?_
  rintro e w1 ⟨rfl, hb⟩
  have D3 := Lib.hid (below_step D2.out hb)
  have OB3 := Lib.hid (OB2.out.below hb OB2.out.lt)
  have OR3 := Lib.hid (OR2.out.below hb OR2.out.lt)
  have HZ3 : Hid (w.heap.size + 2 ≤ w1.heap.size) := by have h1 := hb.size; have h2 := HZ2.out; show _ ≤ _; omega
  clear hb
  have o0 := OB3.out.cell 0
  have o1 := OB3.out.cell 1
  have o2 := OB3.out.cell 2
  have o3 := OB3.out.cell 3
  have o4 := OB3.out.cell 4
  have o5 := OB3.out.cell 5
  have o6 := OB3.out.cell 6
  go_wp2_with fail
  refine (HC.out _ D3.out).mono ?_
  rintro e w2 ⟨E1, e2, e3, rfl, hb, hd⟩
  have D4 := Lib.hid (below_step D3.out hb)
  have OR4 := Lib.hid (OR3.out.below hb OR3.out.lt)
  have HD := Lib.hid hd
  clear hb hd o0 o1 o2 o3 o4 o5 o6
  have r0 := OR4.out.cell 0
  have r1 := OR4.out.cell 1
  have s0 := OR4.out.frozen 0
  have s1 := OR4.out.frozen 1
  go_wp2_with fail
  try simp only [Exit.inBlock, Exit.then]
  refine bodyPost_ret (res_ret2 rfl rfl rfl (OR4.out.set2 (.complex .f64 (fl vp) (fl vd)) (.slice E1 e2 e3))) rfl ?_
  exact ⟨E1, e2, e3, rfl, below_set2 D4.out (by omega) _ _, HD.out.set2 (by have := HZ3.out; omega) (by have := HZ3.out; omega) _ _⟩
end Go.Proofs.YtmoglaknmlhpgaaGreat
/- Tokens, plainly: what chapter 7 says of a text. -/
namespace Go.Proofs.YtmoglaknmlhpgaaGreat
set_option linter.unusedVariables false

def blk (c : UInt8) : Bool := decide (c.toNat = 32) || decide (c.toNat = 10)
def dgt (c : UInt8) : Bool := decide (48 ≤ c.toNat) && decide (c.toNat ≤ 57)
def inm (c : UInt8) : Bool := lett c || later c
def hexv (c : UInt8) : Option Nat := if dgt c = true then some (c.toNat - 48) else if 97 ≤ c.toNat ∧ c.toNat ≤ 102 then some (c.toNat - 87) else none
def numD (l : List UInt8) : Nat := l.foldl (fun a c => 10 * a + (c.toNat - 48)) 0
def decD (most : Nat) (d : List UInt8) : Option Nat := if d = [] ∨ (d.head? = some 48 ∧ d ≠ [48]) ∨ most < numD d then none else some (numD d)
def hexB (a b : Option Nat) : Option (UInt8 × Nat) :=
  match a, b with
  | some x, some y => if odd8 (UInt8.ofNat (16 * x + y)) = true then some (UInt8.ofNat (16 * x + y), 3) else none
  | _, _ => none
def escB : List UInt8 → Option (UInt8 × Nat)
  | a :: b :: _ => hexB (hexv a) (hexv b)
  | _ => none
def oneB : List UInt8 → Option (UInt8 × Nat)
  | [] => none
  | c :: r => if odd8 c = false then some (c, 1) else if c = 92 then escB r else none
theorem oneB_cons (c : UInt8) (r : List UInt8) : oneB (c :: r) = if odd8 c = false then some (c, 1) else if c = 92 then escB r else none := rfl
theorem oneB_plain {c : UInt8} {r : List UInt8} (h : odd8 c = false) : oneB (c :: r) = some (c, 1) := by rw [oneB_cons, if_pos h]
theorem oneB_odd {c : UInt8} {r : List UInt8} (h : odd8 c = true) (h2 : c ≠ 92) : oneB (c :: r) = none := by rw [oneB_cons, if_neg (by rw [h]; simp), if_neg h2]
theorem oneB_esc (r : List UInt8) : oneB (92 :: r) = escB r := by rw [oneB_cons, if_neg (by decide), if_pos rfl]
theorem oneB_short {r : List UInt8} (h : r.length < 2) : oneB (92 :: r) = none := by
  rw [oneB_esc]
  match r, h with
  | [], _ => rfl
  | [a], _ => rfl
theorem oneB_hex (a b : UInt8) (r : List UInt8) : oneB (92 :: a :: b :: r) = hexB (hexv a) (hexv b) := by rw [oneB_esc]; rfl
theorem hexB_some (x y : Nat) : hexB (some x) (some y) = if odd8 (UInt8.ofNat (16 * x + y)) = true then some (UInt8.ofNat (16 * x + y), 3) else none := rfl
theorem hexB_none1 (b : Option Nat) : hexB none b = none := by cases b <;> rfl
theorem hexB_none2 (a : Option Nat) : hexB a none = none := by cases a <;> rfl
theorem hexB_three {a b : Option Nat} {x : UInt8} {k : Nat} (h : hexB a b = some (x, k)) : k = 3 := by
  cases a with
  | none => rw [hexB_none1] at h; cases h
  | some p => cases b with
    | none => rw [hexB_none2] at h; cases h
    | some q =>
      rw [hexB_some] at h
      split at h
      · cases h; rfl
      · cases h
def qtB (l : List UInt8) : Option (List UInt8 × Nat) :=
  match l with
  | [] => none
  | c :: r => if c = 34 then some ([], 1) else
      match oneB (c :: r) with
      | none => none
      | some (x, k) => (qtB (r.drop (k - 1))).map fun p => (x :: p.1, k + p.2)
termination_by l.length
decreasing_by simp only [List.length_drop, List.length_cons]; omega
def mrk (c : UInt8) : Bool := c = 123 || c = 125 || c = 40 || c = 41 || c = 46 || c = 44 || c = 59 || c = 61 || c = 60 || c = 62 || c = 33
def tokB : List UInt8 → Option (Int × Int × List UInt8 × Nat)
  | [] => none
  | c :: r =>
    if lett c = true then (if Named ((c :: r).takeWhile inm) then some (1, 0, (c :: r).takeWhile inm, ((c :: r).takeWhile inm).length) else none)
    else if dgt c = true then (decD 9223372036854775807 ((c :: r).takeWhile dgt)).map fun (n : Nat) => (2, (n : Int), [], ((c :: r).takeWhile dgt).length)
    else if c = 45 then (decD 9223372036854775808 (r.takeWhile dgt)).bind fun (n : Nat) => if n = 0 then none else some (2, -(n : Int), [], (r.takeWhile dgt).length + 1)
    else if c = 64 then (decD 1099511627776 (r.takeWhile dgt)).map fun (n : Nat) => (3, (n : Int), [], (r.takeWhile dgt).length + 1)
    else if c = 35 then (if Named (r.takeWhile inm) then some (4, 0, r.takeWhile inm, (r.takeWhile inm).length + 1) else none)
    else if c = 34 then (qtB r).bind fun p => if p.1.length ≤ 64 then some (5, 0, p.1, p.2 + 1) else none
    else if mrk c = true then some (6, 0, [c], 1)
    else none

structure Tk where
  k : Int
  p : Int
  n : Int
  s : ByteArray
def Tk.l (t : Tk) : List UInt8 := t.s.data.toList
theorem Tk.ext' {a b : Tk} (h1 : a.k = b.k) (h2 : a.p = b.p) (h3 : a.n = b.n) (h4 : a.l = b.l) : a = b := by
  obtain ⟨k, p, n, s⟩ := a
  obtain ⟨k', p', n', s'⟩ := b
  obtain ⟨⟨x⟩⟩ := s
  obtain ⟨⟨y⟩⟩ := s'
  simp_all [Tk.l]
instance : DecidableEq Tk := fun a b => if h : a.k = b.k ∧ a.p = b.p ∧ a.n = b.n ∧ a.l = b.l then .isTrue (Tk.ext' h.1 h.2.1 h.2.2.1 h.2.2.2) else .isFalse (by rintro rfl; exact h ⟨rfl, rfl, rfl, rfl⟩)

def cat (ts : List Tk) : Except Nat (List Tk) → Except Nat (List Tk)
  | .error e => .error e
  | .ok l => .ok (ts ++ l)
theorem cat_nil (x : Except Nat (List Tk)) : cat [] x = x := by cases x <;> rfl
theorem cat_cat (a b : List Tk) (x : Except Nat (List Tk)) : cat a (cat b x) = cat (a ++ b) x := by cases x <;> simp [cat]

def lexB (l : List UInt8) (p : Nat) : Except Nat (List Tk) :=
  match l with
  | [] => .ok [⟨7, p, 0, ⟨#[]⟩⟩]
  | c :: r => if blk c = true then lexB r (p + 1) else
      match tokB (c :: r) with
      | none => .error p
      | some (k, n, s, m) => cat [⟨k, p, n, ⟨s.toArray⟩⟩] (lexB (r.drop (m - 1)) (p + m))
termination_by l.length
decreasing_by
  · simp
  · simp only [List.length_drop, List.length_cons]; omega

/-! ### Equations -/
theorem qtB_nil : qtB [] = none := by rw [qtB]
theorem qtB_end (r : List UInt8) : qtB (34 :: r) = some ([], 1) := by rw [qtB]; rfl
theorem oneB_pos {l : List UInt8} {x : UInt8} {k : Nat} (h : oneB l = some (x, k)) : 1 ≤ k ∧ k ≤ l.length := by
  cases l with
  | nil => cases h
  | cons c r =>
    rw [oneB_cons] at h
    split at h
    · cases h; simp
    · split at h
      · match r, h with
        | a :: b :: r', h => have := hexB_three h; subst this; simp
      · cases h
theorem drop_cons' {α : Type} {c : α} {r : List α} {k : Nat} (h : 1 ≤ k) : r.drop (k - 1) = (c :: r).drop k := by
  obtain ⟨j, rfl⟩ : ∃ j, k = j + 1 := ⟨k - 1, by omega⟩
  rfl
theorem qtB_one {c : UInt8} {r : List UInt8} {x : UInt8} {k : Nat} (hc : c ≠ 34) (h : oneB (c :: r) = some (x, k)) : qtB (c :: r) = (qtB ((c :: r).drop k)).map fun p => (x :: p.1, k + p.2) := by
  rw [qtB, if_neg hc, h]
  dsimp only
  rw [drop_cons' (oneB_pos h).1]
theorem qtB_bad {c : UInt8} {r : List UInt8} (hc : c ≠ 34) (h : oneB (c :: r) = none) : qtB (c :: r) = none := by
  rw [qtB, if_neg hc, h]
theorem lexB_nil (p : Nat) : lexB [] p = .ok [⟨7, p, 0, ⟨#[]⟩⟩] := by rw [lexB]
theorem lexB_blank {c : UInt8} {r : List UInt8} {p : Nat} (h : blk c = true) : lexB (c :: r) p = lexB r (p + 1) := by rw [lexB, if_pos h]
theorem lexB_bad {c : UInt8} {r : List UInt8} {p : Nat} (h : blk c = false) (ht : tokB (c :: r) = none) : lexB (c :: r) p = .error p := by
  rw [lexB, if_neg (by rw [h]; simp), ht]
theorem tk_len (p : UInt8 → Bool) (l : List UInt8) : (l.takeWhile p).length ≤ l.length := (List.takeWhile_sublist p).length_le
theorem qtB_le : ∀ (n : Nat) (l m : List UInt8) (j : Nat), l.length ≤ n → qtB l = some (m, j) → 1 ≤ j ∧ j ≤ l.length ∧ m.length ≤ j
  | n, [], m, j, _, h => by rw [qtB_nil] at h; cases h
  | 0, c :: r, m, j, hl, h => by simp at hl
  | n + 1, c :: r, m, j, hl, h => by
    by_cases hc : c = 34
    · subst hc; rw [qtB_end] at h; cases h; simp
    · cases ho : oneB (c :: r) with
      | none => rw [qtB_bad hc ho] at h; cases h
      | some xk =>
        obtain ⟨x, k⟩ := xk
        rw [qtB_one hc ho] at h
        obtain ⟨k1, k2⟩ := oneB_pos ho
        cases hq : qtB ((c :: r).drop k) with
        | none => rw [hq] at h; cases h
        | some q =>
          obtain ⟨m', j'⟩ := q
          rw [hq] at h
          simp only [Option.map_some, Option.some.injEq, Prod.mk.injEq] at h
          obtain ⟨rfl, rfl⟩ := h
          have := qtB_le n _ m' j' (by simp only [List.length_drop]; simp only [List.length_cons] at hl; simp only [List.length_cons]; omega) hq
          simp only [List.length_drop, List.length_cons] at this k2 ⊢
          omega
theorem tokB_pos {l : List UInt8} {k n : Int} {s : List UInt8} {m : Nat} (h : tokB l = some (k, n, s, m)) : 1 ≤ m ∧ m ≤ l.length ∧ s.length ≤ m := by
  cases l with
  | nil => cases h
  | cons c r =>
    have t1 := tk_len inm (c :: r)
    have t2 := tk_len dgt (c :: r)
    have t3 := tk_len dgt r
    have t4 := tk_len inm r
    simp only [List.length_cons] at t1 t2 t3 t4 ⊢
    rw [tokB] at h
    split at h
    · split at h
      · rename_i hn
        cases h
        have := hn.1
        omega
      · cases h
    · split at h
      · rename_i hd
        cases hq : decD 9223372036854775807 ((c :: r).takeWhile dgt) with
        | none => rw [hq] at h; cases h
        | some x =>
          rw [hq] at h
          cases h
          have : 1 ≤ ((c :: r).takeWhile dgt).length := by rw [List.takeWhile_cons, if_pos hd]; simp
          simp
          omega
      · split at h
        · cases hq : decD 9223372036854775808 (r.takeWhile dgt) with
          | none => rw [hq] at h; cases h
          | some x =>
            rw [hq] at h
            simp only [Option.bind_some] at h
            split at h
            · cases h
            · cases h; simp; omega
        · split at h
          · cases hq : decD 1099511627776 (r.takeWhile dgt) with
            | none => rw [hq] at h; cases h
            | some x => rw [hq] at h; cases h; simp; omega
          · split at h
            · split at h
              · cases h; simp; omega
              · cases h
            · split at h
              · cases hq : qtB r with
                | none => rw [hq] at h; cases h
                | some q =>
                  obtain ⟨m', j⟩ := q
                  rw [hq] at h
                  simp only [Option.bind_some] at h
                  split at h
                  · cases h
                    have := qtB_le _ _ _ _ (Nat.le_refl _) hq
                    omega
                  · cases h
              · split at h
                · cases h; simp
                · cases h
theorem lexB_tok {c : UInt8} {r : List UInt8} {p : Nat} {k n : Int} {s : List UInt8} {m : Nat} (h : blk c = false) (ht : tokB (c :: r) = some (k, n, s, m)) :
    lexB (c :: r) p = cat [⟨k, p, n, ⟨s.toArray⟩⟩] (lexB ((c :: r).drop m) (p + m)) := by
  rw [lexB, if_neg (by rw [h]; simp), ht]
  dsimp only
  rw [drop_cons' (tokB_pos ht).1]
theorem lexB_skip (l : List UInt8) (p : Nat) : lexB l p = lexB (l.drop (l.takeWhile blk).length) (p + (l.takeWhile blk).length) := by
  induction l generalizing p with
  | nil => simp
  | cons c r ih =>
    cases h : blk c with
    | true => rw [lexB_blank h, ih, List.takeWhile_cons, if_pos h]; simp only [List.length_cons, List.drop_succ_cons]; congr 1; omega
    | false => rw [List.takeWhile_cons, if_neg (by rw [h]; simp)]; simp
theorem drop_tw {p : UInt8 → Bool} {l : List UInt8} {c : UInt8} {r : List UInt8} (h : l.drop (l.takeWhile p).length = c :: r) : p c = false := by
  induction l with
  | nil => simp at h
  | cons d t ih =>
    cases hd : p d with
    | true => rw [List.takeWhile_cons, if_pos hd] at h; exact ih (by simpa using h)
    | false =>
      rw [List.takeWhile_cons, if_neg (by rw [hd]; simp)] at h
      simp at h
      rw [← h.1, hd]
end Go.Proofs.YtmoglaknmlhpgaaGreat
/- The parser, plainly: its words, its state, and what each of its functions makes of it. -/
namespace Go.Proofs.YtmoglaknmlhpgaaGreat
set_option linter.unusedVariables false

abbrev w_policy : ByteArray := ⟨#[112, 111, 108, 105, 99, 121]⟩
abbrev w_set : ByteArray := ⟨#[115, 101, 116]⟩
abbrev w_denyover : ByteArray := ⟨#[100, 101, 110, 121, 111, 118, 101, 114]⟩
abbrev w_permitover : ByteArray := ⟨#[112, 101, 114, 109, 105, 116, 111, 118, 101, 114]⟩
abbrev w_first : ByteArray := ⟨#[102, 105, 114, 115, 116]⟩
abbrev w_only : ByteArray := ⟨#[111, 110, 108, 121]⟩
abbrev w_denyunless : ByteArray := ⟨#[100, 101, 110, 121, 117, 110, 108, 101, 115, 115]⟩
abbrev w_permitunless : ByteArray := ⟨#[112, 101, 114, 109, 105, 116, 117, 110, 108, 101, 115, 115]⟩
abbrev w_permit : ByteArray := ⟨#[112, 101, 114, 109, 105, 116]⟩
abbrev w_deny : ByteArray := ⟨#[100, 101, 110, 121]⟩
abbrev w_when : ByteArray := ⟨#[119, 104, 101, 110]⟩
abbrev w_and : ByteArray := ⟨#[97, 110, 100]⟩
abbrev w_or : ByteArray := ⟨#[111, 114]⟩
abbrev w_subject : ByteArray := ⟨#[115, 117, 98, 106, 101, 99, 116]⟩
abbrev w_action : ByteArray := ⟨#[97, 99, 116, 105, 111, 110]⟩
abbrev w_case : ByteArray := ⟨#[99, 97, 115, 101]⟩
abbrev w_env : ByteArray := ⟨#[101, 110, 118]⟩
abbrev w_false : ByteArray := ⟨#[102, 97, 108, 115, 101]⟩
abbrev w_true : ByteArray := ⟨#[116, 114, 117, 101]⟩
abbrev w_if : ByteArray := ⟨#[105, 102]⟩
abbrev w_one : ByteArray := ⟨#[111, 110, 101]⟩
abbrev w_size : ByteArray := ⟨#[115, 105, 122, 101]⟩
abbrev w_has : ByteArray := ⟨#[104, 97, 115]⟩
abbrev w_eq : ByteArray := ⟨#[101, 113]⟩
abbrev w_less : ByteArray := ⟨#[108, 101, 115, 115]⟩
abbrev w_add : ByteArray := ⟨#[97, 100, 100]⟩
abbrev w_sub : ByteArray := ⟨#[115, 117, 98]⟩
abbrev w_mul : ByteArray := ⟨#[109, 117, 108]⟩
abbrev w_not : ByteArray := ⟨#[110, 111, 116]⟩
abbrev w_on : ByteArray := ⟨#[111, 110]⟩
abbrev w_log : ByteArray := ⟨#[108, 111, 103]⟩
abbrev w_redact : ByteArray := ⟨#[114, 101, 100, 97, 99, 116]⟩
abbrev w_review : ByteArray := ⟨#[114, 101, 118, 105, 101, 119]⟩
abbrev w_notify : ByteArray := ⟨#[110, 111, 116, 105, 102, 121]⟩
abbrev m_lb : ByteArray := ⟨#[123]⟩
abbrev m_rb : ByteArray := ⟨#[125]⟩
abbrev m_lp : ByteArray := ⟨#[40]⟩
abbrev m_rp : ByteArray := ⟨#[41]⟩
abbrev m_dot : ByteArray := ⟨#[46]⟩
abbrev m_bang : ByteArray := ⟨#[33]⟩
abbrev m_eqm : ByteArray := ⟨#[61]⟩
abbrev m_lt : ByteArray := ⟨#[60]⟩
abbrev m_gt : ByteArray := ⟨#[62]⟩
abbrev m_semi : ByteArray := ⟨#[59]⟩
abbrev m_comma : ByteArray := ⟨#[44]⟩

structure Pz where
  rest : List Tk
  met : Nat
  err : Int
  at_ : Int
def Pz.hd (s : Pz) : Tk := s.rest.headD ⟨7, 0, 0, ⟨#[]⟩⟩
def Pz.ok (L : Nat) (s : Pz) : Prop :=
  (∃ e, s.rest.getLast? = some e ∧ e.k = 7) ∧ (∀ t ∈ s.rest, InI t.k ∧ (0 ≤ t.p ∧ t.p ≤ (L : Int)) ∧ InI t.n ∧ t.s.size ≤ maxLen) ∧ (s.rest.length ≤ 5000 ∧ s.met + s.rest.length ≤ 6000 ∧ L ≤ 4096) ∧ (s.err = 0 ∨ s.err = 5 ∨ s.err = 6) ∧ 0 ≤ s.at_ ∧ s.at_ ≤ (L : Int)

def failR (e a : Int) (s : Pz) : Pz := if s.err = 0 then ⟨s.rest.drop (s.rest.length - 1), s.met, e, a⟩ else ⟨s.rest.drop (s.rest.length - 1), s.met, s.err, s.at_⟩
def wrongR (s : Pz) : Pz := failR 5 s.hd.p s
def mostR (n limit : Int) (s : Pz) : Pz := if limit < n then failR 6 s.hd.p s else s
def idxW (x : ByteArray) : List ByteArray → Nat
  | [] => 0
  | y :: l => if x = y then 1 else if idxW x l = 0 then 0 else idxW x l + 1
def seesR (ws : List ByteArray) (s : Pz) : Nat := if s.hd.k = 1 ∨ s.hd.k = 6 then idxW s.hd.s ws else 0
def nextR (s : Pz) : Pz := ⟨s.rest.drop 1, s.met, s.err, s.at_⟩
def takeR (ws : List ByteArray) (s : Pz) : Nat × Pz := if seesR ws s = 0 then (0, s) else (seesR ws s, nextR s)
def mustR (ws : List ByteArray) (s : Pz) : Nat × Pz := if seesR ws s = 0 then (0, wrongR s) else (seesR ws s, nextR s)
def endR (s : Pz) : Pz := if s.hd.k = 7 then s else wrongR s
def nameR (s : Pz) : ByteArray × Pz := if s.hd.k = 1 then (s.hd.s, nextR s) else (⟨#[]⟩, wrongR s)
def catR (s : Pz) : Nat × Pz := takeR [w_subject, w_action, w_case, w_env] s
def attrR (cat : Int) (s : Pz) : Atr × Pz :=
  let s1 := if cat = 0 then wrongR s else s
  let s2 := (mustR [m_dot] s1).2
  let s3 := (nameR s2).2
  (⟨cat, (nameR s2).1, decide (0 < (takeR [m_bang] s3).1)⟩, (takeR [m_bang] s3).2)
def kindR (k : Int) : Int := if k = 2 then 2 else if k = 3 then 4 else if k = 4 then 5 else if k = 5 then 3 else 1
def valueR (s : Pz) : Vl × Pz :=
  if kindR s.hd.k = 1 then (⟨1, ((mustR [w_false, w_true] s).1 : Int) - 1, ⟨#[]⟩⟩, (mustR [w_false, w_true] s).2)
  else (⟨kindR s.hd.k, s.hd.n, s.hd.s⟩, nextR s)
def matchR (s : Pz) : Mat × Pz :=
  let c := catR s
  let a := attrR (c.1 : Int) c.2
  let o := mustR [m_eqm, m_lt, m_gt] a.2
  let v := valueR o.2
  (⟨a.1, (o.1 : Int), v.1⟩, v.2)
def rowR {α : Type} (one : Pz → α × Pz) (btw : ByteArray) : Nat → List α → Pz → List α × Pz
  | 0, l, s => (l, s)
  | n + 1, l, s =>
    let x := one s
    let t := takeR [btw] (mostR ((l ++ [x.1]).length : Int) 8 x.2)
    if t.1 = 0 then (l ++ [x.1], t.2) else rowR one btw n (l ++ [x.1]) t.2
def allOfR (s : Pz) : List Mat × Pz := rowR matchR m_comma s.rest.length [] s
def anyOfR (s : Pz) : List (List Mat) × Pz :=
  let a := mustR [m_lp] s
  let r := rowR allOfR w_or a.2.rest.length [] a.2
  (r.1, (mustR [m_rp] r.2).2)
def targetR (s : Pz) : Tgt × Pz :=
  if (takeR [w_when] s).1 = 0 then ([], (takeR [w_when] s).2) else rowR anyOfR w_and (takeR [w_when] s).2.rest.length [] (takeR [w_when] s).2
def dutiesR : Nat → List Dut → Pz → List Dut × Pz
  | 0, l, s => (l, s)
  | n + 1, l, s =>
    if (takeR [w_on] s).1 = 0 then (l, (takeR [w_on] s).2) else
    let a := mustR [w_permit, w_deny] (takeR [w_on] s).2
    let b := mustR [w_log, w_redact, w_review, w_notify] a.2
    let c := nameR b.2
    dutiesR n (l ++ [⟨(a.1 : Int), (b.1 : Int), c.1⟩]) (mostR ((l ++ [(⟨(a.1 : Int), (b.1 : Int), c.1⟩ : Dut)]).length : Int) 8 c.2)
def leafR (s : Pz) : Nod × Pz :=
  if 0 < (catR s).1 then (⟨2, zeroV, (attrR ((catR s).1 : Int) (catR s).2).1⟩, (attrR ((catR s).1 : Int) (catR s).2).2)
  else (⟨1, (valueR (catR s).2).1, zeroA⟩, (valueR (catR s).2).2)
def isBag (op : Int) : Bool := decide (op = 3) || decide (op = 4) || decide (op = 5)
def isTwo (op : Int) : Bool := !decide (op = 3) && !decide (op = 4) && !decide (op = 11)
def callR (ex : List Nod → Bool → Pz → List Nod × Pz) (l : List Nod) (s : Pz) : List Nod × Int × Pz :=
  let m := mustR [w_one, w_size, w_has, w_eq, w_less, w_add, w_sub, w_mul, w_not, w_and, w_or] s
  let op : Int := 2 + (m.1 : Int)
  let e := ex l (isBag op) m.2
  let f := if isTwo op = true then ex e.1 false e.2 else e
  (f.1, op, (mustR [m_rp] f.2).2)
def nodR (bag : Bool) (p : Int) (l : List Nod) (n : Nod) (s : Pz) : List Nod × Pz :=
  (l ++ [n], if bag != decide (n.op = 2) then failR 5 p (mostR ((l ++ [n]).length : Int) 32 s) else mostR ((l ++ [n]).length : Int) 32 s)
def exprR : Nat → List Nod → Bool → Pz → List Nod × Pz
  | 0, l, _, s => (l, s)
  | n + 1, l, bag, s =>
    if 0 < (takeR [m_lp] s).1 then
      let c := callR (exprR n) l (takeR [m_lp] s).2
      nodR bag s.hd.p c.1 ⟨c.2.1, zeroV, zeroA⟩ c.2.2
    else nodR bag s.hd.p l (leafR (takeR [m_lp] s).2).1 (leafR (takeR [m_lp] s).2).2
def condR (s : Pz) : List Nod × Pz :=
  if (takeR [w_if] s).1 = 0 then ([], (takeR [w_if] s).2) else exprR (takeR [w_if] s).2.rest.length [] false (takeR [w_if] s).2
def dutsR (s : Pz) : List Dut × Pz := dutiesR s.rest.length [] s
def ruleR (s : Pz) : Rul × Pz :=
  let a := mustR [w_permit, w_deny] s
  let b := nameR a.2
  let t := targetR b.2
  let c := condR t.2
  let d := dutsR c.2
  (⟨b.1, decide (a.1 = 2), t.1, c.1, d.1⟩, (mustR [m_semi] d.2).2)
def metR (s : Pz) : Pz := ⟨s.rest, s.met + 1, s.err, s.at_⟩
def rulesR : Nat → List Rul → Pz → List Rul × Pz
  | 0, l, s => (l, s)
  | n + 1, l, s =>
    if seesR [w_permit, w_deny] s = 0 then (l, s) else
    let s1 := mostR ((l.length : Int) + 1) 16 (metR s)
    let u := ruleR (mostR (s1.met : Int) 64 s1)
    rulesR n (l ++ [u.1]) u.2
def kidsR (po : Pz → Pol × Pz) : Nat → List Pol → Pz → List Pol × Pz
  | 0, l, s => (l, s)
  | n + 1, l, s =>
    if seesR [w_policy, w_set] s = 0 then (l, s) else
    let u := po (mostR ((l.length : Int) + 1) 16 s)
    kidsR po n (l ++ [u.1]) u.2
def polR : Nat → Pz → Pol × Pz
  | 0, s => (.mk ⟨#[]⟩ false 0 [] [] [] [], s)
  | f + 1, s =>
    let s0 := mostR (5 - (f : Int)) 4 s
    let a := mustR [w_policy, w_set] s0
    let b := nameR a.2
    let c := mustR [w_denyover, w_permitover, w_first, w_only, w_denyunless, w_permitunless] b.2
    let t := targetR c.2
    let d := mustR [m_lb] t.2
    let k := if a.1 = 2 then kidsR (polR f) d.2.rest.length [] d.2 else ([], d.2)
    let r := if a.1 = 2 then ([], k.2) else rulesR d.2.rest.length [] d.2
    let e := mustR [m_rb] r.2
    let o := dutsR e.2
    (.mk b.1 (decide (a.1 = 2)) (c.1 : Int) t.1 r.1 k.1 o.1, o.2)
def noPol : Pol := .mk ⟨#[]⟩ false 0 [] [] [] []
def parseR (s : ByteArray) : Pol × Int × Int :=
  if 4096 < s.size then (noPol, 6, 4096) else
  match lexB s.data.toList 0 with
  | .error p => (noPol, 5, (p : Int))
  | .ok ts =>
    let u := polR 5 ⟨ts, 0, 0, 0⟩
    let z := endR u.2
    if z.err = 0 then (if rightE u.1 = 0 then (u.1, 0, 0) else (noPol, 5, (s.size : Int))) else (noPol, z.err, z.at_)

/-! ### What holds all along -/
section
variable {L : Nat} {s : Pz}
theorem Pz.ok.ne (h : s.ok L) : s.rest ≠ [] := by
  obtain ⟨⟨e, he, _⟩, _⟩ := h
  intro h0
  rw [h0] at he
  cases he
theorem Pz.ok.pos (h : s.ok L) : 1 ≤ s.rest.length := List.length_pos_iff.2 h.ne
theorem Pz.ok.get0 (h : s.ok L) : s.rest[0]? = some s.hd := by
  have := h.ne
  unfold Pz.hd
  cases hr : s.rest with
  | nil => exact absurd hr this
  | cons t l => rfl
theorem Pz.ok.hd_ok (h : s.ok L) : InI s.hd.k ∧ (0 ≤ s.hd.p ∧ s.hd.p ≤ (L : Int)) ∧ InI s.hd.n ∧ s.hd.s.size ≤ maxLen := h.2.1 _ (List.mem_of_getElem? h.get0)
theorem Pz.ok.more (h : s.ok L) (hk : s.hd.k ≠ 7) : 2 ≤ s.rest.length := by
  have h0 := h.ne
  obtain ⟨⟨e, he, h7⟩, _⟩ := h
  unfold Pz.hd at hk
  rcases hr : s.rest with _ | ⟨t, _ | ⟨u, l⟩⟩
  · exact absurd hr h0
  · rw [hr] at he hk
    simp at he hk
    rw [he] at hk
    exact absurd h7 hk
  · simp
theorem Pz.ok.next (h : s.ok L) (hk : s.hd.k ≠ 7) : (nextR s).ok L := by
  have h2 := h.more hk
  obtain ⟨⟨e, he, h7⟩, ha, hl, hx⟩ := h
  rcases hr : s.rest with _ | ⟨t, l⟩
  · rw [hr] at h2; simp at h2
  · rw [hr] at h2
    simp at h2
    refine ⟨⟨e, ?_, h7⟩, fun t ht => ha t ?_, ?_, hx⟩
    · show (s.rest.drop 1).getLast? = _
      rw [hr] at he ⊢
      rcases l with _ | ⟨u, l⟩
      · simp at h2
      · simpa [List.getLast?_cons_cons] using he
    · exact List.mem_of_mem_drop ht
    · have e : (nextR s).rest.length = s.rest.length - 1 := List.length_drop
      have e2 : (nextR s).met = s.met := rfl
      omega
theorem Pz.ok.fail (h : s.ok L) {e p : Int} (he : e = 5 ∨ e = 6) (hp : 0 ≤ p ∧ p ≤ (L : Int)) : (failR e p s).ok L := by
  have h1 := h.pos
  have key : ∀ (x y : Int), (x = 0 ∨ x = 5 ∨ x = 6) → 0 ≤ y ∧ y ≤ (L : Int) → (⟨s.rest.drop (s.rest.length - 1), s.met, x, y⟩ : Pz).ok L := by
    intro x y hx hy
    obtain ⟨⟨z, hz, h7⟩, ha, hl, _⟩ := h
    refine ⟨⟨z, ?_, h7⟩, fun t ht => ha t (List.mem_of_mem_drop ht), ?_, hx, hy⟩
    · show (s.rest.drop (s.rest.length - 1)).getLast? = _
      rw [List.getLast?_drop, if_neg (by omega)]
      exact hz
    · show (s.rest.drop (s.rest.length - 1)).length ≤ _ ∧ s.met + (s.rest.drop (s.rest.length - 1)).length ≤ _ ∧ _
      rw [List.length_drop]
      omega
  unfold failR
  split
  · exact key _ _ (by omega) hp
  · exact key _ _ h.2.2.2.1 h.2.2.2.2
theorem Pz.ok.wrong (h : s.ok L) : (wrongR s).ok L := h.fail (by omega) h.hd_ok.2.1
theorem Pz.ok.most (h : s.ok L) (n l : Int) : (mostR n l s).ok L := by
  unfold mostR
  split
  · exact h.fail (by omega) h.hd_ok.2.1
  · exact h
theorem failR_len (e p : Int) (h : s.ok L) : (failR e p s).rest.length = 1 := by
  have := h.pos
  unfold failR
  split <;> (show (s.rest.drop (s.rest.length - 1)).length = 1; rw [List.length_drop]; omega)
theorem mostR_len (h : s.ok L) (n l : Int) : (mostR n l s).rest.length ≤ s.rest.length := by
  have := h.pos
  unfold mostR
  split
  · rw [failR_len _ _ h]; exact this
  · exact Nat.le_refl _
theorem seesR_more (h : s.ok L) {ws : List ByteArray} (h0 : seesR ws s ≠ 0) : s.hd.k ≠ 7 := by
  intro h7
  unfold seesR at h0
  rw [h7] at h0
  simp at h0
theorem nextR_len (s : Pz) : (nextR s).rest.length = s.rest.length - 1 := List.length_drop
theorem Pz.ok.take (h : s.ok L) (ws : List ByteArray) : (takeR ws s).2.ok L := by
  unfold takeR
  split
  · exact h
  · rename_i h0
    exact h.next (seesR_more h h0)
theorem Pz.ok.must (h : s.ok L) (ws : List ByteArray) : (mustR ws s).2.ok L := by
  unfold mustR
  split
  · exact h.wrong
  · rename_i h0
    exact h.next (seesR_more h h0)
theorem Pz.ok.name (h : s.ok L) : (nameR s).2.ok L := by
  unfold nameR
  split
  · rename_i h1
    exact h.next (by omega)
  · exact h.wrong
theorem takeR_len (h : s.ok L) (ws : List ByteArray) : (takeR ws s).2.rest.length + (if (takeR ws s).1 = 0 then 0 else 1) = s.rest.length := by
  have := h.pos
  unfold takeR
  split
  · simp
  · rename_i h0
    show (nextR s).rest.length + 1 = _
    rw [nextR_len]
    omega
theorem mustR_len (h : s.ok L) (ws : List ByteArray) : (mustR ws s).2.rest.length ≤ s.rest.length ∧ 1 ≤ (mustR ws s).2.rest.length := by
  have := h.pos
  refine ⟨?_, (h.must ws).pos⟩
  unfold mustR
  split
  · unfold wrongR; rw [failR_len _ _ h]; exact this
  · rw [nextR_len]; omega
theorem nameR_len (h : s.ok L) : (nameR s).2.rest.length ≤ s.rest.length := by
  have := h.pos
  unfold nameR
  split
  · rw [nextR_len]; omega
  · unfold wrongR; rw [failR_len _ _ h]; exact this
theorem idxW_le (x : ByteArray) : ∀ ws : List ByteArray, idxW x ws ≤ ws.length
  | [] => Nat.le_refl _
  | y :: l => by
    have := idxW_le x l
    unfold idxW
    split
    · simp
    · split
      · omega
      · simp; omega
theorem seesR_le (ws : List ByteArray) (s : Pz) : seesR ws s ≤ ws.length := by
  unfold seesR
  split
  · exact idxW_le _ _
  · omega
theorem takeR_le (ws : List ByteArray) (s : Pz) : (takeR ws s).1 ≤ ws.length := by
  unfold takeR
  split
  · exact Nat.zero_le _
  · exact seesR_le _ _
theorem mustR_le (ws : List ByteArray) (s : Pz) : (mustR ws s).1 ≤ ws.length := by
  unfold mustR
  split
  · exact Nat.zero_le _
  · exact seesR_le _ _
theorem nameR_size (h : s.ok L) : (nameR s).1.size ≤ maxLen := by
  unfold nameR
  split
  · exact h.hd_ok.2.2.2
  · exact Nat.zero_le _
end
end Go.Proofs.YtmoglaknmlhpgaaGreat
/- The parser's reader in memory; its smallest functions. -/
namespace Go.Proofs.YtmoglaknmlhpgaaGreat
set_option linter.unusedVariables false
open Go.RowKit

def Rd (L : Nat) (w : World) (g : Nat) (s : Pz) : Prop :=
  ∃ b o n c, Ob w g 100 #[.slice (some ⟨b, o, none⟩) n c, .int .i64 (s.met : Int), .int .i64 s.err, .int .i64 s.at_] ∧ s.ok L ∧ (s.rest.length = n ∧ n ≤ c ∧ c ≤ maxLen) ∧ b < g ∧
    ∀ j v, s.rest[j]? = some v → w.cell? ⟨b, o + j * 4, none⟩ = some (.int .i64 v.k) ∧ w.cell? ⟨b, o + j * 4 + 1, none⟩ = some (.int .i64 v.p) ∧ w.cell? ⟨b, o + j * 4 + 2, none⟩ = some (.int .i64 v.n) ∧ w.cell? ⟨b, o + j * 4 + 3, none⟩ = some (.string v.s)
section
variable {L g : Nat} {w w' w'' : World} {s : Pz}
theorem Rd.ok (h : Rd L w g s) : s.ok L := by obtain ⟨b, o, n, c, _, h, _⟩ := h; exact h
theorem Rd.lt (h : Rd L w g s) : g < w.heap.size := by obtain ⟨b, o, n, c, h, _⟩ := h; exact h.lt
theorem Rd.keep (h : Rd L w g s) (hk : ∀ k, k ≤ g → w'.heap[k]? = w.heap[k]?) : Rd L w' g s := by
  obtain ⟨b, o, n, c, h1, h2, h3, h4, h5⟩ := h
  refine ⟨b, o, n, c, h1.keep (hk g (Nat.le_refl _)), h2, h3, h4, fun j v hv => ?_⟩
  obtain ⟨a1, a2, a3, a4⟩ := h5 j v hv
  have e := fun x : Nat => World.cell?_of_block (w := w) (w' := w') (a := ⟨b, x, none⟩) (hk b (Nat.le_of_lt h4))
  exact ⟨(e _).trans a1, (e _).trans a2, (e _).trans a3, (e _).trans a4⟩
theorem Rd.then_ (h : Rd L w g s) (hb : Below w.heap.size w w') : Rd L w' g s := h.keep fun k hk => hb.block k (Nat.lt_of_le_of_lt hk h.lt)
theorem Rd.alloc (h : Rd L w g s) (o : Obj) : Rd L (w.alloc o) g s := h.then_ ((Below.refl _ _).alloc (Nat.le_refl _) _)
theorem Rd.other (h : Rd L w g s) {r : Nat} (ho : Only r w w') (hr : g < r) : Rd L w' g s := h.keep fun k hk => ho.heap (Nat.lt_of_le_of_lt hk h.lt) (by omega)
theorem Rd.set (h : Rd L w g s) {r : Nat} (hr : g < r) (i : Nat) (u : Value) : Rd L (w.setCell ⟨r, i, none⟩ u) g s := h.other (Only.refl.setCell (p := ⟨r, i, none⟩) rfl u) hr
theorem Only.then_ (h : Only g w w') (k : Below w'.heap.size w' w'') : Only g w w'' := h.trans (.of_below k)
theorem Only.al (h : Only g w w') (o : Obj) : Only g w (w'.alloc o) := h.then_ ((Below.refl _ _).alloc (Nat.le_refl _) _)
theorem Only.new (h : Only g w w') {r : Nat} (hr : w.heap.size ≤ r) (i : Nat) (u : Value) : Only g w (w'.setCell ⟨r, i, none⟩ u) :=
  ⟨h.os, h.tape, h.output, by simpa [World.setCell] using h.size, fun k hk hne => (Below.heap_setCell w' ⟨r, i, none⟩ u k (show k ≠ r by omega)).trans (h.block k hk hne)⟩
theorem Only.at_g (h : Only g w w') (i : Nat) (u : Value) : Only g w (w'.setCell ⟨g, i, none⟩ u) := h.setCell (p := ⟨g, i, none⟩) rfl u
theorem Rd.at_ (h : Rd L w g s) : ∃ b o n c, Ob w g 100 #[.slice (some ⟨b, o, none⟩) n c, .int .i64 (s.met : Int), .int .i64 s.err, .int .i64 s.at_] ∧ s.ok L ∧ (s.rest.length = n ∧ 1 ≤ n ∧ n ≤ c ∧ c ≤ maxLen) ∧ b < g ∧
    (w.cell? ⟨b, o, none⟩ = some (.int .i64 s.hd.k) ∧ w.cell? ⟨b, o + 1, none⟩ = some (.int .i64 s.hd.p) ∧ w.cell? ⟨b, o + 2, none⟩ = some (.int .i64 s.hd.n) ∧ w.cell? ⟨b, o + 3, none⟩ = some (.string s.hd.s)) ∧
    ∀ (k : Nat) (m e a : Int) (s' : Pz), k < n → s'.rest = s.rest.drop k → (s'.met : Int) = m → s'.err = e → s'.at_ = a → s'.ok L →
      ∀ w', (∀ j, j < g → w'.heap[j]? = w.heap[j]?) → Ob w' g 100 #[.slice (some ⟨b, o + k * 4, none⟩) (n - k) (c - k), .int .i64 m, .int .i64 e, .int .i64 a] → Rd L w' g s' := by
  obtain ⟨b, o, n, c, h1, h2, ⟨h3, h3a, h3b⟩, h4, h5⟩ := h
  have hp := h2.pos
  refine ⟨b, o, n, c, h1, h2, ⟨h3, by omega, h3a, h3b⟩, h4, by simpa using h5 0 _ h2.get0, fun k m e a s' hk hr hm he ha hok w' hw hob => ?_⟩
  subst hm he ha
  refine ⟨b, o + k * 4, n - k, c - k, hob, hok, ⟨by rw [hr, List.length_drop]; omega, by omega, by omega⟩, h4, fun j v hv => ?_⟩
  rw [hr, List.getElem?_drop] at hv
  obtain ⟨a1, a2, a3, a4⟩ := h5 _ v hv
  have e := fun x : Nat => World.cell?_of_block (w := w) (w' := w') (a := ⟨b, x, none⟩) (hw b h4)
  have ex : o + k * 4 + j * 4 = o + (k + j) * 4 := by omega
  rw [ex]
  exact ⟨(e _).trans a1, (e _).trans a2, (e _).trans a3, (e _).trans a4⟩
end

theorem str_self (s : ByteArray) : (s.toList == s.toList) = true := by simp
theorem str_other {s t : ByteArray} (h : s ≠ t) : (s.toList == t.toList) = false := by
  rw [beq_eq_false_iff_ne]
  intro e
  exact h (text_eq (by show s.data.toList = t.data.toList; rw [← ByteArray.toList_eq, ← ByteArray.toList_eq, e]))
theorem idxW_step {x : ByteArray} : ∀ {ws : List ByteArray} {k : Nat} {y : ByteArray}, (∀ j z, ws[j]? = some z → j < k → x ≠ z) → ws[k]? = some y → x = y → idxW x ws = k + 1
  | [], _, _, _, h, _ => by simp at h
  | z :: l, 0, y, _, h, e => by
    simp at h
    subst h
    simp [idxW, e]
  | z :: l, k + 1, y, hn, h, e => by
    have h0 := hn 0 z rfl (by omega)
    have := idxW_step (x := x) (ws := l) (k := k) (y := y) (fun j v hv hj => hn (j + 1) v (by simpa using hv) (by omega)) (by simpa using h) e
    unfold idxW
    rw [if_neg h0, this, if_neg (by omega)]
theorem idxW_none {x : ByteArray} : ∀ {ws : List ByteArray}, (∀ (j : Nat) z, ws[j]? = some z → x ≠ z) → idxW x ws = 0
  | [], _ => rfl
  | z :: l, h => by
    have := idxW_none (x := x) (ws := l) fun j v hv => h (j + 1) v (by simpa using hv)
    unfold idxW
    rw [if_neg (h 0 z rfl), this, if_pos rfl]

set_option maxHeartbeats 800000 in
theorem index_any {w : World} {B : Nat} {A : Option Addr} {n c : Nat} {ws : List ByteArray} (x : ByteArray) (h : Sl w B A n c (ws.map Value.string)) :
    Calls Tryz.prog 115 #[.slice A n c, .string x] w fun e w' => e = .returned (.int .i64 ((idxW x ws : Int) - 1)) ∧ w = w' := by
  have hle := h.le
  have hcap := h.cap
  have HL : Hid (ws.length = n) := by show _ = _; rw [← h.len, List.length_map]
  unfold maxLen at hcap
  have H := Lib.hid h
  clear h
  go_enter Tryz.func115, Tryz.ntmps115
  go_wp2
  go_loop [8] (fun i => ∃ k : Nat, k ≤ n ∧ i = .int .i64 k ∧ ∀ j z, ws[j]? = some z → j < k → x ≠ z) (fun i => n - (intOf i).toNat)
  case atStart => exact ⟨0, Nat.zero_le _, rfl, fun j z _ h => by omega⟩
  case round =>
    obtain ⟨k, hk, rfl, hf⟩ := hrel
    have HF := Lib.hid hf
    clear hf
    by_cases hlt : k < n
    · obtain ⟨b, o, u, rfl, hb, hu, hc⟩ := H.out.at_ hlt
      rw [List.getElem?_map] at hu
      obtain ⟨y, hy, rfl⟩ := Option.map_eq_some_iff.1 hu
      have HY := Lib.hid hy
      clear hu hy
      by_cases hxy : x = y
      · have hq : (x.toList == y.toList) = true := by rw [hxy]; exact str_self y
        have HXY := Lib.hid hxy
        clear hxy
        go_wp2
        go_ret
        exact ⟨ret_int (by rw [idxW_step HF.out HY.out HXY.out]; omega), rfl⟩
      · have hq := str_other hxy
        have HXY := Lib.hid hxy
        clear hxy
        go_wp2
        go_round
        case rel => exact ⟨k + 1, by omega, by go_num, fun j z hz hj => by
          by_cases e : j = k
          · subst e
            obtain rfl := Option.some.inj (HY.out.symm.trans hz)
            exact HXY.out
          · exact HF.out j z hz (by omega)⟩
        case measure => simp [intOf]; omega
    · obtain rfl : k = n := by omega
      go_wp2
      go_ret
      exact ⟨ret_int (by rw [idxW_none (fun j z hz => HF.out j z hz (by have := HL.out; have := (List.getElem?_eq_some_iff.1 hz).1; omega))]; rfl), rfl⟩
end Go.Proofs.YtmoglaknmlhpgaaGreat
/- The parser's smallest functions: here, fail, wrong, most, sees, take, must, end, name. -/
namespace Go.Proofs.YtmoglaknmlhpgaaGreat
set_option linter.unusedVariables false
open Go.RowKit

section
variable {L g : Nat} {w : World} {s : Pz}
set_option maxHeartbeats 800000 in
theorem phere_any (h : Rd L w g s) : Calls Tryz.prog 88 #[.pointer (some ⟨g, 0, none⟩)] w fun e w' => e = .returned (.int .i64 s.hd.p) ∧ w = w' := by
  obtain ⟨b, o, n, c, hob, hok, ⟨hn, h1, h2, h3⟩, hbg, ⟨c0, c1, c2, c3⟩, _⟩ := h.at_
  have q0 := hob.cell 0
  clear hob hok h
  go_enter Tryz.func88, Tryz.ntmps88
  go_wp2_with fail
  go_ret
  exact ⟨rfl, rfl⟩

set_option maxRecDepth 100000 in
set_option maxHeartbeats 1600000 in
theorem pfail_any (h : Rd L w g s) {e p : Int} (he : e = 5 ∨ e = 6) (hp : 0 ≤ p ∧ p ≤ (L : Int)) :
    Calls Tryz.prog 87 #[.pointer (some ⟨g, 0, none⟩), .int .i64 e, .int .i64 p] w fun x w' => x = .returned (.tuple #[]) ∧ Only g w w' ∧ Rd L w' g (failR e p s) := by
  have HOK := Lib.hid (h.ok.fail he hp)
  obtain ⟨b, o, n, c, hob, hok, ⟨hn, h1, h2, h3⟩, hbg, _, hmk⟩ := h.at_
  have q0 := hob.cell 0
  have q1 := hob.cell 1
  have q2 := hob.cell 2
  have q3 := hob.cell 3
  have f0 := hob.frozen 0
  have f2 := hob.frozen 2
  have f3 := (hob.put 2 (.int .i64 e)).frozen 3
  have HOB := Lib.hid hob
  have HMK := Lib.hid hmk
  have HN := Lib.hid hn
  clear hob hok hmk h hn
  unfold maxLen at h3
  by_cases h0 : s.err = 0
  · have he0 : (s.err == 0) = true := by simpa using h0
    have HE : Hid (failR e p s = ⟨s.rest.drop (s.rest.length - 1), s.met, e, p⟩) := by show _ = _; unfold failR; rw [if_pos h0]
    clear h0
    go_enter Tryz.func87, Tryz.ntmps87
    go_wp2_with fail
    have O2 : Hid (Ob ((w.setCell ⟨g, 2, none⟩ (.int .i64 e)).setCell ⟨g, 3, none⟩ (.int .i64 p)) g 100 #[.slice (some ⟨b, o, none⟩) n c, .int .i64 (s.met : Int), .int .i64 e, .int .i64 p]) := Lib.hid (by have := (HOB.out.put 2 (.int .i64 e)).put 3 (.int .i64 p); simpa using this)
    have on2 := Lib.hid (((Only.refl (w := w)).at_g (g := g) 2 (.int .i64 e)).at_g 3 (.int .i64 p))
    generalize (w.setCell ⟨g, 2, none⟩ (.int .i64 e)).setCell ⟨g, 3, none⟩ (.int .i64 p) = w2 at *
    clear q0 q1 q2 q3 f0 f2 f3
    have q0 : w2.cell? ⟨g, 0, none⟩ = some (.slice (some ⟨b, o, none⟩) n c) := O2.out.cell 0
    have hw : IntKind.i64.wrap ((n : Int) - 1) = (n : Int) - 1 := IntWalk.i64_in _ (by omega)
    have hs1 : (0 : Int) ≤ (n : Int) - 1 := by omega
    have hs2 : (n : Int) - 1 ≤ (n : Int) := by omega
    have hs3 : ((n : Int) - 1).toNat = n - 1 := by omega
    have hs4 : ¬ c = n - 1 := by omega
    have hs5 : (1 : Int) ≤ (n : Int) := by omega
    go_still_tail 14, (by kernel_rfl)
    clear q0 hw hs1 hs2 hs3 hs4 hs5
    change wpList _ _ _ _ _ (w2.drewN 1)
    have O3 := Lib.hid (O2.out.keep (w' := w2.drewN 1) rfl)
    have ON3 := Lib.hid (on2.out.drewN 1)
    generalize w2.drewN 1 = w3 at *
    have f0 := O3.out.frozen 0
    have q0 := O3.out.cell 0
    go_wp2_with fail
    go_end0
    refine ⟨rfl, ON3.out.at_g 0 _, ?_⟩
    have he := HE.out
    rw [he] at HOK ⊢
    refine HMK.out (n - 1) _ _ _ _ (by omega) (by rw [HN.out]) rfl rfl rfl HOK.out _ (fun j hj => (ON3.out.at_g 0 _).heap (Nat.lt_trans hj HOB.out.lt) (by omega)) ?_
    have := O3.out.put 0 (.slice (some ⟨b, o + (n - 1) * 4, none⟩) (n - (n - 1)) (c - (n - 1)))
    simpa using this
  · have he0 : (s.err == 0) = false := by simpa using h0
    have HE : Hid (failR e p s = ⟨s.rest.drop (s.rest.length - 1), s.met, s.err, s.at_⟩) := by show _ = _; unfold failR; rw [if_neg h0]
    clear h0
    go_enter Tryz.func87, Tryz.ntmps87
    go_wp2_with fail
    have O2 := HOB
    have on2 := Lib.hid (Only.refl (w := w) (r := g))
    clear q0 q1 q2 q3 f0 f2 f3
    have q0 : w.cell? ⟨g, 0, none⟩ = some (.slice (some ⟨b, o, none⟩) n c) := O2.out.cell 0
    have hw : IntKind.i64.wrap ((n : Int) - 1) = (n : Int) - 1 := IntWalk.i64_in _ (by omega)
    have hs1 : (0 : Int) ≤ (n : Int) - 1 := by omega
    have hs2 : (n : Int) - 1 ≤ (n : Int) := by omega
    have hs3 : ((n : Int) - 1).toNat = n - 1 := by omega
    have hs4 : ¬ c = n - 1 := by omega
    have hs5 : (1 : Int) ≤ (n : Int) := by omega
    go_still_tail 14, (by kernel_rfl)
    clear q0 hw hs1 hs2 hs3 hs4 hs5
    change wpList _ _ _ _ _ (w.drewN 1)
    have O3 := Lib.hid (O2.out.keep (w' := w.drewN 1) rfl)
    have ON3 := Lib.hid (on2.out.drewN 1)
    generalize w.drewN 1 = w3 at *
    have f0 := O3.out.frozen 0
    have q0 := O3.out.cell 0
    go_wp2_with fail
    go_end0
    refine ⟨rfl, ON3.out.at_g 0 _, ?_⟩
    have he := HE.out
    rw [he] at HOK ⊢
    refine HMK.out (n - 1) _ _ _ _ (by omega) (by rw [HN.out]) rfl rfl rfl HOK.out _ (fun j hj => (ON3.out.at_g 0 _).heap (Nat.lt_trans hj HOB.out.lt) (by omega)) ?_
    have := O3.out.put 0 (.slice (some ⟨b, o + (n - 1) * 4, none⟩) (n - (n - 1)) (c - (n - 1)))
    simpa using this
theorem pwrong_any (h : Rd L w g s) : Calls Tryz.prog 68 #[.pointer (some ⟨g, 0, none⟩)] w fun x w' => x = .returned (.tuple #[]) ∧ Only g w w' ∧ Rd L w' g (wrongR s) := by
  have HC := Lib.hid (phere_any h)
  have HF := Lib.hid (pfail_any h (e := 5) (.inl rfl) h.ok.hd_ok.2.1)
  clear h
  go_enter Tryz.func68, Tryz.ntmps68
  go_wp2_with (first
    | (go_at_call 88; refine HC.out.mono ?_; rintro x w1 ⟨rfl, rfl⟩)
    | (go_at_call 87; refine HF.out.mono ?_; rintro x w1 ⟨rfl, ho, hr⟩; have HO := Lib.hid ho; have HR := Lib.hid hr; clear ho hr))
  go_end0
  exact ⟨rfl, HO.out, HR.out⟩
theorem pmost_any (h : Rd L w g s) (n l : Int) : Calls Tryz.prog 61 #[.pointer (some ⟨g, 0, none⟩), .int .i64 n, .int .i64 l] w fun x w' => x = .returned (.tuple #[]) ∧ Only g w w' ∧ Rd L w' g (mostR n l s) := by
  have HC := Lib.hid (phere_any h)
  have HF := Lib.hid (pfail_any h (e := 6) (.inr rfl) h.ok.hd_ok.2.1)
  have HH := Lib.hid h
  clear h
  by_cases hl : l < n
  · have HE : Hid (mostR n l s = failR 6 s.hd.p s) := by show _ = _; unfold mostR; rw [if_pos hl]
    have hl2 : decide (l < n) = true := decide_eq_true hl
    go_enter Tryz.func61, Tryz.ntmps61
    go_wp2_with (first
      | (go_at_call 88; refine HC.out.mono ?_; rintro x w1 ⟨rfl, rfl⟩)
      | (go_at_call 87; refine HF.out.mono ?_; rintro x w1 ⟨rfl, ho, hr⟩; have HO := Lib.hid ho; have HR := Lib.hid hr; clear ho hr))
    go_end0
    exact ⟨rfl, HO.out, by rw [HE.out]; exact HR.out⟩
  · have HE : Hid (mostR n l s = s) := by show _ = _; unfold mostR; rw [if_neg hl]
    have hl2 : decide (l < n) = false := decide_eq_false hl
    go_enter Tryz.func61, Tryz.ntmps61
    go_wp2_with fail
    go_end0
    exact ⟨rfl, Only.refl, by rw [HE.out]; exact HH.out⟩
set_option maxHeartbeats 1600000 in
theorem psees_any (h : Rd L w g s) {B n c : Nat} {A : Option Addr} {ws : List ByteArray} (hs : Sl w B A n c (ws.map Value.string)) (hB : B ≤ w.heap.size) :
    Calls Tryz.prog 92 #[.pointer (some ⟨g, 0, none⟩), .slice A n c] w fun x w' => x = .returned (.int .i64 (seesR ws s : Int)) ∧ Below w.heap.size w w' := by
  obtain ⟨b, o, m, d, hob, hok, ⟨hn, h1, h2, h3⟩, hbg, ⟨c0, c1, c2, c3⟩, _⟩ := h.at_
  have q0 := hob.cell 0
  have HI := Lib.hid (index_any s.hd.s (hs.lit_keep hB (.cells #[.int .i64 s.hd.k, .int .i64 s.hd.p, .int .i64 s.hd.n, .string s.hd.s] 115)))
  have hbw : Below w.heap.size w (w.alloc (.cells #[.int .i64 s.hd.k, .int .i64 s.hd.p, .int .i64 s.hd.n, .string s.hd.s] 115)) := (Below.refl _ _).alloc (Nat.le_refl _) _
  have HB := Lib.hid hbw
  have HX := Lib.hid (idxW_le s.hd.s ws)
  have HL : Hid (ws.length = n ∧ n ≤ maxLen) := ⟨by rw [← hs.len, List.length_map], Nat.le_trans hs.le hs.cap⟩
  unfold maxLen at HL
  clear hob hok h hs hbw
  by_cases hk : s.hd.k = 1 ∨ s.hd.k = 6
  · have HE : Hid (seesR ws s = idxW s.hd.s ws) := by show _ = _; unfold seesR; rw [if_pos hk]
    have hlt : (idxW s.hd.s ws : Int) ≤ 9223372036854775807 := by have := HX.out; have := HL.out; omega
    generalize idxW s.hd.s ws = i at *
    rcases hk with hk | hk
    all_goals
      have hk1 : (s.hd.k != 1) = decide (s.hd.k ≠ 1) := by rw [Bool.eq_iff_iff]; simp
      have hk6 : (s.hd.k != 6) = decide (s.hd.k ≠ 6) := by rw [Bool.eq_iff_iff]; simp
      rw [hk] at hk1 hk6
      simp only [hk] at *
      go_enter Tryz.func92, Tryz.ntmps92
      go_wp2_with (first
        | (go_at_call 115; refine HI.out.mono ?_; rintro x w1 ⟨rfl, rfl⟩))
      go_ret
      exact ⟨ret_int (by rw [HE.out]; try omega), HB.out⟩
  · have HE : Hid (seesR ws s = 0) := by show _ = _; unfold seesR; rw [if_neg hk]
    have hk1 : (s.hd.k != 1) = true := by rw [bne_iff_ne]; omega
    have hk6 : (s.hd.k != 6) = true := by rw [bne_iff_ne]; omega
    clear hk
    go_enter Tryz.func92, Tryz.ntmps92
    go_wp2_with fail
    go_ret
    exact ⟨ret_int (by rw [HE.out]; rfl), HB.out⟩
end
end Go.Proofs.YtmoglaknmlhpgaaGreat
/- The parser: take, must, end, name. -/
namespace Go.Proofs.YtmoglaknmlhpgaaGreat
set_option linter.unusedVariables false
open Go.RowKit

section
variable {L g : Nat} {w : World} {s : Pz}
theorem takeR_no {ws : List ByteArray} (h : seesR ws s = 0) : takeR ws s = (0, s) := by unfold takeR; rw [if_pos h]
theorem takeR_yes {ws : List ByteArray} (h : seesR ws s ≠ 0) : takeR ws s = (seesR ws s, nextR s) := by unfold takeR; rw [if_neg h]
theorem mustR_no {ws : List ByteArray} (h : seesR ws s = 0) : mustR ws s = (0, wrongR s) := by unfold mustR; rw [if_pos h]
theorem mustR_yes {ws : List ByteArray} (h : seesR ws s ≠ 0) : mustR ws s = (seesR ws s, nextR s) := by unfold mustR; rw [if_neg h]
theorem Rd.goes (h : Rd L w g s) (hk : s.hd.k ≠ 7) : ∃ b o n c, Ob w g 100 #[.slice (some ⟨b, o, none⟩) n c, .int .i64 (s.met : Int), .int .i64 s.err, .int .i64 s.at_] ∧ (2 ≤ n ∧ n ≤ c ∧ c ≤ maxLen) ∧ b < g ∧
    (w.cell? ⟨b, o, none⟩ = some (.int .i64 s.hd.k) ∧ w.cell? ⟨b, o + 1, none⟩ = some (.int .i64 s.hd.p) ∧ w.cell? ⟨b, o + 2, none⟩ = some (.int .i64 s.hd.n) ∧ w.cell? ⟨b, o + 3, none⟩ = some (.string s.hd.s)) ∧
    ∀ w1, Below w.heap.size w w1 → Rd L (w1.setCell ⟨g, 0, none⟩ (.slice (some ⟨b, o + 4, none⟩) (n - 1) (c - 1))) g (nextR s) ∧ Only g w (w1.setCell ⟨g, 0, none⟩ (.slice (some ⟨b, o + 4, none⟩) (n - 1) (c - 1))) := by
  have hm := h.ok.more hk
  have hlt := h.lt
  obtain ⟨b, o, n, c, hob, hok, ⟨hn, h1, h2, h3⟩, hbg, hc, hmk⟩ := h.at_
  refine ⟨b, o, n, c, hob, ⟨by omega, h2, h3⟩, hbg, hc, fun w1 hb => ?_⟩
  have ho : Only g w (w1.setCell ⟨g, 0, none⟩ (.slice (some ⟨b, o + 4, none⟩) (n - 1) (c - 1))) := (Only.of_below hb).at_g 0 _
  refine ⟨hmk 1 (s.met : Int) s.err s.at_ (nextR s) (by omega) rfl rfl rfl rfl (hok.next hk) _ (fun j hj => ho.heap (Nat.lt_trans hj hlt) (by omega)) ?_, ho⟩
  have := (hob.below hb hlt).put 0 (.slice (some ⟨b, o + 4, none⟩) (n - 1) (c - 1))
  simpa using this

set_option maxHeartbeats 1600000 in
theorem ptake_any (h : Rd L w g s) {B n c : Nat} {A : Option Addr} {ws : List ByteArray} (hs : Sl w B A n c (ws.map Value.string)) (hB : B ≤ w.heap.size) :
    Calls Tryz.prog 89 #[.pointer (some ⟨g, 0, none⟩), .slice A n c] w fun x w' => x = .returned (.int .i64 ((takeR ws s).1 : Int)) ∧ Only g w w' ∧ Rd L w' g (takeR ws s).2 := by
  have HC := Lib.hid (psees_any h hs hB)
  have HH := Lib.hid h
  by_cases h0 : seesR ws s = 0
  · rw [takeR_no h0]
    rw [h0] at HC
    clear hs h h0
    go_enter Tryz.func89, Tryz.ntmps89
    go_wp2_with (first
      | (go_at_call 92; refine HC.out.mono ?_; rintro x w1 ⟨rfl, hb⟩; have HB := Lib.hid hb; clear hb))
    go_ret
    exact ⟨rfl, .of_below HB.out, HH.out.then_ HB.out⟩
  · rw [takeR_yes h0]
    obtain ⟨b, o, m, d, hob, ⟨h1, h2, h3⟩, hbg, _, hgo⟩ := h.goes (seesR_more h.ok h0)
    have HOB := Lib.hid hob
    have HGO := Lib.hid hgo
    have h4 : 0 < seesR ws s := by omega
    generalize seesR ws s = i at *
    have h5 : ¬ d = 1 := by omega
    have h6 : (1 : Int) ≤ (m : Int) := by omega
    unfold maxLen at h3
    have h7 : decide (0 < (i : Int)) = true := decide_eq_true (by omega)
    clear hs h h0 hob hgo
    go_enter Tryz.func89, Tryz.ntmps89
    go_wp2_with (first
      | (go_at_call 92; refine HC.out.mono ?_; rintro x w1 ⟨rfl, hb⟩; have HB := Lib.hid hb; have O1 := Lib.hid (HOB.out.below hb HOB.out.lt); have q0 := O1.out.cell 0; have f0 := O1.out.frozen 0; clear hb))
    go_ret
    exact ⟨rfl, (HGO.out _ HB.out).2, (HGO.out _ HB.out).1⟩
set_option maxHeartbeats 1600000 in
theorem pmust_any (h : Rd L w g s) {B n c : Nat} {A : Option Addr} {ws : List ByteArray} (hs : Sl w B A n c (ws.map Value.string)) (hB : B ≤ w.heap.size) :
    Calls Tryz.prog 62 #[.pointer (some ⟨g, 0, none⟩), .slice A n c] w fun x w' => x = .returned (.int .i64 ((mustR ws s).1 : Int)) ∧ Only g w w' ∧ Rd L w' g (mustR ws s).2 := by
  have HC := Lib.hid (ptake_any h hs hB)
  by_cases h0 : seesR ws s = 0
  · rw [mustR_no h0]
    rw [takeR_no h0] at HC
    clear hs h h0
    go_enter Tryz.func62, Tryz.ntmps62
    go_wp2_with (first
      | (go_at_call 89; refine HC.out.mono ?_; rintro x w1 ⟨rfl, ho, hr⟩; have HO := Lib.hid ho; have HR := Lib.hid (pwrong_any hr); clear ho hr)
      | (go_at_call 68; refine HR.out.mono ?_; rintro x w2 ⟨rfl, ho, hr⟩; have HO2 := Lib.hid (HO.out.trans ho); have HR2 := Lib.hid hr; clear ho hr))
    go_ret
    exact ⟨rfl, HO2.out, HR2.out⟩
  · rw [mustR_yes h0]
    rw [takeR_yes h0] at HC
    generalize seesR ws s = i at *
    have h7 : ((i : Int) == 0) = false := by rw [beq_eq_false_iff_ne]; omega
    clear hs h h0
    go_enter Tryz.func62, Tryz.ntmps62
    go_wp2_with (first
      | (go_at_call 89; refine HC.out.mono ?_; rintro x w1 ⟨rfl, ho, hr⟩; have HO := Lib.hid ho; have HR := Lib.hid hr; clear ho hr))
    go_ret
    exact ⟨rfl, HO.out, HR.out⟩
theorem ptake_lit (h : Rd L w g s) (ws : List ByteArray) (cs : Array Value) (n : Nat) (hcs : (ws.map Value.string).toArray = cs) (hn : ws.length = n) (h63 : n ≤ 100) {b : Nat} (hb : w.heap.size = b) :
    Calls Tryz.prog 89 #[.pointer (some ⟨g, 0, none⟩), .slice (some ⟨b, 0, none⟩) n n] (w.alloc (.cells cs 9)) fun x w' => x = .returned (.int .i64 ((takeR ws s).1 : Int)) ∧ Only g w w' ∧ Rd L w' g (takeR ws s).2 := by
  subst hcs hb
  have := Sl.lit w 9 (ws.map Value.string) n (by rw [List.length_map]; exact hn) (by unfold maxLen; omega)
  exact (ptake_any (h.alloc _) this (by rw [size_al]; omega)).mono fun x w' ⟨h1, h2, h3⟩ => ⟨h1, (Only.refl.al _).trans h2, h3⟩
theorem pmust_lit (h : Rd L w g s) (ws : List ByteArray) (cs : Array Value) (n : Nat) (hcs : (ws.map Value.string).toArray = cs) (hn : ws.length = n) (h63 : n ≤ 100) {b : Nat} (hb : w.heap.size = b) :
    Calls Tryz.prog 62 #[.pointer (some ⟨g, 0, none⟩), .slice (some ⟨b, 0, none⟩) n n] (w.alloc (.cells cs 9)) fun x w' => x = .returned (.int .i64 ((mustR ws s).1 : Int)) ∧ Only g w w' ∧ Rd L w' g (mustR ws s).2 := by
  subst hcs hb
  have := Sl.lit w 9 (ws.map Value.string) n (by rw [List.length_map]; exact hn) (by unfold maxLen; omega)
  exact (pmust_any (h.alloc _) this (by rw [size_al]; omega)).mono fun x w' ⟨h1, h2, h3⟩ => ⟨h1, (Only.refl.al _).trans h2, h3⟩
theorem psees_lit (h : Rd L w g s) (ws : List ByteArray) (cs : Array Value) (n : Nat) (hcs : (ws.map Value.string).toArray = cs) (hn : ws.length = n) (h63 : n ≤ 100) {b : Nat} (hb : w.heap.size = b) :
    Calls Tryz.prog 92 #[.pointer (some ⟨g, 0, none⟩), .slice (some ⟨b, 0, none⟩) n n] (w.alloc (.cells cs 9)) fun x w' => x = .returned (.int .i64 (seesR ws s : Int)) ∧ Below w.heap.size w w' := by
  subst hcs hb
  have := Sl.lit w 9 (ws.map Value.string) n (by rw [List.length_map]; exact hn) (by unfold maxLen; omega)
  exact (psees_any (h.alloc _) this (by rw [size_al]; omega)).mono fun x w' ⟨h1, h2⟩ => ⟨h1, Below.lit h2⟩
set_option maxHeartbeats 1600000 in
theorem pend_any (h : Rd L w g s) : Calls Tryz.prog 40 #[.pointer (some ⟨g, 0, none⟩)] w fun x w' => x = .returned (.tuple #[]) ∧ Only g w w' ∧ Rd L w' g (endR s) := by
  have HC := Lib.hid (pwrong_any h)
  have HH := Lib.hid h
  obtain ⟨b, o, n, c, hob, hok, ⟨hn, h1, h2, h3⟩, hbg, ⟨c0, c1, c2, c3⟩, _⟩ := h.at_
  have q0 := hob.cell 0
  clear hob hok h
  by_cases h7 : s.hd.k = 7
  · have HE : Hid (endR s = s) := by show _ = _; unfold endR; rw [if_pos h7]
    rw [h7] at c0
    go_enter Tryz.func40, Tryz.ntmps40
    go_wp2_with fail
    go_end0
    exact ⟨rfl, Only.refl, by rw [HE.out]; exact HH.out⟩
  · have HE : Hid (endR s = wrongR s) := by show _ = _; unfold endR; rw [if_neg h7]
    have hk7 : (s.hd.k != 7) = true := by rw [bne_iff_ne]; exact h7
    go_enter Tryz.func40, Tryz.ntmps40
    go_wp2_with (first
      | (go_at_call 68; refine HC.out.mono ?_; rintro x w2 ⟨rfl, ho, hr⟩; have HO2 := Lib.hid ho; have HR2 := Lib.hid hr; clear ho hr))
    go_end0
    exact ⟨rfl, HO2.out, by rw [HE.out]; exact HR2.out⟩
set_option maxHeartbeats 1600000 in
theorem pname_any (h : Rd L w g s) : Calls Tryz.prog 63 #[.pointer (some ⟨g, 0, none⟩)] w fun x w' => x = .returned (.string (nameR s).1) ∧ Only g w w' ∧ Rd L w' g (nameR s).2 := by
  have hbw : Below w.heap.size w (w.alloc (.cells #[.int .i64 s.hd.k, .int .i64 s.hd.p, .int .i64 s.hd.n, .string s.hd.s] 115)) := (Below.refl _ _).alloc (Nat.le_refl _) _
  have HB := Lib.hid hbw
  have HC := Lib.hid (pwrong_any (h.then_ hbw))
  by_cases h1 : s.hd.k = 1
  · have HE : Hid (nameR s = (s.hd.s, nextR s)) := by show _ = _; unfold nameR; rw [if_pos h1]
    obtain ⟨b, o, m, d, hob, ⟨h1', h2, h3⟩, hbg, ⟨c0, c1, c2, c3⟩, hgo⟩ := h.goes (by omega)
    have q0 := hob.cell 0
    have HGO := Lib.hid (hgo _ hbw)
    have ho2 := hob.below hbw hob.lt
    have q0' := ho2.cell 0
    have f0 := ho2.frozen 0
    have xne : w.heap.size ≠ g := by have := hob.lt; omega
    have h5 : ¬ d = 1 := by omega
    have h6 : (1 : Int) ≤ (m : Int) := by omega
    have hx : ((w.alloc (.cells #[.int .i64 s.hd.k, .int .i64 s.hd.p, .int .i64 s.hd.n, .string s.hd.s] 115)).setCell ⟨g, 0, none⟩ (.slice (some ⟨b, o + 4, none⟩) (m - 1) (d - 1))).cell? ⟨w.heap.size, 3, none⟩ = some (.string s.hd.s) :=
      ((Ob.made w 115 #[.int .i64 s.hd.k, .int .i64 s.hd.p, .int .i64 s.hd.n, .string s.hd.s]).keep (Below.heap_setCell _ ⟨g, 0, none⟩ _ _ xne)).cell 3
    rw [HE.out]
    rw [h1] at *
    unfold maxLen at h3
    clear h hob hgo ho2 hbw
    go_enter Tryz.func63, Tryz.ntmps63
    go_wp2_with fail
    go_ret
    exact ⟨rfl, HGO.out.2, HGO.out.1⟩
  · have HE : Hid (nameR s = (⟨#[]⟩, wrongR s)) := by show _ = _; unfold nameR; rw [if_neg h1]
    obtain ⟨b, o, n, c, hob, hok, ⟨hn, h1', h2, h3⟩, hbg, ⟨c0, c1, c2, c3⟩, _⟩ := h.at_
    have q0 := hob.cell 0
    have hk1 : (s.hd.k != 1) = true := by rw [bne_iff_ne]; exact h1
    rw [HE.out]
    unfold maxLen at h3
    clear h hob hok hbw
    go_enter Tryz.func63, Tryz.ntmps63
    go_wp2_with (first
      | (go_at_call 68; refine HC.out.mono ?_; rintro x w2 ⟨rfl, ho, hr⟩; have HO2 := Lib.hid ((Only.refl.then_ HB.out).trans ho); have HR2 := Lib.hid hr; clear ho hr))
    go_ret
    exact ⟨rfl, HO2.out, HR2.out⟩
end
end Go.Proofs.YtmoglaknmlhpgaaGreat
/- The parser: categories, attributes, values, matches, leaves. -/
namespace Go.Proofs.YtmoglaknmlhpgaaGreat
set_option linter.unusedVariables false
open Go.RowKit

theorem eq2 (i : Nat) : ((i : Int) == 2) = decide (i = 2) := by rw [Bool.eq_iff_iff]; simp; omega
theorem attr_ret {fn : Func} {t : Tmp} {tmps : Array Value} {w : World} {g : Nat} {cs : Array Value} (h : fn.results = #[.cell t 56]) (hp : tmps.getD t undef = .pointer (some ⟨g, 0, none⟩)) (hg : Ob w g 56 cs) (h3 : cs.size = 3) :
    (results fn tmps).run Tryz.prog w = .ok (.agg cs) w := results_cell_row h tmps w g _ _ (0, 0) _ hp hg Tryz.underlying56 rfl (by rw [h3]; kernel_rfl)
theorem value_ret {fn : Func} {t : Tmp} {tmps : Array Value} {w : World} {g : Nat} {cs : Array Value} (h : fn.results = #[.cell t 40]) (hp : tmps.getD t undef = .pointer (some ⟨g, 0, none⟩)) (hg : Ob w g 40 cs) (h3 : cs.size = 3) :
    (results fn tmps).run Tryz.prog w = .ok (.agg cs) w := results_cell_row h tmps w g _ _ (0, 0) _ hp hg Tryz.underlying40 rfl (by rw [h3]; kernel_rfl)
theorem match_ret {fn : Func} {t : Tmp} {tmps : Array Value} {w : World} {g : Nat} {cs : Array Value} (h : fn.results = #[.cell t 64]) (hp : tmps.getD t undef = .pointer (some ⟨g, 0, none⟩)) (hg : Ob w g 64 cs) (h3 : cs.size = 7) :
    (results fn tmps).run Tryz.prog w = .ok (.agg cs) w := results_cell_row h tmps w g _ _ (0, 0) _ hp hg Tryz.underlying64 rfl (by rw [h3]; kernel_rfl)
theorem node_ret {fn : Func} {t : Tmp} {tmps : Array Value} {w : World} {g : Nat} {cs : Array Value} (h : fn.results = #[.cell t 58]) (hp : tmps.getD t undef = .pointer (some ⟨g, 0, none⟩)) (hg : Ob w g 58 cs) (h3 : cs.size = 7) :
    (results fn tmps).run Tryz.prog w = .ok (.agg cs) w := results_cell_row h tmps w g _ _ (0, 0) _ hp hg Tryz.underlying58 rfl (by rw [h3]; kernel_rfl)

section
variable {L g : Nat} {w : World} {s : Pz}
set_option maxHeartbeats 800000 in
theorem pcat_any (h : Rd L w g s) : Calls Tryz.prog 155 #[.pointer (some ⟨g, 0, none⟩)] w fun x w' => x = .returned (.int .i64 ((catR s).1 : Int)) ∧ Only g w w' ∧ Rd L w' g (catR s).2 := by
  have HR0 := Lib.hid h
  have HO0 := Lib.hid (Only.refl (r := g) (w := w))
  show Calls _ _ _ _ fun x w' => x = .returned (.int .i64 ((takeR [w_subject, w_action, w_case, w_env] s).1 : Int)) ∧ Only g w w' ∧ Rd L w' g (takeR [w_subject, w_action, w_case, w_env] s).2
  clear h
  go_enter Tryz.func155, Tryz.ntmps155
  go_wp2_with fail
  go_at_call 89
  refine (ptake_lit HR0.out [w_subject, w_action, w_case, w_env] #[.string ⟨#[115, 117, 98, 106, 101, 99, 116]⟩, .string ⟨#[97, 99, 116, 105, 111, 110]⟩, .string ⟨#[99, 97, 115, 101]⟩, .string ⟨#[101, 110, 118]⟩] 4 rfl rfl (by omega) (by first | rfl | (simp; done) | (simp [World.setCell]; done))).mono ?_
  rintro x u1 ⟨rfl, ho, hr⟩
  have HO1 := Lib.hid (HO0.out.trans ho)
  have HR1 := Lib.hid hr
  clear ho hr
  go_wp2_with fail
  go_ret
  exact ⟨rfl, HO1.out, HR1.out⟩
theorem attrR_eq {cat : Int} {s s0 s1 s2 s3 : Pz} {i j : Nat} {nm : ByteArray} (h0 : (if cat = 0 then wrongR s else s) = s0) (h1 : mustR [m_dot] s0 = (i, s1)) (h2 : nameR s1 = (nm, s2)) (h3 : takeR [m_bang] s2 = (j, s3)) : attrR cat s = (⟨cat, nm, decide (0 < j)⟩, s3) := by
  unfold attrR
  simp only [h0, h1, h2, h3]
set_option maxHeartbeats 1600000 in
theorem pattr_any (h : Rd L w g s) (cat : Int) : Calls Tryz.prog 154 #[.pointer (some ⟨g, 0, none⟩), .int .i64 cat] w fun x w' => x = .returned (attrR cat s).1.val ∧ Only g w w' ∧ Rd L w' g (attrR cat s).2 := by
  by_cases hc : cat = 0
  · have HE := Lib.hid (fun (s1 s2 s3 : Pz) (i j : Nat) (nm : ByteArray) => attrR_eq (cat := cat) (s := s) (s0 := wrongR s) (s1 := s1) (s2 := s2) (s3 := s3) (i := i) (j := j) (nm := nm) (by rw [if_pos hc]))
    obtain ⟨i, s1, e1⟩ : ∃ i t, mustR [m_dot] (wrongR s) = (i, t) := ⟨_, _, rfl⟩
    obtain ⟨nm, s2, e2⟩ : ∃ i t, nameR s1 = (i, t) := ⟨_, _, rfl⟩
    obtain ⟨j, s3, e3⟩ : ∃ i t, takeR [m_bang] s2 = (i, t) := ⟨_, _, rfl⟩
    have HEE := Lib.hid (HE.out _ _ _ _ _ _ e1 e2 e3)
    have E1 := Lib.hid e1
    have E2 := Lib.hid e2
    have E3 := Lib.hid e3
    subst hc
    rw [HEE.out]
    have HG : Hid (g < w.heap.size) := h.lt
    have HBr_1 : Hid (Ob (w.alloc (.cells #[.int .i64 0, .string ⟨#[]⟩, .bool false] 56)) (w.heap.size) 56 #[.int .i64 0, .string ⟨#[]⟩, .bool false]) := Lib.hid (by have := Ob.made w 56 #[.int .i64 0, .string ⟨#[]⟩, .bool false]; simpa using this)
    have HR0 := Lib.hid (h.alloc (.cells #[.int .i64 0, .string ⟨#[]⟩, .bool false] 56))
    have HO0 := Lib.hid ((Only.refl (r := g) (w := w)).al (.cells #[.int .i64 0, .string ⟨#[]⟩, .bool false] 56))
    clear h e1 e2 e3 HE
    go_enter Tryz.func154, Tryz.ntmps154
    go_wp2_with fail
    go_at_call 68
    refine (pwrong_any HR0.out).mono ?_
    rintro x u2 ⟨rfl, ho, hr⟩
    have HO2 := Lib.hid (HO0.out.trans ho)
    have HR2 := Lib.hid hr
    have HBr_2 := Lib.hid (HBr_1.out.keep (ho.heap HBr_1.out.lt (by have := HG.out; omega)))
    clear ho hr
    have HSa : Hid (g < u2.heap.size ∧ w.heap.size < u2.heap.size) := ⟨by have := HG.out; have := HBr_2.out.lt; omega, HBr_2.out.lt⟩
    have HO3 := Lib.hid (HO2.out.al (.cells #[.int .i64 0, .string ⟨#[]⟩, .bool false] 56))
    have HR3 := Lib.hid (HR2.out.alloc (.cells #[.int .i64 0, .string ⟨#[]⟩, .bool false] 56))
    have HBr_3 := Lib.hid (HBr_2.out.keep (Below.heap_alloc u2 (.cells #[.int .i64 0, .string ⟨#[]⟩, .bool false] 56) _ HBr_2.out.lt))
    have HBa_3 := Lib.hid (Ob.made (u2) 56 #[.int .i64 0, .string ⟨#[]⟩, .bool false])
    go_wp2_with fail
    go_at_call 62
    refine (pmust_lit HR3.out [m_dot] #[.string ⟨#[46]⟩] 1 rfl rfl (by omega) (by first | rfl | (simp; done) | (simp [World.setCell]; done))).mono ?_
    rintro x u4 ⟨rfl, ho, hr⟩
    rw [E1.out] at hr
    have HO4 := Lib.hid (HO3.out.trans ho)
    have HR4 := Lib.hid hr
    have HBr_4 := Lib.hid (HBr_3.out.keep (ho.heap HBr_3.out.lt (by have := HG.out; have := HSa.out; omega)))
    have HBa_4 := Lib.hid (HBa_3.out.keep (ho.heap HBa_3.out.lt (by have := HG.out; have := HSa.out; omega)))
    clear ho hr
    go_wp2_with fail
    go_at_call 63
    refine (pname_any HR4.out).mono ?_
    rintro x u5 ⟨rfl, ho, hr⟩
    rw [E2.out] at hr ⊢
    have HO5 := Lib.hid (HO4.out.trans ho)
    have HR5 := Lib.hid hr
    have HBr_5 := Lib.hid (HBr_4.out.keep (ho.heap HBr_4.out.lt (by have := HG.out; have := HSa.out; omega)))
    have HBa_5 := Lib.hid (HBa_4.out.keep (ho.heap HBa_4.out.lt (by have := HG.out; have := HSa.out; omega)))
    clear ho hr
    have c6 := HBa_5.out.cell 1
    have f6 := HBa_5.out.frozen 1
    have HO6 := Lib.hid (HO5.out.new (r := u2.heap.size) (by have := HG.out; have := HSa.out; omega) 1 (.string nm))
    have HR6 := Lib.hid (HR5.out.set (r := u2.heap.size) (by have := HG.out; have := HSa.out; omega) 1 (.string nm))
    have HBr_6 := Lib.hid (HBr_5.out.keep (Below.heap_setCell u5 ⟨u2.heap.size, 1, none⟩ (.string nm) _ (by show w.heap.size ≠ u2.heap.size; have := HG.out; have := HSa.out; omega)))
    have HBa_6 : Hid (Ob (u5.setCell ⟨u2.heap.size, 1, none⟩ (.string nm)) (u2.heap.size) 56 #[.int .i64 0, .string nm, .bool false]) := Lib.hid (by have := HBa_5.out.put 1 (.string nm); simpa using this)
    go_wp2_with fail
    go_at_call 89
    refine (ptake_lit HR6.out [m_bang] #[.string ⟨#[33]⟩] 1 rfl rfl (by omega) (by first | rfl | (simp; done) | (simp [World.setCell]; done))).mono ?_
    rintro x u7 ⟨rfl, ho, hr⟩
    rw [E3.out] at hr ⊢
    have HO7 := Lib.hid (HO6.out.trans ho)
    have HR7 := Lib.hid hr
    have HBr_7 := Lib.hid (HBr_6.out.keep (ho.heap HBr_6.out.lt (by have := HG.out; have := HSa.out; omega)))
    have HBa_7 := Lib.hid (HBa_6.out.keep (ho.heap HBa_6.out.lt (by have := HG.out; have := HSa.out; omega)))
    clear ho hr
    have c8 := HBa_7.out.cell 2
    have f8 := HBa_7.out.frozen 2
    have HO8 := Lib.hid (HO7.out.new (r := u2.heap.size) (by have := HG.out; have := HSa.out; omega) 2 (.bool (decide (0 < j))))
    have HR8 := Lib.hid (HR7.out.set (r := u2.heap.size) (by have := HG.out; have := HSa.out; omega) 2 (.bool (decide (0 < j))))
    have HBr_8 := Lib.hid (HBr_7.out.keep (Below.heap_setCell u7 ⟨u2.heap.size, 2, none⟩ (.bool (decide (0 < j))) _ (by show w.heap.size ≠ u2.heap.size; have := HG.out; have := HSa.out; omega)))
    have HBa_8 : Hid (Ob (u7.setCell ⟨u2.heap.size, 2, none⟩ (.bool (decide (0 < j)))) (u2.heap.size) 56 #[.int .i64 0, .string nm, .bool (decide (0 < j))]) := Lib.hid (by have := HBa_7.out.put 2 (.bool (decide (0 < j))); simpa using this)
    have c9_0 := HBa_8.out.cell 0
    have c9_1 := HBa_8.out.cell 1
    have c9_2 := HBa_8.out.cell 2
    have c10 := HBr_8.out.cell 0
    have f10 := HBr_8.out.frozen 0
    have HO10 := Lib.hid (HO8.out.new (r := w.heap.size) (by have := HG.out; have := HSa.out; omega) 0 (.int .i64 0))
    have HR10 := Lib.hid (HR8.out.set (r := w.heap.size) (by have := HG.out; have := HSa.out; omega) 0 (.int .i64 0))
    have HBr_10 : Hid (Ob ((u7.setCell ⟨u2.heap.size, 2, none⟩ (.bool (decide (0 < j)))).setCell ⟨w.heap.size, 0, none⟩ (.int .i64 0)) (w.heap.size) 56 #[.int .i64 0, .string ⟨#[]⟩, .bool false]) := Lib.hid (by have := HBr_8.out.put 0 (.int .i64 0); simpa using this)
    have HBa_10 := Lib.hid (HBa_8.out.keep (Below.heap_setCell (u7.setCell ⟨u2.heap.size, 2, none⟩ (.bool (decide (0 < j)))) ⟨w.heap.size, 0, none⟩ (.int .i64 0) _ (by show u2.heap.size ≠ w.heap.size; have := HG.out; have := HSa.out; omega)))
    have c11 := HBr_10.out.cell 1
    have f11 := HBr_10.out.frozen 1
    have HO11 := Lib.hid (HO10.out.new (r := w.heap.size) (by have := HG.out; have := HSa.out; omega) 1 (.string nm))
    have HR11 := Lib.hid (HR10.out.set (r := w.heap.size) (by have := HG.out; have := HSa.out; omega) 1 (.string nm))
    have HBr_11 : Hid (Ob (((u7.setCell ⟨u2.heap.size, 2, none⟩ (.bool (decide (0 < j)))).setCell ⟨w.heap.size, 0, none⟩ (.int .i64 0)).setCell ⟨w.heap.size, 1, none⟩ (.string nm)) (w.heap.size) 56 #[.int .i64 0, .string nm, .bool false]) := Lib.hid (by have := HBr_10.out.put 1 (.string nm); simpa using this)
    have HBa_11 := Lib.hid (HBa_10.out.keep (Below.heap_setCell ((u7.setCell ⟨u2.heap.size, 2, none⟩ (.bool (decide (0 < j)))).setCell ⟨w.heap.size, 0, none⟩ (.int .i64 0)) ⟨w.heap.size, 1, none⟩ (.string nm) _ (by show u2.heap.size ≠ w.heap.size; have := HG.out; have := HSa.out; omega)))
    have c12 := HBr_11.out.cell 2
    have f12 := HBr_11.out.frozen 2
    have HO12 := Lib.hid (HO11.out.new (r := w.heap.size) (by have := HG.out; have := HSa.out; omega) 2 (.bool (decide (0 < j))))
    have HR12 := Lib.hid (HR11.out.set (r := w.heap.size) (by have := HG.out; have := HSa.out; omega) 2 (.bool (decide (0 < j))))
    have HBr_12 : Hid (Ob ((((u7.setCell ⟨u2.heap.size, 2, none⟩ (.bool (decide (0 < j)))).setCell ⟨w.heap.size, 0, none⟩ (.int .i64 0)).setCell ⟨w.heap.size, 1, none⟩ (.string nm)).setCell ⟨w.heap.size, 2, none⟩ (.bool (decide (0 < j)))) (w.heap.size) 56 #[.int .i64 0, .string nm, .bool (decide (0 < j))]) := Lib.hid (by have := HBr_11.out.put 2 (.bool (decide (0 < j))); simpa using this)
    have HBa_12 := Lib.hid (HBa_11.out.keep (Below.heap_setCell (((u7.setCell ⟨u2.heap.size, 2, none⟩ (.bool (decide (0 < j)))).setCell ⟨w.heap.size, 0, none⟩ (.int .i64 0)).setCell ⟨w.heap.size, 1, none⟩ (.string nm)) ⟨w.heap.size, 2, none⟩ (.bool (decide (0 < j))) _ (by show u2.heap.size ≠ w.heap.size; have := HG.out; have := HSa.out; omega)))
    go_wp2_with fail
    refine bodyPost_ret (attr_ret rfl rfl HBr_12.out rfl) rfl ?_
    exact ⟨rfl, HO12.out, HR12.out⟩
  · have HE := Lib.hid (fun (s1 s2 s3 : Pz) (i j : Nat) (nm : ByteArray) => attrR_eq (cat := cat) (s := s) (s0 := s) (s1 := s1) (s2 := s2) (s3 := s3) (i := i) (j := j) (nm := nm) (by rw [if_neg hc]))
    obtain ⟨i, s1, e1⟩ : ∃ i t, mustR [m_dot] s = (i, t) := ⟨_, _, rfl⟩
    obtain ⟨nm, s2, e2⟩ : ∃ i t, nameR s1 = (i, t) := ⟨_, _, rfl⟩
    obtain ⟨j, s3, e3⟩ : ∃ i t, takeR [m_bang] s2 = (i, t) := ⟨_, _, rfl⟩
    have HEE := Lib.hid (HE.out _ _ _ _ _ _ e1 e2 e3)
    have E1 := Lib.hid e1
    have E2 := Lib.hid e2
    have E3 := Lib.hid e3
    have hc2 : (cat == 0) = false := by rw [beq_eq_false_iff_ne]; exact hc
    clear hc
    rw [HEE.out]
    have HG : Hid (g < w.heap.size) := h.lt
    have HBr_1 : Hid (Ob (w.alloc (.cells #[.int .i64 0, .string ⟨#[]⟩, .bool false] 56)) (w.heap.size) 56 #[.int .i64 0, .string ⟨#[]⟩, .bool false]) := Lib.hid (by have := Ob.made w 56 #[.int .i64 0, .string ⟨#[]⟩, .bool false]; simpa using this)
    have HR0 := Lib.hid (h.alloc (.cells #[.int .i64 0, .string ⟨#[]⟩, .bool false] 56))
    have HO0 := Lib.hid ((Only.refl (r := g) (w := w)).al (.cells #[.int .i64 0, .string ⟨#[]⟩, .bool false] 56))
    clear h e1 e2 e3 HE
    have HO2 := Lib.hid (HO0.out.al (.cells #[.int .i64 cat, .string ⟨#[]⟩, .bool false] 56))
    have HR2 := Lib.hid (HR0.out.alloc (.cells #[.int .i64 cat, .string ⟨#[]⟩, .bool false] 56))
    have HBr_2 := Lib.hid (HBr_1.out.keep (Below.heap_alloc (w.alloc (.cells #[.int .i64 0, .string ⟨#[]⟩, .bool false] 56)) (.cells #[.int .i64 cat, .string ⟨#[]⟩, .bool false] 56) _ HBr_1.out.lt))
    have HBa_2 : Hid (Ob ((w.alloc (.cells #[.int .i64 0, .string ⟨#[]⟩, .bool false] 56)).alloc (.cells #[.int .i64 cat, .string ⟨#[]⟩, .bool false] 56)) (w.heap.size + 1) 56 #[.int .i64 cat, .string ⟨#[]⟩, .bool false]) := Lib.hid (by have := Ob.made (w.alloc (.cells #[.int .i64 0, .string ⟨#[]⟩, .bool false] 56)) 56 #[.int .i64 cat, .string ⟨#[]⟩, .bool false]; simpa using this)
    go_enter Tryz.func154, Tryz.ntmps154
    go_wp2_with fail
    go_at_call 62
    refine (pmust_lit HR2.out [m_dot] #[.string ⟨#[46]⟩] 1 rfl rfl (by omega) (by first | rfl | (simp; done) | (simp [World.setCell]; done))).mono ?_
    rintro x u3 ⟨rfl, ho, hr⟩
    rw [E1.out] at hr
    have HO3 := Lib.hid (HO2.out.trans ho)
    have HR3 := Lib.hid hr
    have HBr_3 := Lib.hid (HBr_2.out.keep (ho.heap HBr_2.out.lt (by have := HG.out; omega)))
    have HBa_3 := Lib.hid (HBa_2.out.keep (ho.heap HBa_2.out.lt (by have := HG.out; omega)))
    clear ho hr
    go_wp2_with fail
    go_at_call 63
    refine (pname_any HR3.out).mono ?_
    rintro x u4 ⟨rfl, ho, hr⟩
    rw [E2.out] at hr ⊢
    have HO4 := Lib.hid (HO3.out.trans ho)
    have HR4 := Lib.hid hr
    have HBr_4 := Lib.hid (HBr_3.out.keep (ho.heap HBr_3.out.lt (by have := HG.out; omega)))
    have HBa_4 := Lib.hid (HBa_3.out.keep (ho.heap HBa_3.out.lt (by have := HG.out; omega)))
    clear ho hr
    have c5 := HBa_4.out.cell 1
    have f5 := HBa_4.out.frozen 1
    have HO5 := Lib.hid (HO4.out.new (r := (w.heap.size + 1)) (by have := HG.out; omega) 1 (.string nm))
    have HR5 := Lib.hid (HR4.out.set (r := (w.heap.size + 1)) (by have := HG.out; omega) 1 (.string nm))
    have HBr_5 := Lib.hid (HBr_4.out.keep (Below.heap_setCell u4 ⟨(w.heap.size + 1), 1, none⟩ (.string nm) _ (by show w.heap.size ≠ (w.heap.size + 1); have := HG.out; omega)))
    have HBa_5 : Hid (Ob (u4.setCell ⟨(w.heap.size + 1), 1, none⟩ (.string nm)) ((w.heap.size + 1)) 56 #[.int .i64 cat, .string nm, .bool false]) := Lib.hid (by have := HBa_4.out.put 1 (.string nm); simpa using this)
    go_wp2_with fail
    go_at_call 89
    refine (ptake_lit HR5.out [m_bang] #[.string ⟨#[33]⟩] 1 rfl rfl (by omega) (by first | rfl | (simp; done) | (simp [World.setCell]; done))).mono ?_
    rintro x u6 ⟨rfl, ho, hr⟩
    rw [E3.out] at hr ⊢
    have HO6 := Lib.hid (HO5.out.trans ho)
    have HR6 := Lib.hid hr
    have HBr_6 := Lib.hid (HBr_5.out.keep (ho.heap HBr_5.out.lt (by have := HG.out; omega)))
    have HBa_6 := Lib.hid (HBa_5.out.keep (ho.heap HBa_5.out.lt (by have := HG.out; omega)))
    clear ho hr
    have c7 := HBa_6.out.cell 2
    have f7 := HBa_6.out.frozen 2
    have HO7 := Lib.hid (HO6.out.new (r := (w.heap.size + 1)) (by have := HG.out; omega) 2 (.bool (decide (0 < j))))
    have HR7 := Lib.hid (HR6.out.set (r := (w.heap.size + 1)) (by have := HG.out; omega) 2 (.bool (decide (0 < j))))
    have HBr_7 := Lib.hid (HBr_6.out.keep (Below.heap_setCell u6 ⟨(w.heap.size + 1), 2, none⟩ (.bool (decide (0 < j))) _ (by show w.heap.size ≠ (w.heap.size + 1); have := HG.out; omega)))
    have HBa_7 : Hid (Ob (u6.setCell ⟨(w.heap.size + 1), 2, none⟩ (.bool (decide (0 < j)))) ((w.heap.size + 1)) 56 #[.int .i64 cat, .string nm, .bool (decide (0 < j))]) := Lib.hid (by have := HBa_6.out.put 2 (.bool (decide (0 < j))); simpa using this)
    have c8_0 := HBa_7.out.cell 0
    have c8_1 := HBa_7.out.cell 1
    have c8_2 := HBa_7.out.cell 2
    have c9 := HBr_7.out.cell 0
    have f9 := HBr_7.out.frozen 0
    have HO9 := Lib.hid (HO7.out.new (r := w.heap.size) (by have := HG.out; omega) 0 (.int .i64 cat))
    have HR9 := Lib.hid (HR7.out.set (r := w.heap.size) (by have := HG.out; omega) 0 (.int .i64 cat))
    have HBr_9 : Hid (Ob ((u6.setCell ⟨(w.heap.size + 1), 2, none⟩ (.bool (decide (0 < j)))).setCell ⟨w.heap.size, 0, none⟩ (.int .i64 cat)) (w.heap.size) 56 #[.int .i64 cat, .string ⟨#[]⟩, .bool false]) := Lib.hid (by have := HBr_7.out.put 0 (.int .i64 cat); simpa using this)
    have HBa_9 := Lib.hid (HBa_7.out.keep (Below.heap_setCell (u6.setCell ⟨(w.heap.size + 1), 2, none⟩ (.bool (decide (0 < j)))) ⟨w.heap.size, 0, none⟩ (.int .i64 cat) _ (by show (w.heap.size + 1) ≠ w.heap.size; have := HG.out; omega)))
    have c10 := HBr_9.out.cell 1
    have f10 := HBr_9.out.frozen 1
    have HO10 := Lib.hid (HO9.out.new (r := w.heap.size) (by have := HG.out; omega) 1 (.string nm))
    have HR10 := Lib.hid (HR9.out.set (r := w.heap.size) (by have := HG.out; omega) 1 (.string nm))
    have HBr_10 : Hid (Ob (((u6.setCell ⟨(w.heap.size + 1), 2, none⟩ (.bool (decide (0 < j)))).setCell ⟨w.heap.size, 0, none⟩ (.int .i64 cat)).setCell ⟨w.heap.size, 1, none⟩ (.string nm)) (w.heap.size) 56 #[.int .i64 cat, .string nm, .bool false]) := Lib.hid (by have := HBr_9.out.put 1 (.string nm); simpa using this)
    have HBa_10 := Lib.hid (HBa_9.out.keep (Below.heap_setCell ((u6.setCell ⟨(w.heap.size + 1), 2, none⟩ (.bool (decide (0 < j)))).setCell ⟨w.heap.size, 0, none⟩ (.int .i64 cat)) ⟨w.heap.size, 1, none⟩ (.string nm) _ (by show (w.heap.size + 1) ≠ w.heap.size; have := HG.out; omega)))
    have c11 := HBr_10.out.cell 2
    have f11 := HBr_10.out.frozen 2
    have HO11 := Lib.hid (HO10.out.new (r := w.heap.size) (by have := HG.out; omega) 2 (.bool (decide (0 < j))))
    have HR11 := Lib.hid (HR10.out.set (r := w.heap.size) (by have := HG.out; omega) 2 (.bool (decide (0 < j))))
    have HBr_11 : Hid (Ob ((((u6.setCell ⟨(w.heap.size + 1), 2, none⟩ (.bool (decide (0 < j)))).setCell ⟨w.heap.size, 0, none⟩ (.int .i64 cat)).setCell ⟨w.heap.size, 1, none⟩ (.string nm)).setCell ⟨w.heap.size, 2, none⟩ (.bool (decide (0 < j)))) (w.heap.size) 56 #[.int .i64 cat, .string nm, .bool (decide (0 < j))]) := Lib.hid (by have := HBr_10.out.put 2 (.bool (decide (0 < j))); simpa using this)
    have HBa_11 := Lib.hid (HBa_10.out.keep (Below.heap_setCell (((u6.setCell ⟨(w.heap.size + 1), 2, none⟩ (.bool (decide (0 < j)))).setCell ⟨w.heap.size, 0, none⟩ (.int .i64 cat)).setCell ⟨w.heap.size, 1, none⟩ (.string nm)) ⟨w.heap.size, 2, none⟩ (.bool (decide (0 < j))) _ (by show (w.heap.size + 1) ≠ w.heap.size; have := HG.out; omega)))
    go_wp2_with fail
    refine bodyPost_ret (attr_ret rfl rfl HBr_11.out rfl) rfl ?_
    exact ⟨rfl, HO11.out, HR11.out⟩
set_option maxHeartbeats 800000 in
theorem pkind_any (k p n : Int) (t : ByteArray) : Calls Tryz.prog 162 #[.agg #[.int .i64 k, .int .i64 p, .int .i64 n, .string t]] w fun x w' => x = .returned (.int .i64 (kindR k)) ∧ Below w.heap.size w w' := by
  have HB : Hid (Below w.heap.size w (w.alloc (.cells #[.int .i64 k, .int .i64 p, .int .i64 n, .string t] 115))) := (Below.refl _ _).alloc (Nat.le_refl _) _
  by_cases h2 : k = 2
  · subst h2
    go_enter Tryz.func162, Tryz.ntmps162
    go_wp2_with fail
    go_ret
    exact ⟨rfl, HB.out⟩
  by_cases h3 : k = 3
  · subst h3
    go_enter Tryz.func162, Tryz.ntmps162
    go_wp2_with fail
    go_ret
    exact ⟨rfl, HB.out⟩
  by_cases h4 : k = 4
  · subst h4
    go_enter Tryz.func162, Tryz.ntmps162
    go_wp2_with fail
    go_ret
    exact ⟨rfl, HB.out⟩
  by_cases h5 : k = 5
  · subst h5
    go_enter Tryz.func162, Tryz.ntmps162
    go_wp2_with fail
    go_ret
    exact ⟨rfl, HB.out⟩
  have HE : Hid (kindR k = 1) := by show _ = _; unfold kindR; rw [if_neg h2, if_neg h3, if_neg h4, if_neg h5]
  have g2 : (k == 2) = false := by rw [beq_eq_false_iff_ne]; exact h2
  have g3 : (k == 3) = false := by rw [beq_eq_false_iff_ne]; exact h3
  have g4 : (k == 4) = false := by rw [beq_eq_false_iff_ne]; exact h4
  have g5 : (k == 5) = false := by rw [beq_eq_false_iff_ne]; exact h5
  clear h2 h3 h4 h5
  go_enter Tryz.func162, Tryz.ntmps162
  go_wp2_with fail
  go_ret
  exact ⟨ret_int HE.out.symm, HB.out⟩
theorem kindR_7 {k : Int} (h : kindR k ≠ 1) : k ≠ 7 := by rintro rfl; exact h rfl
set_option maxHeartbeats 1600000 in
theorem pvalue_any (h : Rd L w g s) : Calls Tryz.prog 156 #[.pointer (some ⟨g, 0, none⟩)] w fun x w' => x = .returned (valueR s).1.val ∧ Only g w w' ∧ Rd L w' g (valueR s).2 := by
  by_cases hc : kindR s.hd.k = 1
  · obtain ⟨i, s1, e1⟩ : ∃ i t, mustR [w_false, w_true] s = (i, t) := ⟨_, _, rfl⟩
    have HE : Hid (valueR s = (⟨1, (i : Int) - 1, ⟨#[]⟩⟩, s1)) := by show _ = _; unfold valueR; rw [if_pos hc, e1]
    have E1 := Lib.hid e1
    have hi : i ≤ 2 := by have := mustR_le [w_false, w_true] s; rw [e1] at this; exact this
    rw [HE.out]
    have HG : Hid (g < w.heap.size) := h.lt
    have HBr_1 : Hid (Ob (w.alloc (.cells #[.int .i64 0, .int .i64 0, .string ⟨#[]⟩] 40)) (w.heap.size) 40 #[.int .i64 0, .int .i64 0, .string ⟨#[]⟩]) := Lib.hid (by have := Ob.made w 40 #[.int .i64 0, .int .i64 0, .string ⟨#[]⟩]; simpa using this)
    have HR0 := Lib.hid (h.alloc (.cells #[.int .i64 0, .int .i64 0, .string ⟨#[]⟩] 40))
    have HO0 := Lib.hid ((Only.refl (r := g) (w := w)).al (.cells #[.int .i64 0, .int .i64 0, .string ⟨#[]⟩] 40))
    obtain ⟨b, o, n, c, hob, hok, ⟨hn, h1, h2, h3⟩, hbg, ⟨t0, t1, t2, t3⟩, hmk⟩ := HR0.out.at_
    have q0 := hob.cell 0
    unfold maxLen at h3
    have HO2 := Lib.hid (HO0.out.al (.cells #[.int .i64 s.hd.k, .int .i64 s.hd.p, .int .i64 s.hd.n, .string s.hd.s] 115))
    have HR2 := Lib.hid (HR0.out.alloc (.cells #[.int .i64 s.hd.k, .int .i64 s.hd.p, .int .i64 s.hd.n, .string s.hd.s] 115))
    have HBr_2 := Lib.hid (HBr_1.out.keep (Below.heap_alloc (w.alloc (.cells #[.int .i64 0, .int .i64 0, .string ⟨#[]⟩] 40)) (.cells #[.int .i64 s.hd.k, .int .i64 s.hd.p, .int .i64 s.hd.n, .string s.hd.s] 115) _ HBr_1.out.lt))
    have HBt_2 : Hid (Ob ((w.alloc (.cells #[.int .i64 0, .int .i64 0, .string ⟨#[]⟩] 40)).alloc (.cells #[.int .i64 s.hd.k, .int .i64 s.hd.p, .int .i64 s.hd.n, .string s.hd.s] 115)) (w.heap.size + 1) 115 #[.int .i64 s.hd.k, .int .i64 s.hd.p, .int .i64 s.hd.n, .string s.hd.s]) := Lib.hid (by have := Ob.made (w.alloc (.cells #[.int .i64 0, .int .i64 0, .string ⟨#[]⟩] 40)) 115 #[.int .i64 s.hd.k, .int .i64 s.hd.p, .int .i64 s.hd.n, .string s.hd.s]; simpa using this)
    have HK := Lib.hid (fun V : World => pkind_any (w := V) s.hd.k s.hd.p s.hd.n s.hd.s)
    rw [hc] at HK
    clear hc e1 hmk hob h
    go_enter Tryz.func156, Tryz.ntmps156
    go_wp2_with fail
    go_at_call 162
    refine (HK.out _).mono ?_
    rintro x u1 ⟨rfl, hb⟩
    have HO3 := Lib.hid (HO2.out.then_ hb)
    have HR3 := Lib.hid (HR2.out.then_ hb)
    have HBr_3 := Lib.hid (HBr_2.out.below hb HBr_2.out.lt)
    have HBt_3 := Lib.hid (HBt_2.out.below hb HBt_2.out.lt)
    clear hb
    go_wp2_with fail
    go_at_call 62
    refine (pmust_lit HR3.out [w_false, w_true] #[.string ⟨#[102, 97, 108, 115, 101]⟩, .string ⟨#[116, 114, 117, 101]⟩] 2 rfl rfl (by omega) (by first | rfl | (simp; done) | (simp [World.setCell]; done))).mono ?_
    rintro x u4 ⟨hx, ho, hr⟩
    obtain rfl : x = .returned (.int .i64 (i : Int)) := by rw [hx, E1.out] <;> rfl
    rw [E1.out] at hr
    clear hx
    have HO4 := Lib.hid (HO3.out.trans ho)
    have HR4 := Lib.hid hr
    have HBr_4 := Lib.hid (HBr_3.out.keep (ho.heap HBr_3.out.lt (by have := HG.out; omega)))
    have HBt_4 := Lib.hid (HBt_3.out.keep (ho.heap HBt_3.out.lt (by have := HG.out; omega)))
    clear ho hr
    have c5 := HBr_4.out.cell 0
    have f5 := HBr_4.out.frozen 0
    have HO5 := Lib.hid (HO4.out.new (r := w.heap.size) (by have := HG.out; omega) 0 (.int .i64 1))
    have HR5 := Lib.hid (HR4.out.set (r := w.heap.size) (by have := HG.out; omega) 0 (.int .i64 1))
    have HBr_5 : Hid (Ob (u4.setCell ⟨w.heap.size, 0, none⟩ (.int .i64 1)) (w.heap.size) 40 #[.int .i64 1, .int .i64 0, .string ⟨#[]⟩]) := Lib.hid (by have := HBr_4.out.put 0 (.int .i64 1); simpa using this)
    have HBt_5 := Lib.hid (HBt_4.out.keep (Below.heap_setCell u4 ⟨w.heap.size, 0, none⟩ (.int .i64 1) _ (by show (w.heap.size + 1) ≠ w.heap.size; have := HG.out; omega)))
    have c6 := HBr_5.out.cell 1
    have f6 := HBr_5.out.frozen 1
    have HO6 := Lib.hid (HO5.out.new (r := w.heap.size) (by have := HG.out; omega) 1 (.int .i64 ((i : Int) - 1)))
    have HR6 := Lib.hid (HR5.out.set (r := w.heap.size) (by have := HG.out; omega) 1 (.int .i64 ((i : Int) - 1)))
    have HBr_6 : Hid (Ob ((u4.setCell ⟨w.heap.size, 0, none⟩ (.int .i64 1)).setCell ⟨w.heap.size, 1, none⟩ (.int .i64 ((i : Int) - 1))) (w.heap.size) 40 #[.int .i64 1, .int .i64 ((i : Int) - 1), .string ⟨#[]⟩]) := Lib.hid (by have := HBr_5.out.put 1 (.int .i64 ((i : Int) - 1)); simpa using this)
    have HBt_6 := Lib.hid (HBt_5.out.keep (Below.heap_setCell (u4.setCell ⟨w.heap.size, 0, none⟩ (.int .i64 1)) ⟨w.heap.size, 1, none⟩ (.int .i64 ((i : Int) - 1)) _ (by show (w.heap.size + 1) ≠ w.heap.size; have := HG.out; omega)))
    have c7 := HBr_6.out.cell 2
    have f7 := HBr_6.out.frozen 2
    have HO7 := Lib.hid (HO6.out.new (r := w.heap.size) (by have := HG.out; omega) 2 (.string ⟨#[]⟩))
    have HR7 := Lib.hid (HR6.out.set (r := w.heap.size) (by have := HG.out; omega) 2 (.string ⟨#[]⟩))
    have HBr_7 : Hid (Ob (((u4.setCell ⟨w.heap.size, 0, none⟩ (.int .i64 1)).setCell ⟨w.heap.size, 1, none⟩ (.int .i64 ((i : Int) - 1))).setCell ⟨w.heap.size, 2, none⟩ (.string ⟨#[]⟩)) (w.heap.size) 40 #[.int .i64 1, .int .i64 ((i : Int) - 1), .string ⟨#[]⟩]) := Lib.hid (by have := HBr_6.out.put 2 (.string ⟨#[]⟩); simpa using this)
    have HBt_7 := Lib.hid (HBt_6.out.keep (Below.heap_setCell ((u4.setCell ⟨w.heap.size, 0, none⟩ (.int .i64 1)).setCell ⟨w.heap.size, 1, none⟩ (.int .i64 ((i : Int) - 1))) ⟨w.heap.size, 2, none⟩ (.string ⟨#[]⟩) _ (by show (w.heap.size + 1) ≠ w.heap.size; have := HG.out; omega)))
    go_wp2_with fail
    refine bodyPost_ret (value_ret rfl rfl HBr_7.out rfl) rfl ?_
    exact ⟨rfl, HO7.out, HR7.out⟩
  · have HE : Hid (valueR s = (⟨kindR s.hd.k, s.hd.n, s.hd.s⟩, nextR s)) := by show _ = _; unfold valueR; rw [if_neg hc]
    have hc2 : (kindR s.hd.k == 1) = false := by rw [beq_eq_false_iff_ne]; exact hc
    rw [HE.out]
    have HG : Hid (g < w.heap.size) := h.lt
    have HBr_1 : Hid (Ob (w.alloc (.cells #[.int .i64 0, .int .i64 0, .string ⟨#[]⟩] 40)) (w.heap.size) 40 #[.int .i64 0, .int .i64 0, .string ⟨#[]⟩]) := Lib.hid (by have := Ob.made w 40 #[.int .i64 0, .int .i64 0, .string ⟨#[]⟩]; simpa using this)
    have HR0 := Lib.hid (h.alloc (.cells #[.int .i64 0, .int .i64 0, .string ⟨#[]⟩] 40))
    have HO0 := Lib.hid ((Only.refl (r := g) (w := w)).al (.cells #[.int .i64 0, .int .i64 0, .string ⟨#[]⟩] 40))
    obtain ⟨b, o, n, c, hob, ⟨h1, h2, h3⟩, hbg, ⟨t0, t1, t2, t3⟩, hgo⟩ := HR0.out.goes (kindR_7 hc)
    have q0 := hob.cell 0
    unfold maxLen at h3
    have HO2 := Lib.hid (HO0.out.al (.cells #[.int .i64 s.hd.k, .int .i64 s.hd.p, .int .i64 s.hd.n, .string s.hd.s] 115))
    have HR2 := Lib.hid (HR0.out.alloc (.cells #[.int .i64 s.hd.k, .int .i64 s.hd.p, .int .i64 s.hd.n, .string s.hd.s] 115))
    have HBr_2 := Lib.hid (HBr_1.out.keep (Below.heap_alloc (w.alloc (.cells #[.int .i64 0, .int .i64 0, .string ⟨#[]⟩] 40)) (.cells #[.int .i64 s.hd.k, .int .i64 s.hd.p, .int .i64 s.hd.n, .string s.hd.s] 115) _ HBr_1.out.lt))
    have HBt_2 : Hid (Ob ((w.alloc (.cells #[.int .i64 0, .int .i64 0, .string ⟨#[]⟩] 40)).alloc (.cells #[.int .i64 s.hd.k, .int .i64 s.hd.p, .int .i64 s.hd.n, .string s.hd.s] 115)) (w.heap.size + 1) 115 #[.int .i64 s.hd.k, .int .i64 s.hd.p, .int .i64 s.hd.n, .string s.hd.s]) := Lib.hid (by have := Ob.made (w.alloc (.cells #[.int .i64 0, .int .i64 0, .string ⟨#[]⟩] 40)) 115 #[.int .i64 s.hd.k, .int .i64 s.hd.p, .int .i64 s.hd.n, .string s.hd.s]; simpa using this)
    have HOBg := Lib.hid hob
    have HGO := Lib.hid hgo
    have HK := Lib.hid (fun V : World => pkind_any (w := V) s.hd.k s.hd.p s.hd.n s.hd.s)
    have h5 : ¬ c = 1 := by omega
    have h6 : (1 : Int) ≤ (n : Int) := by omega
    have HCC := Lib.hid hc
    generalize kindR s.hd.k = kd at *
    clear hob hgo h hc
    go_enter Tryz.func156, Tryz.ntmps156
    go_wp2_with fail
    go_at_call 162
    refine (HK.out _).mono ?_
    rintro x u1 ⟨rfl, hb⟩
    have HO3 := Lib.hid (HO2.out.then_ hb)
    have HR3 := Lib.hid (HR2.out.then_ hb)
    have HBr_3 := Lib.hid (HBr_2.out.below hb HBr_2.out.lt)
    have HBt_3 := Lib.hid (HBt_2.out.below hb HBt_2.out.lt)
    have HQ := Lib.hid (HGO.out u1 ((Below.refl _ _).alloc (Nat.le_refl _) (.cells #[.int .i64 s.hd.k, .int .i64 s.hd.p, .int .i64 s.hd.n, .string s.hd.s] 115) |>.trans (hb.mono (by simp))))
    have OQ := Lib.hid (HOBg.out.keep ((Below.heap_alloc (w.alloc (.cells #[.int .i64 0, .int .i64 0, .string ⟨#[]⟩] 40)) (.cells #[.int .i64 s.hd.k, .int .i64 s.hd.p, .int .i64 s.hd.n, .string s.hd.s] 115) _ HOBg.out.lt) |> fun e => (hb.block g (by have := HG.out; simp; omega)).trans e))
    have q0 := OQ.out.cell 0
    have f0 := OQ.out.frozen 0
    clear hb
    have HO4 := Lib.hid (HO3.out.at_g 0 (.slice (some ⟨b, o + 4, none⟩) (n - 1) (c - 1)))
    have HR4 := Lib.hid HQ.out.1
    have HBr_4 := Lib.hid (HBr_3.out.keep (Below.heap_setCell u1 ⟨g, 0, none⟩ (.slice (some ⟨b, o + 4, none⟩) (n - 1) (c - 1)) _ (by show w.heap.size ≠ g; have := HG.out; omega)))
    have HBt_4 := Lib.hid (HBt_3.out.keep (Below.heap_setCell u1 ⟨g, 0, none⟩ (.slice (some ⟨b, o + 4, none⟩) (n - 1) (c - 1)) _ (by show (w.heap.size + 1) ≠ g; have := HG.out; omega)))
    have c5_0 := HBt_4.out.cell 0
    have c5_1 := HBt_4.out.cell 1
    have c5_2 := HBt_4.out.cell 2
    have c5_3 := HBt_4.out.cell 3
    have c6 := HBr_4.out.cell 0
    have f6 := HBr_4.out.frozen 0
    have HO6 := Lib.hid (HO4.out.new (r := w.heap.size) (by have := HG.out; omega) 0 (.int .i64 kd))
    have HR6 := Lib.hid (HR4.out.set (r := w.heap.size) (by have := HG.out; omega) 0 (.int .i64 kd))
    have HBr_6 : Hid (Ob ((u1.setCell ⟨g, 0, none⟩ (.slice (some ⟨b, o + 4, none⟩) (n - 1) (c - 1))).setCell ⟨w.heap.size, 0, none⟩ (.int .i64 kd)) (w.heap.size) 40 #[.int .i64 kd, .int .i64 0, .string ⟨#[]⟩]) := Lib.hid (by have := HBr_4.out.put 0 (.int .i64 kd); simpa using this)
    have HBt_6 := Lib.hid (HBt_4.out.keep (Below.heap_setCell (u1.setCell ⟨g, 0, none⟩ (.slice (some ⟨b, o + 4, none⟩) (n - 1) (c - 1))) ⟨w.heap.size, 0, none⟩ (.int .i64 kd) _ (by show (w.heap.size + 1) ≠ w.heap.size; have := HG.out; omega)))
    have c7 := HBr_6.out.cell 1
    have f7 := HBr_6.out.frozen 1
    have HO7 := Lib.hid (HO6.out.new (r := w.heap.size) (by have := HG.out; omega) 1 (.int .i64 s.hd.n))
    have HR7 := Lib.hid (HR6.out.set (r := w.heap.size) (by have := HG.out; omega) 1 (.int .i64 s.hd.n))
    have HBr_7 : Hid (Ob (((u1.setCell ⟨g, 0, none⟩ (.slice (some ⟨b, o + 4, none⟩) (n - 1) (c - 1))).setCell ⟨w.heap.size, 0, none⟩ (.int .i64 kd)).setCell ⟨w.heap.size, 1, none⟩ (.int .i64 s.hd.n)) (w.heap.size) 40 #[.int .i64 kd, .int .i64 s.hd.n, .string ⟨#[]⟩]) := Lib.hid (by have := HBr_6.out.put 1 (.int .i64 s.hd.n); simpa using this)
    have HBt_7 := Lib.hid (HBt_6.out.keep (Below.heap_setCell ((u1.setCell ⟨g, 0, none⟩ (.slice (some ⟨b, o + 4, none⟩) (n - 1) (c - 1))).setCell ⟨w.heap.size, 0, none⟩ (.int .i64 kd)) ⟨w.heap.size, 1, none⟩ (.int .i64 s.hd.n) _ (by show (w.heap.size + 1) ≠ w.heap.size; have := HG.out; omega)))
    have c8 := HBr_7.out.cell 2
    have f8 := HBr_7.out.frozen 2
    have HO8 := Lib.hid (HO7.out.new (r := w.heap.size) (by have := HG.out; omega) 2 (.string s.hd.s))
    have HR8 := Lib.hid (HR7.out.set (r := w.heap.size) (by have := HG.out; omega) 2 (.string s.hd.s))
    have HBr_8 : Hid (Ob ((((u1.setCell ⟨g, 0, none⟩ (.slice (some ⟨b, o + 4, none⟩) (n - 1) (c - 1))).setCell ⟨w.heap.size, 0, none⟩ (.int .i64 kd)).setCell ⟨w.heap.size, 1, none⟩ (.int .i64 s.hd.n)).setCell ⟨w.heap.size, 2, none⟩ (.string s.hd.s)) (w.heap.size) 40 #[.int .i64 kd, .int .i64 s.hd.n, .string s.hd.s]) := Lib.hid (by have := HBr_7.out.put 2 (.string s.hd.s); simpa using this)
    have HBt_8 := Lib.hid (HBt_7.out.keep (Below.heap_setCell (((u1.setCell ⟨g, 0, none⟩ (.slice (some ⟨b, o + 4, none⟩) (n - 1) (c - 1))).setCell ⟨w.heap.size, 0, none⟩ (.int .i64 kd)).setCell ⟨w.heap.size, 1, none⟩ (.int .i64 s.hd.n)) ⟨w.heap.size, 2, none⟩ (.string s.hd.s) _ (by show (w.heap.size + 1) ≠ w.heap.size; have := HG.out; omega)))
    go_wp2_with fail
    refine bodyPost_ret (value_ret rfl rfl HBr_8.out rfl) rfl ?_
    exact ⟨rfl, HO8.out, HR8.out⟩
set_option maxHeartbeats 3200000 in
theorem pmatch_any (h : Rd L w g s) : Calls Tryz.prog 138 #[.pointer (some ⟨g, 0, none⟩)] w fun x w' => x = .returned (matchR s).1.val ∧ Only g w w' ∧ Rd L w' g (matchR s).2 := by
  obtain ⟨i, s1, e1⟩ : ∃ i t, catR s = (i, t) := ⟨_, _, rfl⟩
  obtain ⟨⟨ac, an, am⟩, s2, e2⟩ : ∃ a t, attrR (i : Int) s1 = (a, t) := ⟨_, _, rfl⟩
  obtain ⟨j, s3, e3⟩ : ∃ i t, mustR [m_eqm, m_lt, m_gt] s2 = (i, t) := ⟨_, _, rfl⟩
  obtain ⟨⟨vk, vn, vs⟩, s4, e4⟩ : ∃ a t, valueR s3 = (a, t) := ⟨_, _, rfl⟩
  have HE : Hid (matchR s = (⟨⟨ac, an, am⟩, (j : Int), ⟨vk, vn, vs⟩⟩, s4)) := by show _ = _; unfold matchR; simp only [e1, e2, e3, e4]
  rw [HE.out]
  have E1 := Lib.hid e1
  have E2 := Lib.hid e2
  have E3 := Lib.hid e3
  have E4 := Lib.hid e4
  have HG : Hid (g < w.heap.size) := h.lt
  have HBr_1 : Hid (Ob (w.alloc (.cells #[.int .i64 0, .string ⟨#[]⟩, .bool false, .int .i64 0, .int .i64 0, .int .i64 0, .string ⟨#[]⟩] 64)) (w.heap.size) 64 #[.int .i64 0, .string ⟨#[]⟩, .bool false, .int .i64 0, .int .i64 0, .int .i64 0, .string ⟨#[]⟩]) := Lib.hid (by have := Ob.made w 64 #[.int .i64 0, .string ⟨#[]⟩, .bool false, .int .i64 0, .int .i64 0, .int .i64 0, .string ⟨#[]⟩]; simpa using this)
  have HBr_2 := Lib.hid (HBr_1.out.keep (Below.heap_alloc (w.alloc (.cells #[.int .i64 0, .string ⟨#[]⟩, .bool false, .int .i64 0, .int .i64 0, .int .i64 0, .string ⟨#[]⟩] 64)) (.cells #[.int .i64 0, .string ⟨#[]⟩, .bool false, .int .i64 0, .int .i64 0, .int .i64 0, .string ⟨#[]⟩] 64) _ HBr_1.out.lt))
  have HBm_2 : Hid (Ob ((w.alloc (.cells #[.int .i64 0, .string ⟨#[]⟩, .bool false, .int .i64 0, .int .i64 0, .int .i64 0, .string ⟨#[]⟩] 64)).alloc (.cells #[.int .i64 0, .string ⟨#[]⟩, .bool false, .int .i64 0, .int .i64 0, .int .i64 0, .string ⟨#[]⟩] 64)) (w.heap.size + 1) 64 #[.int .i64 0, .string ⟨#[]⟩, .bool false, .int .i64 0, .int .i64 0, .int .i64 0, .string ⟨#[]⟩]) := Lib.hid (by have := Ob.made (w.alloc (.cells #[.int .i64 0, .string ⟨#[]⟩, .bool false, .int .i64 0, .int .i64 0, .int .i64 0, .string ⟨#[]⟩] 64)) 64 #[.int .i64 0, .string ⟨#[]⟩, .bool false, .int .i64 0, .int .i64 0, .int .i64 0, .string ⟨#[]⟩]; simpa using this)
  have HR0 := Lib.hid ((h.alloc (.cells #[.int .i64 0, .string ⟨#[]⟩, .bool false, .int .i64 0, .int .i64 0, .int .i64 0, .string ⟨#[]⟩] 64)).alloc (.cells #[.int .i64 0, .string ⟨#[]⟩, .bool false, .int .i64 0, .int .i64 0, .int .i64 0, .string ⟨#[]⟩] 64))
  have HO0 := Lib.hid (((Only.refl (r := g) (w := w)).al (.cells #[.int .i64 0, .string ⟨#[]⟩, .bool false, .int .i64 0, .int .i64 0, .int .i64 0, .string ⟨#[]⟩] 64)).al (.cells #[.int .i64 0, .string ⟨#[]⟩, .bool false, .int .i64 0, .int .i64 0, .int .i64 0, .string ⟨#[]⟩] 64))
  clear h e1 e2 e3 e4
  go_enter Tryz.func138, Tryz.ntmps138
  go_wp2_with fail
  go_at_call 155
  refine (pcat_any HR0.out).mono ?_
  rintro x u3 ⟨hx, ho, hr⟩
  obtain rfl : x = .returned (.int .i64 (i : Int)) := by rw [hx, E1.out] <;> rfl
  rw [E1.out] at hr
  clear hx
  have HO3 := Lib.hid (HO0.out.trans ho)
  have HR3 := Lib.hid hr
  have HBr_3 := Lib.hid (HBr_2.out.keep (ho.heap HBr_2.out.lt (by have := HG.out; omega)))
  have HBm_3 := Lib.hid (HBm_2.out.keep (ho.heap HBm_2.out.lt (by have := HG.out; omega)))
  clear ho hr
  go_wp2_with fail
  go_at_call 154
  refine (pattr_any HR3.out (i : Int)).mono ?_
  rintro x u4 ⟨hx, ho, hr⟩
  obtain rfl : x = .returned (.agg #[.int .i64 ac, .string an, .bool am]) := by rw [hx, E2.out] <;> rfl
  rw [E2.out] at hr
  clear hx
  have HO4 := Lib.hid (HO3.out.trans ho)
  have HR4 := Lib.hid hr
  have HBr_4 := Lib.hid (HBr_3.out.keep (ho.heap HBr_3.out.lt (by have := HG.out; omega)))
  have HBm_4 := Lib.hid (HBm_3.out.keep (ho.heap HBm_3.out.lt (by have := HG.out; omega)))
  clear ho hr
  have c5 := HBm_4.out.cell 0
  have f5 := HBm_4.out.frozen 0
  have HO5 := Lib.hid (HO4.out.new (r := w.heap.size + 1) (by have := HG.out; omega) 0 (.int .i64 ac))
  have HR5 := Lib.hid (HR4.out.set (r := w.heap.size + 1) (by have := HG.out; omega) 0 (.int .i64 ac))
  have HBr_5 := Lib.hid (HBr_4.out.keep (Below.heap_setCell u4 ⟨w.heap.size + 1, 0, none⟩ (.int .i64 ac) _ (by show w.heap.size ≠ w.heap.size + 1; have := HG.out; omega)))
  have HBm_5 : Hid (Ob (u4.setCell ⟨w.heap.size + 1, 0, none⟩ (.int .i64 ac)) (w.heap.size + 1) 64 #[.int .i64 ac, .string ⟨#[]⟩, .bool false, .int .i64 0, .int .i64 0, .int .i64 0, .string ⟨#[]⟩]) := Lib.hid (by have := HBm_4.out.put 0 (.int .i64 ac); simpa using this)
  have c6 := HBm_5.out.cell 1
  have f6 := HBm_5.out.frozen 1
  have HO6 := Lib.hid (HO5.out.new (r := w.heap.size + 1) (by have := HG.out; omega) 1 (.string an))
  have HR6 := Lib.hid (HR5.out.set (r := w.heap.size + 1) (by have := HG.out; omega) 1 (.string an))
  have HBr_6 := Lib.hid (HBr_5.out.keep (Below.heap_setCell (u4.setCell ⟨w.heap.size + 1, 0, none⟩ (.int .i64 ac)) ⟨w.heap.size + 1, 1, none⟩ (.string an) _ (by show w.heap.size ≠ w.heap.size + 1; have := HG.out; omega)))
  have HBm_6 : Hid (Ob ((u4.setCell ⟨w.heap.size + 1, 0, none⟩ (.int .i64 ac)).setCell ⟨w.heap.size + 1, 1, none⟩ (.string an)) (w.heap.size + 1) 64 #[.int .i64 ac, .string an, .bool false, .int .i64 0, .int .i64 0, .int .i64 0, .string ⟨#[]⟩]) := Lib.hid (by have := HBm_5.out.put 1 (.string an); simpa using this)
  have c7 := HBm_6.out.cell 2
  have f7 := HBm_6.out.frozen 2
  have HO7 := Lib.hid (HO6.out.new (r := w.heap.size + 1) (by have := HG.out; omega) 2 (.bool am))
  have HR7 := Lib.hid (HR6.out.set (r := w.heap.size + 1) (by have := HG.out; omega) 2 (.bool am))
  have HBr_7 := Lib.hid (HBr_6.out.keep (Below.heap_setCell ((u4.setCell ⟨w.heap.size + 1, 0, none⟩ (.int .i64 ac)).setCell ⟨w.heap.size + 1, 1, none⟩ (.string an)) ⟨w.heap.size + 1, 2, none⟩ (.bool am) _ (by show w.heap.size ≠ w.heap.size + 1; have := HG.out; omega)))
  have HBm_7 : Hid (Ob (((u4.setCell ⟨w.heap.size + 1, 0, none⟩ (.int .i64 ac)).setCell ⟨w.heap.size + 1, 1, none⟩ (.string an)).setCell ⟨w.heap.size + 1, 2, none⟩ (.bool am)) (w.heap.size + 1) 64 #[.int .i64 ac, .string an, .bool am, .int .i64 0, .int .i64 0, .int .i64 0, .string ⟨#[]⟩]) := Lib.hid (by have := HBm_6.out.put 2 (.bool am); simpa using this)
  go_wp2_with fail
  go_at_call 62
  refine (pmust_lit HR7.out [m_eqm, m_lt, m_gt] #[.string ⟨#[61]⟩, .string ⟨#[60]⟩, .string ⟨#[62]⟩] 3 rfl rfl (by omega) (by first | rfl | (simp; done) | (simp [World.setCell]; done))).mono ?_
  rintro x u8 ⟨hx, ho, hr⟩
  obtain rfl : x = .returned (.int .i64 (j : Int)) := by rw [hx, E3.out] <;> rfl
  rw [E3.out] at hr
  clear hx
  have HO8 := Lib.hid (HO7.out.trans ho)
  have HR8 := Lib.hid hr
  have HBr_8 := Lib.hid (HBr_7.out.keep (ho.heap HBr_7.out.lt (by have := HG.out; omega)))
  have HBm_8 := Lib.hid (HBm_7.out.keep (ho.heap HBm_7.out.lt (by have := HG.out; omega)))
  clear ho hr
  have c9 := HBm_8.out.cell 3
  have f9 := HBm_8.out.frozen 3
  have HO9 := Lib.hid (HO8.out.new (r := w.heap.size + 1) (by have := HG.out; omega) 3 (.int .i64 (j : Int)))
  have HR9 := Lib.hid (HR8.out.set (r := w.heap.size + 1) (by have := HG.out; omega) 3 (.int .i64 (j : Int)))
  have HBr_9 := Lib.hid (HBr_8.out.keep (Below.heap_setCell u8 ⟨w.heap.size + 1, 3, none⟩ (.int .i64 (j : Int)) _ (by show w.heap.size ≠ w.heap.size + 1; have := HG.out; omega)))
  have HBm_9 : Hid (Ob (u8.setCell ⟨w.heap.size + 1, 3, none⟩ (.int .i64 (j : Int))) (w.heap.size + 1) 64 #[.int .i64 ac, .string an, .bool am, .int .i64 (j : Int), .int .i64 0, .int .i64 0, .string ⟨#[]⟩]) := Lib.hid (by have := HBm_8.out.put 3 (.int .i64 (j : Int)); simpa using this)
  go_wp2_with fail
  go_at_call 156
  refine (pvalue_any HR9.out).mono ?_
  rintro x u10 ⟨hx, ho, hr⟩
  obtain rfl : x = .returned (.agg #[.int .i64 vk, .int .i64 vn, .string vs]) := by rw [hx, E4.out] <;> rfl
  rw [E4.out] at hr
  clear hx
  have HO10 := Lib.hid (HO9.out.trans ho)
  have HR10 := Lib.hid hr
  have HBr_10 := Lib.hid (HBr_9.out.keep (ho.heap HBr_9.out.lt (by have := HG.out; omega)))
  have HBm_10 := Lib.hid (HBm_9.out.keep (ho.heap HBm_9.out.lt (by have := HG.out; omega)))
  clear ho hr
  have c11 := HBm_10.out.cell 4
  have f11 := HBm_10.out.frozen 4
  have HO11 := Lib.hid (HO10.out.new (r := w.heap.size + 1) (by have := HG.out; omega) 4 (.int .i64 vk))
  have HR11 := Lib.hid (HR10.out.set (r := w.heap.size + 1) (by have := HG.out; omega) 4 (.int .i64 vk))
  have HBr_11 := Lib.hid (HBr_10.out.keep (Below.heap_setCell u10 ⟨w.heap.size + 1, 4, none⟩ (.int .i64 vk) _ (by show w.heap.size ≠ w.heap.size + 1; have := HG.out; omega)))
  have HBm_11 : Hid (Ob (u10.setCell ⟨w.heap.size + 1, 4, none⟩ (.int .i64 vk)) (w.heap.size + 1) 64 #[.int .i64 ac, .string an, .bool am, .int .i64 (j : Int), .int .i64 vk, .int .i64 0, .string ⟨#[]⟩]) := Lib.hid (by have := HBm_10.out.put 4 (.int .i64 vk); simpa using this)
  have c12 := HBm_11.out.cell 5
  have f12 := HBm_11.out.frozen 5
  have HO12 := Lib.hid (HO11.out.new (r := w.heap.size + 1) (by have := HG.out; omega) 5 (.int .i64 vn))
  have HR12 := Lib.hid (HR11.out.set (r := w.heap.size + 1) (by have := HG.out; omega) 5 (.int .i64 vn))
  have HBr_12 := Lib.hid (HBr_11.out.keep (Below.heap_setCell (u10.setCell ⟨w.heap.size + 1, 4, none⟩ (.int .i64 vk)) ⟨w.heap.size + 1, 5, none⟩ (.int .i64 vn) _ (by show w.heap.size ≠ w.heap.size + 1; have := HG.out; omega)))
  have HBm_12 : Hid (Ob ((u10.setCell ⟨w.heap.size + 1, 4, none⟩ (.int .i64 vk)).setCell ⟨w.heap.size + 1, 5, none⟩ (.int .i64 vn)) (w.heap.size + 1) 64 #[.int .i64 ac, .string an, .bool am, .int .i64 (j : Int), .int .i64 vk, .int .i64 vn, .string ⟨#[]⟩]) := Lib.hid (by have := HBm_11.out.put 5 (.int .i64 vn); simpa using this)
  have c13 := HBm_12.out.cell 6
  have f13 := HBm_12.out.frozen 6
  have HO13 := Lib.hid (HO12.out.new (r := w.heap.size + 1) (by have := HG.out; omega) 6 (.string vs))
  have HR13 := Lib.hid (HR12.out.set (r := w.heap.size + 1) (by have := HG.out; omega) 6 (.string vs))
  have HBr_13 := Lib.hid (HBr_12.out.keep (Below.heap_setCell ((u10.setCell ⟨w.heap.size + 1, 4, none⟩ (.int .i64 vk)).setCell ⟨w.heap.size + 1, 5, none⟩ (.int .i64 vn)) ⟨w.heap.size + 1, 6, none⟩ (.string vs) _ (by show w.heap.size ≠ w.heap.size + 1; have := HG.out; omega)))
  have HBm_13 : Hid (Ob (((u10.setCell ⟨w.heap.size + 1, 4, none⟩ (.int .i64 vk)).setCell ⟨w.heap.size + 1, 5, none⟩ (.int .i64 vn)).setCell ⟨w.heap.size + 1, 6, none⟩ (.string vs)) (w.heap.size + 1) 64 #[.int .i64 ac, .string an, .bool am, .int .i64 (j : Int), .int .i64 vk, .int .i64 vn, .string vs]) := Lib.hid (by have := HBm_12.out.put 6 (.string vs); simpa using this)
  have c14_0 := HBm_13.out.cell 0
  have c14_1 := HBm_13.out.cell 1
  have c14_2 := HBm_13.out.cell 2
  have c14_3 := HBm_13.out.cell 3
  have c14_4 := HBm_13.out.cell 4
  have c14_5 := HBm_13.out.cell 5
  have c14_6 := HBm_13.out.cell 6
  have c15 := HBr_13.out.cell 0
  have f15 := HBr_13.out.frozen 0
  have HO15 := Lib.hid (HO13.out.new (r := w.heap.size) (by have := HG.out; omega) 0 (.int .i64 ac))
  have HR15 := Lib.hid (HR13.out.set (r := w.heap.size) (by have := HG.out; omega) 0 (.int .i64 ac))
  have HBr_15 : Hid (Ob ((((u10.setCell ⟨w.heap.size + 1, 4, none⟩ (.int .i64 vk)).setCell ⟨w.heap.size + 1, 5, none⟩ (.int .i64 vn)).setCell ⟨w.heap.size + 1, 6, none⟩ (.string vs)).setCell ⟨w.heap.size, 0, none⟩ (.int .i64 ac)) (w.heap.size) 64 #[.int .i64 ac, .string ⟨#[]⟩, .bool false, .int .i64 0, .int .i64 0, .int .i64 0, .string ⟨#[]⟩]) := Lib.hid (by have := HBr_13.out.put 0 (.int .i64 ac); simpa using this)
  have HBm_15 := Lib.hid (HBm_13.out.keep (Below.heap_setCell (((u10.setCell ⟨w.heap.size + 1, 4, none⟩ (.int .i64 vk)).setCell ⟨w.heap.size + 1, 5, none⟩ (.int .i64 vn)).setCell ⟨w.heap.size + 1, 6, none⟩ (.string vs)) ⟨w.heap.size, 0, none⟩ (.int .i64 ac) _ (by show w.heap.size + 1 ≠ w.heap.size; have := HG.out; omega)))
  have c16 := HBr_15.out.cell 1
  have f16 := HBr_15.out.frozen 1
  have HO16 := Lib.hid (HO15.out.new (r := w.heap.size) (by have := HG.out; omega) 1 (.string an))
  have HR16 := Lib.hid (HR15.out.set (r := w.heap.size) (by have := HG.out; omega) 1 (.string an))
  have HBr_16 : Hid (Ob (((((u10.setCell ⟨w.heap.size + 1, 4, none⟩ (.int .i64 vk)).setCell ⟨w.heap.size + 1, 5, none⟩ (.int .i64 vn)).setCell ⟨w.heap.size + 1, 6, none⟩ (.string vs)).setCell ⟨w.heap.size, 0, none⟩ (.int .i64 ac)).setCell ⟨w.heap.size, 1, none⟩ (.string an)) (w.heap.size) 64 #[.int .i64 ac, .string an, .bool false, .int .i64 0, .int .i64 0, .int .i64 0, .string ⟨#[]⟩]) := Lib.hid (by have := HBr_15.out.put 1 (.string an); simpa using this)
  have HBm_16 := Lib.hid (HBm_15.out.keep (Below.heap_setCell ((((u10.setCell ⟨w.heap.size + 1, 4, none⟩ (.int .i64 vk)).setCell ⟨w.heap.size + 1, 5, none⟩ (.int .i64 vn)).setCell ⟨w.heap.size + 1, 6, none⟩ (.string vs)).setCell ⟨w.heap.size, 0, none⟩ (.int .i64 ac)) ⟨w.heap.size, 1, none⟩ (.string an) _ (by show w.heap.size + 1 ≠ w.heap.size; have := HG.out; omega)))
  have c17 := HBr_16.out.cell 2
  have f17 := HBr_16.out.frozen 2
  have HO17 := Lib.hid (HO16.out.new (r := w.heap.size) (by have := HG.out; omega) 2 (.bool am))
  have HR17 := Lib.hid (HR16.out.set (r := w.heap.size) (by have := HG.out; omega) 2 (.bool am))
  have HBr_17 : Hid (Ob ((((((u10.setCell ⟨w.heap.size + 1, 4, none⟩ (.int .i64 vk)).setCell ⟨w.heap.size + 1, 5, none⟩ (.int .i64 vn)).setCell ⟨w.heap.size + 1, 6, none⟩ (.string vs)).setCell ⟨w.heap.size, 0, none⟩ (.int .i64 ac)).setCell ⟨w.heap.size, 1, none⟩ (.string an)).setCell ⟨w.heap.size, 2, none⟩ (.bool am)) (w.heap.size) 64 #[.int .i64 ac, .string an, .bool am, .int .i64 0, .int .i64 0, .int .i64 0, .string ⟨#[]⟩]) := Lib.hid (by have := HBr_16.out.put 2 (.bool am); simpa using this)
  have HBm_17 := Lib.hid (HBm_16.out.keep (Below.heap_setCell (((((u10.setCell ⟨w.heap.size + 1, 4, none⟩ (.int .i64 vk)).setCell ⟨w.heap.size + 1, 5, none⟩ (.int .i64 vn)).setCell ⟨w.heap.size + 1, 6, none⟩ (.string vs)).setCell ⟨w.heap.size, 0, none⟩ (.int .i64 ac)).setCell ⟨w.heap.size, 1, none⟩ (.string an)) ⟨w.heap.size, 2, none⟩ (.bool am) _ (by show w.heap.size + 1 ≠ w.heap.size; have := HG.out; omega)))
  have c18 := HBr_17.out.cell 3
  have f18 := HBr_17.out.frozen 3
  have HO18 := Lib.hid (HO17.out.new (r := w.heap.size) (by have := HG.out; omega) 3 (.int .i64 (j : Int)))
  have HR18 := Lib.hid (HR17.out.set (r := w.heap.size) (by have := HG.out; omega) 3 (.int .i64 (j : Int)))
  have HBr_18 : Hid (Ob (((((((u10.setCell ⟨w.heap.size + 1, 4, none⟩ (.int .i64 vk)).setCell ⟨w.heap.size + 1, 5, none⟩ (.int .i64 vn)).setCell ⟨w.heap.size + 1, 6, none⟩ (.string vs)).setCell ⟨w.heap.size, 0, none⟩ (.int .i64 ac)).setCell ⟨w.heap.size, 1, none⟩ (.string an)).setCell ⟨w.heap.size, 2, none⟩ (.bool am)).setCell ⟨w.heap.size, 3, none⟩ (.int .i64 (j : Int))) (w.heap.size) 64 #[.int .i64 ac, .string an, .bool am, .int .i64 (j : Int), .int .i64 0, .int .i64 0, .string ⟨#[]⟩]) := Lib.hid (by have := HBr_17.out.put 3 (.int .i64 (j : Int)); simpa using this)
  have HBm_18 := Lib.hid (HBm_17.out.keep (Below.heap_setCell ((((((u10.setCell ⟨w.heap.size + 1, 4, none⟩ (.int .i64 vk)).setCell ⟨w.heap.size + 1, 5, none⟩ (.int .i64 vn)).setCell ⟨w.heap.size + 1, 6, none⟩ (.string vs)).setCell ⟨w.heap.size, 0, none⟩ (.int .i64 ac)).setCell ⟨w.heap.size, 1, none⟩ (.string an)).setCell ⟨w.heap.size, 2, none⟩ (.bool am)) ⟨w.heap.size, 3, none⟩ (.int .i64 (j : Int)) _ (by show w.heap.size + 1 ≠ w.heap.size; have := HG.out; omega)))
  have c19 := HBr_18.out.cell 4
  have f19 := HBr_18.out.frozen 4
  have HO19 := Lib.hid (HO18.out.new (r := w.heap.size) (by have := HG.out; omega) 4 (.int .i64 vk))
  have HR19 := Lib.hid (HR18.out.set (r := w.heap.size) (by have := HG.out; omega) 4 (.int .i64 vk))
  have HBr_19 : Hid (Ob ((((((((u10.setCell ⟨w.heap.size + 1, 4, none⟩ (.int .i64 vk)).setCell ⟨w.heap.size + 1, 5, none⟩ (.int .i64 vn)).setCell ⟨w.heap.size + 1, 6, none⟩ (.string vs)).setCell ⟨w.heap.size, 0, none⟩ (.int .i64 ac)).setCell ⟨w.heap.size, 1, none⟩ (.string an)).setCell ⟨w.heap.size, 2, none⟩ (.bool am)).setCell ⟨w.heap.size, 3, none⟩ (.int .i64 (j : Int))).setCell ⟨w.heap.size, 4, none⟩ (.int .i64 vk)) (w.heap.size) 64 #[.int .i64 ac, .string an, .bool am, .int .i64 (j : Int), .int .i64 vk, .int .i64 0, .string ⟨#[]⟩]) := Lib.hid (by have := HBr_18.out.put 4 (.int .i64 vk); simpa using this)
  have HBm_19 := Lib.hid (HBm_18.out.keep (Below.heap_setCell (((((((u10.setCell ⟨w.heap.size + 1, 4, none⟩ (.int .i64 vk)).setCell ⟨w.heap.size + 1, 5, none⟩ (.int .i64 vn)).setCell ⟨w.heap.size + 1, 6, none⟩ (.string vs)).setCell ⟨w.heap.size, 0, none⟩ (.int .i64 ac)).setCell ⟨w.heap.size, 1, none⟩ (.string an)).setCell ⟨w.heap.size, 2, none⟩ (.bool am)).setCell ⟨w.heap.size, 3, none⟩ (.int .i64 (j : Int))) ⟨w.heap.size, 4, none⟩ (.int .i64 vk) _ (by show w.heap.size + 1 ≠ w.heap.size; have := HG.out; omega)))
  have c20 := HBr_19.out.cell 5
  have f20 := HBr_19.out.frozen 5
  have HO20 := Lib.hid (HO19.out.new (r := w.heap.size) (by have := HG.out; omega) 5 (.int .i64 vn))
  have HR20 := Lib.hid (HR19.out.set (r := w.heap.size) (by have := HG.out; omega) 5 (.int .i64 vn))
  have HBr_20 : Hid (Ob (((((((((u10.setCell ⟨w.heap.size + 1, 4, none⟩ (.int .i64 vk)).setCell ⟨w.heap.size + 1, 5, none⟩ (.int .i64 vn)).setCell ⟨w.heap.size + 1, 6, none⟩ (.string vs)).setCell ⟨w.heap.size, 0, none⟩ (.int .i64 ac)).setCell ⟨w.heap.size, 1, none⟩ (.string an)).setCell ⟨w.heap.size, 2, none⟩ (.bool am)).setCell ⟨w.heap.size, 3, none⟩ (.int .i64 (j : Int))).setCell ⟨w.heap.size, 4, none⟩ (.int .i64 vk)).setCell ⟨w.heap.size, 5, none⟩ (.int .i64 vn)) (w.heap.size) 64 #[.int .i64 ac, .string an, .bool am, .int .i64 (j : Int), .int .i64 vk, .int .i64 vn, .string ⟨#[]⟩]) := Lib.hid (by have := HBr_19.out.put 5 (.int .i64 vn); simpa using this)
  have HBm_20 := Lib.hid (HBm_19.out.keep (Below.heap_setCell ((((((((u10.setCell ⟨w.heap.size + 1, 4, none⟩ (.int .i64 vk)).setCell ⟨w.heap.size + 1, 5, none⟩ (.int .i64 vn)).setCell ⟨w.heap.size + 1, 6, none⟩ (.string vs)).setCell ⟨w.heap.size, 0, none⟩ (.int .i64 ac)).setCell ⟨w.heap.size, 1, none⟩ (.string an)).setCell ⟨w.heap.size, 2, none⟩ (.bool am)).setCell ⟨w.heap.size, 3, none⟩ (.int .i64 (j : Int))).setCell ⟨w.heap.size, 4, none⟩ (.int .i64 vk)) ⟨w.heap.size, 5, none⟩ (.int .i64 vn) _ (by show w.heap.size + 1 ≠ w.heap.size; have := HG.out; omega)))
  have c21 := HBr_20.out.cell 6
  have f21 := HBr_20.out.frozen 6
  have HO21 := Lib.hid (HO20.out.new (r := w.heap.size) (by have := HG.out; omega) 6 (.string vs))
  have HR21 := Lib.hid (HR20.out.set (r := w.heap.size) (by have := HG.out; omega) 6 (.string vs))
  have HBr_21 : Hid (Ob ((((((((((u10.setCell ⟨w.heap.size + 1, 4, none⟩ (.int .i64 vk)).setCell ⟨w.heap.size + 1, 5, none⟩ (.int .i64 vn)).setCell ⟨w.heap.size + 1, 6, none⟩ (.string vs)).setCell ⟨w.heap.size, 0, none⟩ (.int .i64 ac)).setCell ⟨w.heap.size, 1, none⟩ (.string an)).setCell ⟨w.heap.size, 2, none⟩ (.bool am)).setCell ⟨w.heap.size, 3, none⟩ (.int .i64 (j : Int))).setCell ⟨w.heap.size, 4, none⟩ (.int .i64 vk)).setCell ⟨w.heap.size, 5, none⟩ (.int .i64 vn)).setCell ⟨w.heap.size, 6, none⟩ (.string vs)) (w.heap.size) 64 #[.int .i64 ac, .string an, .bool am, .int .i64 (j : Int), .int .i64 vk, .int .i64 vn, .string vs]) := Lib.hid (by have := HBr_20.out.put 6 (.string vs); simpa using this)
  have HBm_21 := Lib.hid (HBm_20.out.keep (Below.heap_setCell (((((((((u10.setCell ⟨w.heap.size + 1, 4, none⟩ (.int .i64 vk)).setCell ⟨w.heap.size + 1, 5, none⟩ (.int .i64 vn)).setCell ⟨w.heap.size + 1, 6, none⟩ (.string vs)).setCell ⟨w.heap.size, 0, none⟩ (.int .i64 ac)).setCell ⟨w.heap.size, 1, none⟩ (.string an)).setCell ⟨w.heap.size, 2, none⟩ (.bool am)).setCell ⟨w.heap.size, 3, none⟩ (.int .i64 (j : Int))).setCell ⟨w.heap.size, 4, none⟩ (.int .i64 vk)).setCell ⟨w.heap.size, 5, none⟩ (.int .i64 vn)) ⟨w.heap.size, 6, none⟩ (.string vs) _ (by show w.heap.size + 1 ≠ w.heap.size; have := HG.out; omega)))
  go_wp2_with fail
  refine bodyPost_ret (match_ret rfl rfl HBr_21.out rfl) rfl ?_
  exact ⟨rfl, HO21.out, HR21.out⟩
set_option maxHeartbeats 3200000 in
theorem pleaf_any (h : Rd L w g s) : Calls Tryz.prog 158 #[.pointer (some ⟨g, 0, none⟩)] w fun x w' => x = .returned (leafR s).1.val ∧ Only g w w' ∧ Rd L w' g (leafR s).2 := by
  obtain ⟨i, s1, e1⟩ : ∃ i t, catR s = (i, t) := ⟨_, _, rfl⟩
  by_cases hc : 0 < i
  · obtain ⟨⟨ac, an, am⟩, s2, e2⟩ : ∃ a t, attrR (i : Int) s1 = (a, t) := ⟨_, _, rfl⟩
    have HE : Hid (leafR s = (⟨2, zeroV, ⟨ac, an, am⟩⟩, s2)) := by show _ = _; unfold leafR; simp only [e1, e2, if_pos hc]
    rw [HE.out]
    have E1 := Lib.hid e1
    have E2 := Lib.hid e2
    have HG : Hid (g < w.heap.size) := h.lt
    have HBr_1 : Hid (Ob (w.alloc (.cells #[.int .i64 0, .int .i64 0, .int .i64 0, .string ⟨#[]⟩, .int .i64 0, .string ⟨#[]⟩, .bool false] 58)) (w.heap.size) 58 #[.int .i64 0, .int .i64 0, .int .i64 0, .string ⟨#[]⟩, .int .i64 0, .string ⟨#[]⟩, .bool false]) := Lib.hid (by have := Ob.made w 58 #[.int .i64 0, .int .i64 0, .int .i64 0, .string ⟨#[]⟩, .int .i64 0, .string ⟨#[]⟩, .bool false]; simpa using this)
    have HR0 := Lib.hid (h.alloc (.cells #[.int .i64 0, .int .i64 0, .int .i64 0, .string ⟨#[]⟩, .int .i64 0, .string ⟨#[]⟩, .bool false] 58))
    have HO0 := Lib.hid ((Only.refl (r := g) (w := w)).al (.cells #[.int .i64 0, .int .i64 0, .int .i64 0, .string ⟨#[]⟩, .int .i64 0, .string ⟨#[]⟩, .bool false] 58))
    clear h e1 e2
    go_enter Tryz.func158, Tryz.ntmps158
    go_wp2_with fail
    go_at_call 155
    refine (pcat_any HR0.out).mono ?_
    rintro x u2 ⟨hx, ho, hr⟩
    obtain rfl : x = .returned (.int .i64 (i : Int)) := by rw [hx, E1.out] <;> rfl
    rw [E1.out] at hr
    clear hx
    have HO2 := Lib.hid (HO0.out.trans ho)
    have HR2 := Lib.hid hr
    have HBr_2 := Lib.hid (HBr_1.out.keep (ho.heap HBr_1.out.lt (by have := HG.out; omega)))
    clear ho hr
    go_wp2_with fail
    go_at_call 154
    refine (pattr_any HR2.out (i : Int)).mono ?_
    rintro x u3 ⟨hx, ho, hr⟩
    obtain rfl : x = .returned (.agg #[.int .i64 ac, .string an, .bool am]) := by rw [hx, E2.out] <;> rfl
    rw [E2.out] at hr
    clear hx
    have HO3 := Lib.hid (HO2.out.trans ho)
    have HR3 := Lib.hid hr
    have HBr_3 := Lib.hid (HBr_2.out.keep (ho.heap HBr_2.out.lt (by have := HG.out; omega)))
    clear ho hr
    have c4 := HBr_3.out.cell 0
    have f4 := HBr_3.out.frozen 0
    have HO4 := Lib.hid (HO3.out.new (r := w.heap.size) (by have := HG.out; omega) 0 (.int .i64 2))
    have HR4 := Lib.hid (HR3.out.set (r := w.heap.size) (by have := HG.out; omega) 0 (.int .i64 2))
    have HBr_4 : Hid (Ob (u3.setCell ⟨w.heap.size, 0, none⟩ (.int .i64 2)) (w.heap.size) 58 #[.int .i64 2, .int .i64 0, .int .i64 0, .string ⟨#[]⟩, .int .i64 0, .string ⟨#[]⟩, .bool false]) := Lib.hid (by have := HBr_3.out.put 0 (.int .i64 2); simpa using this)
    have c5 := HBr_4.out.cell 1
    have f5 := HBr_4.out.frozen 1
    have HO5 := Lib.hid (HO4.out.new (r := w.heap.size) (by have := HG.out; omega) 1 (.int .i64 0))
    have HR5 := Lib.hid (HR4.out.set (r := w.heap.size) (by have := HG.out; omega) 1 (.int .i64 0))
    have HBr_5 : Hid (Ob ((u3.setCell ⟨w.heap.size, 0, none⟩ (.int .i64 2)).setCell ⟨w.heap.size, 1, none⟩ (.int .i64 0)) (w.heap.size) 58 #[.int .i64 2, .int .i64 0, .int .i64 0, .string ⟨#[]⟩, .int .i64 0, .string ⟨#[]⟩, .bool false]) := Lib.hid (by have := HBr_4.out.put 1 (.int .i64 0); simpa using this)
    have c6 := HBr_5.out.cell 2
    have f6 := HBr_5.out.frozen 2
    have HO6 := Lib.hid (HO5.out.new (r := w.heap.size) (by have := HG.out; omega) 2 (.int .i64 0))
    have HR6 := Lib.hid (HR5.out.set (r := w.heap.size) (by have := HG.out; omega) 2 (.int .i64 0))
    have HBr_6 : Hid (Ob (((u3.setCell ⟨w.heap.size, 0, none⟩ (.int .i64 2)).setCell ⟨w.heap.size, 1, none⟩ (.int .i64 0)).setCell ⟨w.heap.size, 2, none⟩ (.int .i64 0)) (w.heap.size) 58 #[.int .i64 2, .int .i64 0, .int .i64 0, .string ⟨#[]⟩, .int .i64 0, .string ⟨#[]⟩, .bool false]) := Lib.hid (by have := HBr_5.out.put 2 (.int .i64 0); simpa using this)
    have c7 := HBr_6.out.cell 3
    have f7 := HBr_6.out.frozen 3
    have HO7 := Lib.hid (HO6.out.new (r := w.heap.size) (by have := HG.out; omega) 3 (.string ⟨#[]⟩))
    have HR7 := Lib.hid (HR6.out.set (r := w.heap.size) (by have := HG.out; omega) 3 (.string ⟨#[]⟩))
    have HBr_7 : Hid (Ob ((((u3.setCell ⟨w.heap.size, 0, none⟩ (.int .i64 2)).setCell ⟨w.heap.size, 1, none⟩ (.int .i64 0)).setCell ⟨w.heap.size, 2, none⟩ (.int .i64 0)).setCell ⟨w.heap.size, 3, none⟩ (.string ⟨#[]⟩)) (w.heap.size) 58 #[.int .i64 2, .int .i64 0, .int .i64 0, .string ⟨#[]⟩, .int .i64 0, .string ⟨#[]⟩, .bool false]) := Lib.hid (by have := HBr_6.out.put 3 (.string ⟨#[]⟩); simpa using this)
    have c8 := HBr_7.out.cell 4
    have f8 := HBr_7.out.frozen 4
    have HO8 := Lib.hid (HO7.out.new (r := w.heap.size) (by have := HG.out; omega) 4 (.int .i64 ac))
    have HR8 := Lib.hid (HR7.out.set (r := w.heap.size) (by have := HG.out; omega) 4 (.int .i64 ac))
    have HBr_8 : Hid (Ob (((((u3.setCell ⟨w.heap.size, 0, none⟩ (.int .i64 2)).setCell ⟨w.heap.size, 1, none⟩ (.int .i64 0)).setCell ⟨w.heap.size, 2, none⟩ (.int .i64 0)).setCell ⟨w.heap.size, 3, none⟩ (.string ⟨#[]⟩)).setCell ⟨w.heap.size, 4, none⟩ (.int .i64 ac)) (w.heap.size) 58 #[.int .i64 2, .int .i64 0, .int .i64 0, .string ⟨#[]⟩, .int .i64 ac, .string ⟨#[]⟩, .bool false]) := Lib.hid (by have := HBr_7.out.put 4 (.int .i64 ac); simpa using this)
    have c9 := HBr_8.out.cell 5
    have f9 := HBr_8.out.frozen 5
    have HO9 := Lib.hid (HO8.out.new (r := w.heap.size) (by have := HG.out; omega) 5 (.string an))
    have HR9 := Lib.hid (HR8.out.set (r := w.heap.size) (by have := HG.out; omega) 5 (.string an))
    have HBr_9 : Hid (Ob ((((((u3.setCell ⟨w.heap.size, 0, none⟩ (.int .i64 2)).setCell ⟨w.heap.size, 1, none⟩ (.int .i64 0)).setCell ⟨w.heap.size, 2, none⟩ (.int .i64 0)).setCell ⟨w.heap.size, 3, none⟩ (.string ⟨#[]⟩)).setCell ⟨w.heap.size, 4, none⟩ (.int .i64 ac)).setCell ⟨w.heap.size, 5, none⟩ (.string an)) (w.heap.size) 58 #[.int .i64 2, .int .i64 0, .int .i64 0, .string ⟨#[]⟩, .int .i64 ac, .string an, .bool false]) := Lib.hid (by have := HBr_8.out.put 5 (.string an); simpa using this)
    have c10 := HBr_9.out.cell 6
    have f10 := HBr_9.out.frozen 6
    have HO10 := Lib.hid (HO9.out.new (r := w.heap.size) (by have := HG.out; omega) 6 (.bool am))
    have HR10 := Lib.hid (HR9.out.set (r := w.heap.size) (by have := HG.out; omega) 6 (.bool am))
    have HBr_10 : Hid (Ob (((((((u3.setCell ⟨w.heap.size, 0, none⟩ (.int .i64 2)).setCell ⟨w.heap.size, 1, none⟩ (.int .i64 0)).setCell ⟨w.heap.size, 2, none⟩ (.int .i64 0)).setCell ⟨w.heap.size, 3, none⟩ (.string ⟨#[]⟩)).setCell ⟨w.heap.size, 4, none⟩ (.int .i64 ac)).setCell ⟨w.heap.size, 5, none⟩ (.string an)).setCell ⟨w.heap.size, 6, none⟩ (.bool am)) (w.heap.size) 58 #[.int .i64 2, .int .i64 0, .int .i64 0, .string ⟨#[]⟩, .int .i64 ac, .string an, .bool am]) := Lib.hid (by have := HBr_9.out.put 6 (.bool am); simpa using this)
    go_wp2_with fail
    refine bodyPost_ret (node_ret rfl rfl HBr_10.out rfl) rfl ?_
    exact ⟨rfl, HO10.out, HR10.out⟩
  · obtain ⟨⟨vk, vn, vs⟩, s2, e2⟩ : ∃ a t, valueR s1 = (a, t) := ⟨_, _, rfl⟩
    have HE : Hid (leafR s = (⟨1, ⟨vk, vn, vs⟩, zeroA⟩, s2)) := by show _ = _; unfold leafR; simp only [e1, e2, if_neg hc]
    obtain rfl : i = 0 := by omega
    rw [HE.out]
    have E1 := Lib.hid e1
    have E2 := Lib.hid e2
    have HG : Hid (g < w.heap.size) := h.lt
    have HBr_1 : Hid (Ob (w.alloc (.cells #[.int .i64 0, .int .i64 0, .int .i64 0, .string ⟨#[]⟩, .int .i64 0, .string ⟨#[]⟩, .bool false] 58)) (w.heap.size) 58 #[.int .i64 0, .int .i64 0, .int .i64 0, .string ⟨#[]⟩, .int .i64 0, .string ⟨#[]⟩, .bool false]) := Lib.hid (by have := Ob.made w 58 #[.int .i64 0, .int .i64 0, .int .i64 0, .string ⟨#[]⟩, .int .i64 0, .string ⟨#[]⟩, .bool false]; simpa using this)
    have HR0 := Lib.hid (h.alloc (.cells #[.int .i64 0, .int .i64 0, .int .i64 0, .string ⟨#[]⟩, .int .i64 0, .string ⟨#[]⟩, .bool false] 58))
    have HO0 := Lib.hid ((Only.refl (r := g) (w := w)).al (.cells #[.int .i64 0, .int .i64 0, .int .i64 0, .string ⟨#[]⟩, .int .i64 0, .string ⟨#[]⟩, .bool false] 58))
    clear h e1 e2
    go_enter Tryz.func158, Tryz.ntmps158
    go_wp2_with fail
    go_at_call 155
    refine (pcat_any HR0.out).mono ?_
    rintro x u2 ⟨hx, ho, hr⟩
    obtain rfl : x = .returned (.int .i64 ((0 : Nat) : Int)) := by rw [hx, E1.out] <;> rfl
    rw [E1.out] at hr
    clear hx
    have HO2 := Lib.hid (HO0.out.trans ho)
    have HR2 := Lib.hid hr
    have HBr_2 := Lib.hid (HBr_1.out.keep (ho.heap HBr_1.out.lt (by have := HG.out; omega)))
    clear ho hr
    go_wp2_with fail
    go_at_call 156
    refine (pvalue_any HR2.out).mono ?_
    rintro x u3 ⟨hx, ho, hr⟩
    obtain rfl : x = .returned (.agg #[.int .i64 vk, .int .i64 vn, .string vs]) := by rw [hx, E2.out] <;> rfl
    rw [E2.out] at hr
    clear hx
    have HO3 := Lib.hid (HO2.out.trans ho)
    have HR3 := Lib.hid hr
    have HBr_3 := Lib.hid (HBr_2.out.keep (ho.heap HBr_2.out.lt (by have := HG.out; omega)))
    clear ho hr
    have c4 := HBr_3.out.cell 0
    have f4 := HBr_3.out.frozen 0
    have HO4 := Lib.hid (HO3.out.new (r := w.heap.size) (by have := HG.out; omega) 0 (.int .i64 1))
    have HR4 := Lib.hid (HR3.out.set (r := w.heap.size) (by have := HG.out; omega) 0 (.int .i64 1))
    have HBr_4 : Hid (Ob (u3.setCell ⟨w.heap.size, 0, none⟩ (.int .i64 1)) (w.heap.size) 58 #[.int .i64 1, .int .i64 0, .int .i64 0, .string ⟨#[]⟩, .int .i64 0, .string ⟨#[]⟩, .bool false]) := Lib.hid (by have := HBr_3.out.put 0 (.int .i64 1); simpa using this)
    have c5 := HBr_4.out.cell 1
    have f5 := HBr_4.out.frozen 1
    have HO5 := Lib.hid (HO4.out.new (r := w.heap.size) (by have := HG.out; omega) 1 (.int .i64 vk))
    have HR5 := Lib.hid (HR4.out.set (r := w.heap.size) (by have := HG.out; omega) 1 (.int .i64 vk))
    have HBr_5 : Hid (Ob ((u3.setCell ⟨w.heap.size, 0, none⟩ (.int .i64 1)).setCell ⟨w.heap.size, 1, none⟩ (.int .i64 vk)) (w.heap.size) 58 #[.int .i64 1, .int .i64 vk, .int .i64 0, .string ⟨#[]⟩, .int .i64 0, .string ⟨#[]⟩, .bool false]) := Lib.hid (by have := HBr_4.out.put 1 (.int .i64 vk); simpa using this)
    have c6 := HBr_5.out.cell 2
    have f6 := HBr_5.out.frozen 2
    have HO6 := Lib.hid (HO5.out.new (r := w.heap.size) (by have := HG.out; omega) 2 (.int .i64 vn))
    have HR6 := Lib.hid (HR5.out.set (r := w.heap.size) (by have := HG.out; omega) 2 (.int .i64 vn))
    have HBr_6 : Hid (Ob (((u3.setCell ⟨w.heap.size, 0, none⟩ (.int .i64 1)).setCell ⟨w.heap.size, 1, none⟩ (.int .i64 vk)).setCell ⟨w.heap.size, 2, none⟩ (.int .i64 vn)) (w.heap.size) 58 #[.int .i64 1, .int .i64 vk, .int .i64 vn, .string ⟨#[]⟩, .int .i64 0, .string ⟨#[]⟩, .bool false]) := Lib.hid (by have := HBr_5.out.put 2 (.int .i64 vn); simpa using this)
    have c7 := HBr_6.out.cell 3
    have f7 := HBr_6.out.frozen 3
    have HO7 := Lib.hid (HO6.out.new (r := w.heap.size) (by have := HG.out; omega) 3 (.string vs))
    have HR7 := Lib.hid (HR6.out.set (r := w.heap.size) (by have := HG.out; omega) 3 (.string vs))
    have HBr_7 : Hid (Ob ((((u3.setCell ⟨w.heap.size, 0, none⟩ (.int .i64 1)).setCell ⟨w.heap.size, 1, none⟩ (.int .i64 vk)).setCell ⟨w.heap.size, 2, none⟩ (.int .i64 vn)).setCell ⟨w.heap.size, 3, none⟩ (.string vs)) (w.heap.size) 58 #[.int .i64 1, .int .i64 vk, .int .i64 vn, .string vs, .int .i64 0, .string ⟨#[]⟩, .bool false]) := Lib.hid (by have := HBr_6.out.put 3 (.string vs); simpa using this)
    have c8 := HBr_7.out.cell 4
    have f8 := HBr_7.out.frozen 4
    have HO8 := Lib.hid (HO7.out.new (r := w.heap.size) (by have := HG.out; omega) 4 (.int .i64 0))
    have HR8 := Lib.hid (HR7.out.set (r := w.heap.size) (by have := HG.out; omega) 4 (.int .i64 0))
    have HBr_8 : Hid (Ob (((((u3.setCell ⟨w.heap.size, 0, none⟩ (.int .i64 1)).setCell ⟨w.heap.size, 1, none⟩ (.int .i64 vk)).setCell ⟨w.heap.size, 2, none⟩ (.int .i64 vn)).setCell ⟨w.heap.size, 3, none⟩ (.string vs)).setCell ⟨w.heap.size, 4, none⟩ (.int .i64 0)) (w.heap.size) 58 #[.int .i64 1, .int .i64 vk, .int .i64 vn, .string vs, .int .i64 0, .string ⟨#[]⟩, .bool false]) := Lib.hid (by have := HBr_7.out.put 4 (.int .i64 0); simpa using this)
    have c9 := HBr_8.out.cell 5
    have f9 := HBr_8.out.frozen 5
    have HO9 := Lib.hid (HO8.out.new (r := w.heap.size) (by have := HG.out; omega) 5 (.string ⟨#[]⟩))
    have HR9 := Lib.hid (HR8.out.set (r := w.heap.size) (by have := HG.out; omega) 5 (.string ⟨#[]⟩))
    have HBr_9 : Hid (Ob ((((((u3.setCell ⟨w.heap.size, 0, none⟩ (.int .i64 1)).setCell ⟨w.heap.size, 1, none⟩ (.int .i64 vk)).setCell ⟨w.heap.size, 2, none⟩ (.int .i64 vn)).setCell ⟨w.heap.size, 3, none⟩ (.string vs)).setCell ⟨w.heap.size, 4, none⟩ (.int .i64 0)).setCell ⟨w.heap.size, 5, none⟩ (.string ⟨#[]⟩)) (w.heap.size) 58 #[.int .i64 1, .int .i64 vk, .int .i64 vn, .string vs, .int .i64 0, .string ⟨#[]⟩, .bool false]) := Lib.hid (by have := HBr_8.out.put 5 (.string ⟨#[]⟩); simpa using this)
    have c10 := HBr_9.out.cell 6
    have f10 := HBr_9.out.frozen 6
    have HO10 := Lib.hid (HO9.out.new (r := w.heap.size) (by have := HG.out; omega) 6 (.bool false))
    have HR10 := Lib.hid (HR9.out.set (r := w.heap.size) (by have := HG.out; omega) 6 (.bool false))
    have HBr_10 : Hid (Ob (((((((u3.setCell ⟨w.heap.size, 0, none⟩ (.int .i64 1)).setCell ⟨w.heap.size, 1, none⟩ (.int .i64 vk)).setCell ⟨w.heap.size, 2, none⟩ (.int .i64 vn)).setCell ⟨w.heap.size, 3, none⟩ (.string vs)).setCell ⟨w.heap.size, 4, none⟩ (.int .i64 0)).setCell ⟨w.heap.size, 5, none⟩ (.string ⟨#[]⟩)).setCell ⟨w.heap.size, 6, none⟩ (.bool false)) (w.heap.size) 58 #[.int .i64 1, .int .i64 vk, .int .i64 vn, .string vs, .int .i64 0, .string ⟨#[]⟩, .bool false]) := Lib.hid (by have := HBr_9.out.put 6 (.bool false); simpa using this)
    go_wp2_with fail
    refine bodyPost_ret (node_ret rfl rfl HBr_10.out rfl) rfl ?_
    exact ⟨rfl, HO10.out, HR10.out⟩
end
end Go.Proofs.YtmoglaknmlhpgaaGreat
/- The parser, plainly: what is left only shrinks, and what is read is such as Go has. -/
namespace Go.Proofs.YtmoglaknmlhpgaaGreat
set_option linter.unusedVariables false

def Goes (L : Nat) (s s' : Pz) : Prop := s'.ok L ∧ s'.rest.length ≤ s.rest.length
section
variable {L : Nat} {s s1 s2 : Pz}
theorem Goes.refl (h : s.ok L) : Goes L s s := ⟨h, Nat.le_refl _⟩
theorem Goes.trans (h1 : Goes L s s1) (h2 : s1.ok L → Goes L s1 s2) : Goes L s s2 := ⟨(h2 h1.1).1, Nat.le_trans (h2 h1.1).2 h1.2⟩
theorem fail_go (h : s.ok L) {e p : Int} (he : e = 5 ∨ e = 6) (hp : 0 ≤ p ∧ p ≤ (L : Int)) : Goes L s (failR e p s) := ⟨h.fail he hp, by rw [failR_len e p h]; exact h.pos⟩
theorem wrong_go (h : s.ok L) : Goes L s (wrongR s) := fail_go h (.inl rfl) h.hd_ok.2.1
theorem most_go (h : s.ok L) (n l : Int) : Goes L s (mostR n l s) := ⟨h.most n l, mostR_len h n l⟩
theorem take_go (h : s.ok L) (ws : List ByteArray) : Goes L s (takeR ws s).2 := ⟨h.take ws, by have := takeR_len h ws; omega⟩
theorem must_go (h : s.ok L) (ws : List ByteArray) : Goes L s (mustR ws s).2 := ⟨h.must ws, (mustR_len h ws).1⟩
theorem name_go (h : s.ok L) : Goes L s (nameR s).2 := ⟨h.name, nameR_len h⟩
theorem next_go (h : s.ok L) (hk : s.hd.k ≠ 7) : Goes L s (nextR s) := ⟨h.next hk, by rw [nextR_len]; omega⟩
theorem attr_go (h : s.ok L) (cat : Int) : Goes L s (attrR cat s).2 := by
  have h1 : Goes L s (if cat = 0 then wrongR s else s) := by
    split
    · exact wrong_go h
    · exact .refl h
  exact ((h1.trans fun h => must_go h _).trans fun h => name_go h).trans fun h => take_go h _
theorem value_go (h : s.ok L) : Goes L s (valueR s).2 := by
  unfold valueR
  split
  · exact must_go h _
  · rename_i hk
    exact next_go h (by intro e; rw [e] at hk; exact hk rfl)
theorem match_go (h : s.ok L) : Goes L s (matchR s).2 :=
  (((take_go h _).trans fun h => attr_go h _).trans fun h => must_go h _).trans fun h => value_go h
theorem leaf_go (h : s.ok L) : Goes L s (leafR s).2 := by
  unfold leafR
  split
  · exact (take_go h _).trans fun h => attr_go h _
  · exact (take_go h _).trans fun h => value_go h
theorem row_go {α : Type} {one : Pz → α × Pz} {btw : ByteArray} (ho : ∀ s, s.ok L → Goes L s (one s).2) : ∀ (n : Nat) (l : List α) (s : Pz), s.ok L → Goes L s (rowR one btw n l s).2
  | 0, l, s, h => .refl h
  | n + 1, l, s, h => by
    have h1 := ((ho s h).trans fun h => most_go h ((l ++ [(one s).1]).length : Int) 8).trans fun h => take_go h [btw]
    unfold rowR
    simp only
    split
    · exact h1
    · exact h1.trans fun h => row_go ho n _ _ h
theorem allOf_go (h : s.ok L) : Goes L s (allOfR s).2 := row_go (fun s h => match_go h) _ _ _ h
theorem anyOf_go (h : s.ok L) : Goes L s (anyOfR s).2 :=
  ((must_go h [m_lp]).trans fun h => row_go (fun s h => allOf_go h) _ _ _ h).trans fun h => must_go h _
theorem target_go (h : s.ok L) : Goes L s (targetR s).2 := by
  unfold targetR
  split
  · exact take_go h _
  · exact (take_go h _).trans fun h => row_go (fun s h => anyOf_go h) _ _ _ h
theorem duties_go : ∀ (n : Nat) (l : List Dut) (s : Pz), s.ok L → Goes L s (dutiesR n l s).2
  | 0, l, s, h => .refl h
  | n + 1, l, s, h => by
    unfold dutiesR
    split
    · exact take_go h _
    · exact (((((take_go h _).trans fun h => must_go h _).trans fun h => must_go h _).trans fun h => name_go h).trans fun h => most_go h _ _).trans fun h => duties_go n _ _ h
theorem duts_go (h : s.ok L) : Goes L s (dutsR s).2 := duties_go _ _ _ h
theorem nod_go (h : s.ok L) (bag : Bool) {p : Int} (hp : 0 ≤ p ∧ p ≤ (L : Int)) (l : List Nod) (n : Nod) : Goes L s (nodR bag p l n s).2 := by
  unfold nodR
  simp only
  split
  · exact (most_go h _ _).trans fun h => fail_go h (.inl rfl) hp
  · exact most_go h _ _
theorem expr_go : ∀ (n : Nat) (l : List Nod) (bag : Bool) (s : Pz), s.ok L → s.rest.length ≤ n → Goes L s (exprR n l bag s).2 ∧ (exprR n l bag s).1.length + 2 * (exprR n l bag s).2.rest.length ≤ l.length + 2 * s.rest.length + 1
  | 0, l, bag, s, h, hn => by have := h.pos; omega
  | n + 1, l, bag, s, h, hn => by
    have ht := take_go h [m_lp]
    have hp := h.hd_ok.2.1
    unfold exprR
    split
    · rename_i h0
      have hl := takeR_len h [m_lp]
      rw [if_neg (by omega)] at hl
      simp only [callR]
      generalize (takeR [m_lp] s).2 = s1 at *
      have hm := must_go ht.1 [w_one, w_size, w_has, w_eq, w_less, w_add, w_sub, w_mul, w_not, w_and, w_or]
      generalize mustR [w_one, w_size, w_has, w_eq, w_less, w_add, w_sub, w_mul, w_not, w_and, w_or] s1 = m at *
      obtain ⟨i, s2⟩ := m
      simp only at hm ⊢
      obtain ⟨he, hel⟩ := expr_go n l (isBag (2 + (i : Int))) s2 hm.1 (by have := hm.2; omega)
      generalize exprR n l (isBag (2 + (i : Int))) s2 = e at *
      obtain ⟨l3, s3⟩ := e
      simp only at he hel ⊢
      have key : ∀ f : List Nod × Pz, f = (if isTwo (2 + (i : Int)) = true then exprR n l3 false s3 else (l3, s3)) → Goes L s3 f.2 ∧ f.1.length + 2 * f.2.rest.length ≤ l3.length + 2 * s3.rest.length + 1 := by
        intro f hf
        split at hf
        · subst hf
          exact expr_go n l3 false s3 he.1 (by have := hm.2; have := he.2; omega)
        · subst hf
          exact ⟨.refl he.1, by simp only; omega⟩
      obtain ⟨hf, hfl⟩ := key _ rfl
      generalize (if isTwo (2 + (i : Int)) = true then exprR n l3 false s3 else (l3, s3)) = f at *
      obtain ⟨l4, s4⟩ := f
      simp only at hf hfl ⊢
      have hr := must_go hf.1 [m_rp]
      have hN := nod_go hr.1 bag hp l4 ⟨2 + (i : Int), zeroV, zeroA⟩
      refine ⟨⟨hN.1, ?_⟩, ?_⟩
      · have := hN.2; have := hr.2; have := hf.2; have := he.2; have := hm.2; have := ht.2; omega
      · have e1 : (nodR bag s.hd.p l4 ⟨2 + (i : Int), zeroV, zeroA⟩ (mustR [m_rp] s4).2).1.length = l4.length + 1 := by simp [nodR]
        have := hN.2; have := hr.2; have := hf.2; have := he.2; have := hm.2
        omega
    · have hlf := leaf_go ht.1
      have hN := nod_go hlf.1 bag hp l (leafR (takeR [m_lp] s).2).1
      have hl := takeR_len h [m_lp]
      refine ⟨⟨hN.1, ?_⟩, ?_⟩
      · have := hN.2; have := hlf.2; have := ht.2; omega
      · have e1 : (nodR bag s.hd.p l (leafR (takeR [m_lp] s).2).1 (leafR (takeR [m_lp] s).2).2).1.length = l.length + 1 := by simp [nodR]
        have := hN.2; have := hlf.2
        omega
theorem cond_go (h : s.ok L) : Goes L s (condR s).2 := by
  unfold condR
  split
  · exact take_go h _
  · exact (take_go h _).trans fun h => (expr_go _ [] false _ h (Nat.le_refl _)).1
theorem rule_go (h : s.ok L) : Goes L s (ruleR s).2 := by
  have h1 := must_go h [w_permit, w_deny]
  have h2 := h1.trans fun h => name_go h
  have h3 := h2.trans fun h => target_go h
  have h4 := h3.trans fun h => cond_go h
  have h5 := h4.trans fun h => duts_go h
  have h6 := h5.trans fun h => must_go h [m_semi]
  unfold ruleR
  simp only
  exact h6

/-! ### What is read is such as Go has -/
theorem zeroV_ok : zeroV.ok := by decide
theorem zeroA_ok : zeroA.ok := by decide
theorem attr_ok (h : s.ok L) {cat : Int} (hc : InI cat) : (attrR cat s).1.ok := by
  have h1 : Goes L s (if cat = 0 then wrongR s else s) := by
    split
    · exact wrong_go h
    · exact .refl h
  exact ⟨hc, nameR_size (h1.trans fun h => must_go h [m_dot]).1⟩
theorem in_small {n : Int} (h1 : -100 ≤ n) (h2 : n ≤ 100) : InI n := by unfold InI; omega
theorem kindR_in (k : Int) : InI (kindR k) := by
  unfold kindR
  repeat' split
  all_goals exact in_small (by omega) (by omega)
theorem value_ok (h : s.ok L) : (valueR s).1.ok := by
  unfold valueR
  split
  · have := mustR_le [w_false, w_true] s
    have : (mustR [w_false, w_true] s).1 ≤ 2 := this
    exact ⟨in_small (by show -100 ≤ (1 : Int); omega) (by show (1 : Int) ≤ 100; omega), in_small (by show -100 ≤ ((mustR [w_false, w_true] s).1 : Int) - 1; omega) (by show ((mustR [w_false, w_true] s).1 : Int) - 1 ≤ 100; omega), Nat.zero_le _⟩
  · exact ⟨kindR_in _, h.hd_ok.2.2.1, h.hd_ok.2.2.2⟩
theorem cat_in (s : Pz) : InI ((catR s).1 : Int) := by
  have : (catR s).1 ≤ 4 := takeR_le _ _
  exact in_small (by omega) (by omega)
theorem match_ok (h : s.ok L) : (matchR s).1.ok := by
  have h1 : (catR s).2.ok L := h.take _
  have h2 := attr_go h1 ((catR s).1 : Int)
  have h3 : (mustR [m_eqm, m_lt, m_gt] (attrR ((catR s).1 : Int) (catR s).2).2).1 ≤ 3 := mustR_le _ _
  exact ⟨attr_ok h1 (cat_in s), in_small (by show -100 ≤ ((mustR [m_eqm, m_lt, m_gt] (attrR ((catR s).1 : Int) (catR s).2).2).1 : Int); omega) (by show ((mustR [m_eqm, m_lt, m_gt] (attrR ((catR s).1 : Int) (catR s).2).2).1 : Int) ≤ 100; omega), value_ok (h2.trans fun h => must_go h _).1⟩
theorem leaf_ok (h : s.ok L) : (leafR s).1.ok := by
  have h1 : (catR s).2.ok L := h.take _
  unfold leafR
  split
  · exact ⟨in_small (by show -100 ≤ (2 : Int); omega) (by show (2 : Int) ≤ 100; omega), zeroV_ok, attr_ok h1 (cat_in s)⟩
  · exact ⟨in_small (by show -100 ≤ (1 : Int); omega) (by show (1 : Int) ≤ 100; omega), value_ok h1, zeroA_ok⟩
end
end Go.Proofs.YtmoglaknmlhpgaaGreat
