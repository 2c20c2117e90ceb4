/- DagOnce, walked (gen16once.py). -/
import Derived.Test.YtipeefehhaffkaaDagOnceM
import Derived.Deep.CutRange
import Derived.Deep.CutBlock
import Derived.Lib.QuietBelow
namespace Go.Proofs.Ytipeefehhaffkaa
set_option linter.unusedVariables false
open Go.RowKit Go.Sort

theorem regrown_call {P : Program} {f : FuncId} {args : Array Value} {w : World} {v : Value} (h : ∀ W, Below w.heap.size w W → Calls P f args W fun e w' => e = .returned v ∧ Below W.heap.size W w') (d : Nat) (os : Array Obj) : Calls P f args (grow (redrawn w d) os) fun e w'' => e = .returned v ∧ ∃ p : Regrown, w'' = grow (redrawn w p.d) p.os :=
  Calls.regrown_of (h _ (below_regrown w d os))
theorem Ow.keep {α : Type} {k : Nat} {P : List Value → α → Prop} {w w' : World} {base : Nat} {E : TypeId} {A : Option Addr} {n c : Nat} {l : List α} (h : Ow k P w base E A n c l) (hk : ∀ b, some b = (Value.slice A n c).ownBlock → w'.heap[b]? = w.heap[b]?) : Ow k P w' base E A n c l := by
  obtain ⟨raw, h1, h2⟩ := h
  exact ⟨raw, own_keep h1 hk, h2⟩
theorem ways_lit {w : World} {base : Nat} (hb : base ≤ w.heap.size) : Ow 1 NuP (w.alloc (.cells #[.int .i64 (-1), .int .i64 (-2), .int .i64 (-3)] 3)) base 3 (some ⟨w.heap.size, 0, none⟩) 3 3 [-1, -2, -3] := by
  refine ⟨[[.int .i64 (-1)], [.int .i64 (-2)], [.int .i64 (-3)]], ⟨rfl, .inr ⟨w.heap.size, 3, _, rfl, hb, Ob.made _ _ _, by omega, by simp [maxLen], rfl, rfl⟩⟩, rfl, rfl, by simp, ?_⟩
  intro j vs x h1 h2
  match j, h1, h2 with
  | 0, h1, h2 => simp at h1 h2; subst h1 h2; rfl
  | 1, h1, h2 => simp at h1 h2; subst h1 h2; rfl
  | 2, h1, h2 => simp at h1 h2; subst h1 h2; rfl
  | j + 3, h1, _ => simp at h1
/-- The diagram and the ways, apart from each other. -/
def OnceS (w : World) (base g k : Nat) (L : List Br) (Aw : Option Addr) (nw cw : Nat) (ws : List Int) : Prop :=
  (∃ A1 n c1, DgAt 57 w base g 60 A1 n c1 L ∧ ∀ b, Ft g (.slice A1 n c1) b → some b ≠ (Value.slice Aw nw cw).ownBlock) ∧ Ow 1 NuP w base 3 Aw nw cw ws ∧ (∀ b ∈ L, b.a ≤ 3) ∧ WaysOk L ws ∧ ws ≠ [] ∧ L.length ≤ k ∧ ws.length ≤ 3 + k
theorem OnceS.below {w w' : World} {base g k : Nat} {L : List Br} {Aw : Option Addr} {nw cw : Nat} {ws : List Int} (h : OnceS w base g k L Aw nw cw ws) (hb : Below w.heap.size w w') : OnceS w' base g k L Aw nw cw ws := by
  obtain ⟨⟨A1, n, c1, h1, h2⟩, h3, h4⟩ := h
  exact ⟨⟨A1, n, c1, h1.below hb, h2⟩, h3.below hb, h4⟩
theorem OnceS.more {w : World} {base g k k' : Nat} {L : List Br} {Aw : Option Addr} {nw cw : Nat} {ws : List Int} (h : OnceS w base g k L Aw nw cw ws) (hk : k ≤ k') : OnceS w base g k' L Aw nw cw ws := by
  obtain ⟨h1, h3, h4, h5, h6, h7, h8⟩ := h
  exact ⟨h1, h3, h4, h5, h6, by omega, by omega⟩
theorem OnceS.ways {w : World} {base g k : Nat} {L : List Br} {Aw : Option Addr} {nw cw : Nat} {ws : List Int} (h : OnceS w base g k L Aw nw cw ws) (hk : k ≤ 24) : Nus w (fun _ => True) Aw nw cw ws := h.2.1.rw (by have := h.2.1.len; have := h.2.2.2.2.2.2; omega) (fun _ _ _ => trivial)
theorem OnceS.len {w : World} {base g k : Nat} {L : List Br} {Aw : Option Addr} {nw cw : Nat} {ws : List Int} (h : OnceS w base g k L Aw nw cw ws) : ws.length = nw ∧ nw ≤ 3 + k ∧ 0 < nw := by
  have h1 := h.2.1.len
  have h2 := List.length_pos_iff.2 h.2.2.2.2.1
  have := h.2.2.2.2.2.2
  omega
/-- Make among them. -/
theorem once_call {w : World} {base g k : Nat} {L : List Br} {Aw : Option Addr} {nw cw : Nat} {ws : List Int} (h : OnceS w base g k L Aw nw cw ws) (hk : k < 24) (q : Ak) :
    Calls Try.prog 9 #[.pointer (some ⟨g, 0, none⟩), .agg #[.int .i64 (onceA q ws).a, .int .i64 (onceA q ws).x, .int .i64 (onceA q ws).y, .int .i64 (onceA q ws).z]] w fun e w' => ∃ p f L', e = .returned (.tuple #[.int .i64 p, .int .i64 f]) ∧ Below base w w' ∧ OnceS w' base g (k + 1) L' Aw nw cw ws ∧ ((f = 0 ∧ WaysOk L' (ws ++ [p])) ∨ f = 1) := by
  obtain ⟨⟨A1, n, c1, h1, h2⟩, h3, h4, h5, h6, h7, h8⟩ := h
  obtain ⟨p, f, L', e, g1, g2, g3, g4⟩ := once_make (k := q) h1.dg h4 h5 h6 (by omega)
  have hin : ∀ z, InI (wayAt ws z) := fun z => by
    obtain ⟨j, _, _, hj⟩ := wayAt_in h6 z
    have := h5 _ (List.mem_of_getElem? hj)
    unfold InI
    omega
  have w0 := within_le (n := q.a) (lo := 0) (hi := 3) (by omega)
  have hok : (onceA q ws).ok := ⟨by unfold InI; simp only [onceA]; omega, hin _, hin _, hin _⟩
  refine (make_any h1 (onceA q ws) hok).mono fun e' w' ⟨A', n', c', he, hd, hm⟩ => ?_
  rw [e] at he hd
  have hlt : ∀ b, some b = (Value.slice Aw nw cw).ownBlock → b < w.heap.size := fun b hb => by
    obtain ⟨raw, r1, _⟩ := h3
    exact (r1.lt b hb.symm).2
  refine ⟨p, f, L', he, hm.below h1.2.2.1.2 (fun b hb => (h1.lt b hb).1), ⟨⟨A', n', c', hd, fun b hb hw => ?_⟩, h3.keep fun b hb => hm.2.2.1 b (hlt b hb) (fun hf => h2 b hf hb), g1, g3, h6, by omega, by omega⟩, g4⟩
  rcases hm.2.2.2 b hb with hf | hf
  · exact h2 b hf hw
  · have := hlt b hw
    omega
/-- One more way. -/
theorem once_push {w : World} {base g k : Nat} {L : List Br} {Aw : Option Addr} {nw cw : Nat} {ws : List Int} (h : OnceS w base g k L Aw nw cw ws) (hk : k ≤ 24) {p : Int} (hp : WaysOk L (ws ++ [p])) (hl : ws.length < 3 + k) :
    ∃ A' c' w', (Builtin.append_ #[33, 33] 33 #[.slice Aw nw cw, .slice (some ⟨w.heap.size, 0, none⟩) 1 1]).run Try.prog (w.alloc (.cells #[.int .i64 p] 3)) = .ok (.slice A' (nw + 1) c') w' ∧ OnceS w' base g k L A' (nw + 1) c' (ws ++ [p]) ∧ Below base w w' := by
  obtain ⟨⟨A1, n, c1, h1, h2⟩, h3, h4, h5, h6, h7, h8⟩ := h
  obtain ⟨A', c', w', r, ho, hg, hb⟩ := push_nu p h3 (by have := h3.len; omega) h1.2.2.1.2
  refine ⟨A', c', w', r, ⟨⟨A1, n, c1, h1.keep (hg.kept h2), fun b hb => hg.other (h1.lt b hb).2 (h2 b hb)⟩, ho, h4, hp, by simp, h7, by simp; omega⟩, hb⟩
set_option maxRecDepth 100000 in
set_option maxHeartbeats 25600000 in
theorem dagOnce_walk (W : World) (A : Option Addr) (n c : Nat) (h : ∃ l, Aks W (fun _ => True) A n c l) :
    Calls Try.prog 5 #[.slice A n c] W fun e w' => e = .returned (.bool true) ∧ Below W.heap.size W w' := by
  obtain ⟨l, hl⟩ := h
  have hle := Rw.le hl
  have hcap := Rw.cap hl
  unfold maxLen at hcap
  have HK := Lib.hid hl
  clear hl
  go_enter Try.func5, Try.ntmps5
  go_wp2_with fail
  refine (new_at 60 (by omega) (by omega) (Nat.le_refl _)).mono ?_
  rintro e w1 ⟨g, rfl, hd, hb⟩
  have S0 : Hid (OnceS (w1.alloc (.cells #[.int .i64 (-1), .int .i64 (-2), .int .i64 (-3)] 3)) W.heap.size g 0 [] (some ⟨w1.heap.size, 0, none⟩) 3 3 [-1, -2, -3]) := by
    refine ⟨⟨none, 0, 0, hd.below (below1 _ _), fun b h1 h2 => ?_⟩, ways_lit hb.size, by simp, ?_, by simp, by simp, by simp⟩
    · have h1 := (hd.lt b h1).2
      simp only [Value.ownBlock, Option.some.injEq] at h2
      omega
    · intro w hw
      simp at hw
      rcases hw with rfl | rfl | rfl <;> simp
  have B0 := Lib.hid (Below.up hb hb.size (below1 w1 (.cells #[.int .i64 (-1), .int .i64 (-2), .int .i64 (-3)] 3)))
  clear hd hb
  go_upto_block 0 with fail
  go_cut [5] from 5 to 80 (fun v wx => (∃ L Aw nw cw ws, v = .slice Aw nw cw ∧ OnceS wx W.heap.size g 24 L Aw nw cw ws) ∧ Below W.heap.size W wx)
  case first =>
    go_wp2_with fail
    go_loopw [5, 6] (fun v i wr => ∃ k : Nat, k ≤ 24 ∧ i = .int .i64 k ∧ (∃ L Aw nw cw ws, v = .slice Aw nw cw ∧ OnceS wr W.heap.size g k L Aw nw cw ws) ∧ Below W.heap.size W wr) (fun _ i _ => 24 - (intOf i).toNat)
    case atStart => exact ⟨0, by omega, rfl, ⟨_, _, _, _, _, rfl, S0.out⟩, B0.out⟩
    case round =>
      clear S0 B0
      obtain ⟨wr0, hwr0⟩ : ∃ w2, w2 = wr := ⟨wr, rfl⟩
      subst hwr0
      obtain ⟨k, hk, rfl, ⟨L, Aw, nw, cw, ws, rfl, hs⟩, hb⟩ := hrel
      have S := Lib.hid hs
      have B := Lib.hid hb
      clear hs hb
      by_cases hin : k < n ∧ k < 24
      case neg =>
        have hout : ((k : Int) < (n : Int) → ¬ (k : Int) < 24) := fun h h2 => hin ⟨by omega, by omega⟩
        have HOUT := Lib.hid hout
        have SF := Lib.hid (S.out.more hk)
        clear hin hout
        by_cases hkn : k < n
        · have hki : (k : Int) < (n : Int) := by omega
          have hk50 := HOUT.out hki
          clear hkn
          go_wp2_with fail
          go_meet
          exact ⟨⟨_, _, _, _, _, rfl, SF.out⟩, B.out⟩
        · have hki : ¬ (k : Int) < (n : Int) := by omega
          clear hkn
          go_wp2_with fail
          go_meet
          exact ⟨⟨_, _, _, _, _, rfl, SF.out⟩, B.out⟩
      obtain ⟨b, oo, q, hAx, hbl, hx, hok, x0, x1, x2, x3, _⟩ := (HK.out.keep (Kept.all B.out _) (fun _ h _ => h)).at_ hin.1
      have hkn : (k : Int) < (n : Int) := by omega
      have hk24 : (k : Int) < 24 := by omega
      have hk' : k < 24 := hin.2
      subst hAx
      have HL := Lib.hid S.out.len
      have CX := Lib.hid (fun V (hV : Below wr0.heap.size wr0 V) => (⟨(World.cell?_of_block (hV.block _ hbl)).trans x1, (World.cell?_of_block (hV.block _ hbl)).trans x2, (World.cell?_of_block (hV.block _ hbl)).trans x3⟩ : _ ∧ _ ∧ _))
      clear hx hok hin x1 x2 x3
      go_wp2_with fail
      refine (within_any (by omega) (by omega) (by omega)).mono ?_
      rintro e w0 ⟨rfl, hw0⟩
      rw [← hw0]
      clear hw0 x0
      obtain ⟨a', ha'⟩ : ∃ a', withinOf q.a 0 3 = a' := ⟨_, rfl⟩
      obtain ⟨bb, hbb⟩ : ∃ bb, onceA q ws = bb := ⟨_, rfl⟩
      have HBA : Hid (bb.a = a') := by show _ = _; rw [← hbb, ← ha']; rfl
      have HBX : Hid (bb.x = wayAt ws q.x ∧ bb.y = wayAt ws q.y ∧ bb.z = wayAt ws q.z) := by show _ ∧ _; rw [← hbb]; exact ⟨rfl, rfl, rfl⟩
      have HBB := Lib.hid hbb
      rw [ha']
      clear ha' hbb
      have O5 : Hid (Ob (wr0.alloc (.cells #[.int .i64 a', .int .i64 0, .int .i64 0, .int .i64 0] 30)) wr0.heap.size 30 (mdC bb 0)) := by show Ob _ _ _ _; unfold mdC; rw [HBA.out]; exact Ob.made _ _ _
      have B5 : Hid (Below wr0.heap.size wr0 (wr0.alloc (.cells #[.int .i64 a', .int .i64 0, .int .i64 0, .int .i64 0] 30))) := below1 _ _
      obtain ⟨V, hV⟩ : ∃ V, wr0.alloc (.cells #[.int .i64 a', .int .i64 0, .int .i64 0, .int .i64 0] 30) = V := ⟨_, rfl⟩
      obtain ⟨gx, hgx⟩ : ∃ gx, wr0.heap.size = gx := ⟨_, rfl⟩
      have HGX : Hid (wr0.heap.size ≤ gx) := by show _ ≤ _; omega
      rw [hV] at O5 B5
      rw [hgx] at O5
      have HV := Lib.hid hV
      have HGE := Lib.hid hgx
      clear hV hgx
      go_wp2_with fail
      try rw [HV.out]
      try rw [HGE.out]
      clear HV HGE
      go_loopw [46] (fun i wr => ∃ t : Nat, t ≤ 3 ∧ i = .int .i64 t ∧ Ob wr gx 30 (mdC bb t) ∧ Only gx V wr) (fun i _ => 3 - (intOf i).toNat)
      case atStart => exact ⟨0, by omega, rfl, O5.out, Only.refl⟩
      case round =>
        obtain ⟨wi, hwi⟩ : ∃ w2, w2 = wr := ⟨wr, rfl⟩
        subst hwi
        obtain ⟨t, ht, rfl, ho, hon⟩ := hrel
        have OI := Lib.hid ho
        have ON := Lib.hid hon
        have BI := Lib.hid (B5.out.trans (hon.below B5.out.size HGX.out))
        clear ho hon
        by_cases h3 : t = 3
        case neg =>
          have hwn : IntKind.i64.wrap ((nw : Int) - 1) = (nw : Int) - 1 := by have := HL.out; rw [IntKind.wrap_i64]; omega
          have HNW := Lib.hid ((S.out.below BI.out).ways (by omega))
          have HL1 : Hid (0 < nw ∧ nw ≤ 27) := ⟨HL.out.2.2, by have := HL.out; omega⟩
          obtain ⟨k1, k2, k3⟩ := CX.out _ BI.out
          have hbl2 : b < wi.heap.size := Nat.lt_of_lt_of_le hbl BI.out.size
          rcases (show t = 0 ∨ t = 1 ∨ t = 2 by omega) with rfl | rfl | rfl
          · obtain ⟨j, hj, hjl, hjw⟩ := wayAt_in (ws := ws) S.out.2.2.2.2.1 q.x
            have hjn : j < nw := by have := HL.out; omega
            obtain ⟨bw, ow, zz, hAw, _, hbwl, hzz, hcz⟩ := HNW.out.at_ hjn
            obtain rfl := Option.some.inj (hjw.symm.trans hzz)
            have HJ : Hid (withinOf q.x 0 ((nw : Int) - 1) = (j : Int)) := by show _ = _; rw [← HL.out.1]; exact hj
            have O6 := Lib.hid (OI.out.put 1 (.int .i64 (wayAt ws q.x)))
            have ON2 := Lib.hid (ON.out.setCell (p := ⟨gx, 1, none⟩) rfl (.int .i64 (wayAt ws q.x)))
            have HSS : Hid ((mdC bb 0).setIfInBounds 1 (.int .i64 (wayAt ws q.x)) = mdC bb 1) := by show _ = _; rw [← HBX.out.1]; rfl
            have q1 := OI.out.cell 1
            have r1 := OI.out.frozen 1
            simp [mdC] at q1
            have hjI : (j : Int) < (nw : Int) := by omega
            subst hAw
            clear hj hjl hjw hzz
            go_wp2_with fail
            refine (within_any (by omega) (by have := HL1.out; omega) (by have := HL1.out; omega)).mono ?_
            rintro e w0 ⟨rfl, hw0⟩
            rw [← hw0, HJ.out]
            clear hw0
            go_wp2_with fail
            go_roundw
            case rel => exact ⟨1, by omega, rfl, by rw [← HSS.out]; exact O6.out, ON2.out⟩
            case measure => simp [intOf]
          · obtain ⟨j, hj, hjl, hjw⟩ := wayAt_in (ws := ws) S.out.2.2.2.2.1 q.y
            have hjn : j < nw := by have := HL.out; omega
            obtain ⟨bw, ow, zz, hAw, _, hbwl, hzz, hcz⟩ := HNW.out.at_ hjn
            obtain rfl := Option.some.inj (hjw.symm.trans hzz)
            have HJ : Hid (withinOf q.y 0 ((nw : Int) - 1) = (j : Int)) := by show _ = _; rw [← HL.out.1]; exact hj
            have O6 := Lib.hid (OI.out.put 2 (.int .i64 (wayAt ws q.y)))
            have ON2 := Lib.hid (ON.out.setCell (p := ⟨gx, 2, none⟩) rfl (.int .i64 (wayAt ws q.y)))
            have HSS : Hid ((mdC bb 1).setIfInBounds 2 (.int .i64 (wayAt ws q.y)) = mdC bb 2) := by show _ = _; rw [← HBX.out.2.1]; rfl
            have q1 := OI.out.cell 2
            have r1 := OI.out.frozen 2
            simp [mdC] at q1
            have hjI : (j : Int) < (nw : Int) := by omega
            subst hAw
            clear hj hjl hjw hzz
            go_wp2_with fail
            refine (within_any (by omega) (by have := HL1.out; omega) (by have := HL1.out; omega)).mono ?_
            rintro e w0 ⟨rfl, hw0⟩
            rw [← hw0, HJ.out]
            clear hw0
            go_wp2_with fail
            go_roundw
            case rel => exact ⟨2, by omega, rfl, by rw [← HSS.out]; exact O6.out, ON2.out⟩
            case measure => simp [intOf]
          · obtain ⟨j, hj, hjl, hjw⟩ := wayAt_in (ws := ws) S.out.2.2.2.2.1 q.z
            have hjn : j < nw := by have := HL.out; omega
            obtain ⟨bw, ow, zz, hAw, _, hbwl, hzz, hcz⟩ := HNW.out.at_ hjn
            obtain rfl := Option.some.inj (hjw.symm.trans hzz)
            have HJ : Hid (withinOf q.z 0 ((nw : Int) - 1) = (j : Int)) := by show _ = _; rw [← HL.out.1]; exact hj
            have O6 := Lib.hid (OI.out.put 3 (.int .i64 (wayAt ws q.z)))
            have ON2 := Lib.hid (ON.out.setCell (p := ⟨gx, 3, none⟩) rfl (.int .i64 (wayAt ws q.z)))
            have HSS : Hid ((mdC bb 2).setIfInBounds 3 (.int .i64 (wayAt ws q.z)) = mdC bb 3) := by show _ = _; rw [← HBX.out.2.2]; rfl
            have q1 := OI.out.cell 3
            have r1 := OI.out.frozen 3
            simp [mdC] at q1
            have hjI : (j : Int) < (nw : Int) := by omega
            subst hAw
            clear hj hjl hjw hzz
            go_wp2_with fail
            refine (within_any (by omega) (by have := HL1.out; omega) (by have := HL1.out; omega)).mono ?_
            rintro e w0 ⟨rfl, hw0⟩
            rw [← hw0, HJ.out]
            clear hw0
            go_wp2_with fail
            go_roundw
            case rel => exact ⟨3, by omega, rfl, by rw [← HSS.out]; exact O6.out, ON2.out⟩
            case measure => simp [intOf]
        subst h3
        have S2 := Lib.hid (S.out.below BI.out)
        have B2 := Lib.hid (Below.up B.out (by have := B.out.size; omega) BI.out)
        have z0 := OI.out.cell 0
        have z1 := OI.out.cell 1
        have z2 := OI.out.cell 2
        have z3 := OI.out.cell 3
        simp [mdC] at z0 z1 z2 z3
        have CM := Lib.hid (once_call S2.out hk' q)
        rw [HBB.out] at CM
        go_wp2_with fail
        refine CM.out.mono ?_
        rintro e w4 ⟨p, f, L', rfl, hb, hs, hf⟩
        have B3 := Lib.hid (B2.out.trans hb)
        have S3 := Lib.hid hs
        clear hb hs z0 z1 z2 z3 CM
        rcases hf with ⟨rfl, hp⟩ | rfl
        · obtain ⟨A9, c9, w9, hrun, hs9, hb9⟩ := once_push S3.out (by omega) hp (by have := S.out.2.2.2.2.2.2; omega)
          have S9 := Lib.hid hs9
          have B9 := Lib.hid (B3.out.trans hb9)
          have R9 := Lib.hid hrun
          clear hs9 hb9 hrun hp
          go_wp2_with (at_builtin; refine wpList_append_run rfl _ _ _ _ rfl rfl rfl R9.out ?_)
          go_roundw
          case rel => exact ⟨k + 1, by omega, by go_num, ⟨_, _, _, _, _, rfl, S9.out⟩, B9.out⟩
          case measure => simp [intOf]; omega
        · go_wp2_with fail
          go_roundw
          case rel => exact ⟨k + 1, by omega, by go_num, ⟨_, _, _, _, _, rfl, S3.out⟩, B3.out⟩
          case measure => simp [intOf]; omega
  case rest =>
  obtain ⟨⟨L, Aw, nw, cw, ws, rfl, hs⟩, hb⟩ := hcut
  obtain ⟨w3, hw3⟩ : ∃ w3, w3 = wc := ⟨_, rfl⟩
  rw [← hw3] at hs hb ⊢
  clear hw3 S0 B0
  have S := Lib.hid hs
  have B := Lib.hid hb
  have HL := Lib.hid hs.len
  have HW := Lib.hid (hs.ways (Nat.le_refl _))
  obtain ⟨⟨A1, n1, c1, hd, _⟩, _, h4, h5, _⟩ := hs
  have D := Lib.hid hd
  have H4 := Lib.hid h4
  have H5 := Lib.hid h5
  have HDG := Lib.hid hd.dg
  have HLN := Lib.hid hd.len
  have hn2000 := hd.few.1
  clear hb hd h4 h5
  have HNW : Hid (nw ≤ 27) := by show _ ≤ _; have := HL.out; omega
  go_wp2_with fail
  go_loopw [11, 83] (fun en i wr => ∃ t : Nat, t ≤ nw ∧ i = .int .i64 t ∧ ∃ Ae ce, en = .slice Ae t ce ∧ Gr 1 EnP wr w3.heap.size 33 Ae t ce ((ws.take t).map (endsOf L)) ∧ Below w3.heap.size w3 wr) (fun _ i _ => nw - (intOf i).toNat)
  case atStart => exact ⟨0, by omega, rfl, none, 0, rfl, Gr.nil _ _ (Nat.le_refl _), Below.refl _ _⟩
  case round =>
    obtain ⟨wi, hwi⟩ : ∃ w2, w2 = wr := ⟨wr, rfl⟩
    subst hwi
    obtain ⟨t, ht, rfl, Ae, ce, rfl, hg, hb⟩ := hrel
    have G := Lib.hid hg
    have BI := Lib.hid hb
    clear hg hb
    by_cases htn : t < nw
    · obtain ⟨bw, ow, z, hAw, _, hbwl, hz, hcz⟩ := (HW.out.keep (Kept.all BI.out _) (fun _ h _ => h)).at_ htn
      have htI : (t : Int) < (nw : Int) := by omega
      have hz5 := H5.out z (List.mem_of_getElem? hz)
      have hzI : InI z := by unfold InI; have := HLN.out; omega
      have HZI := Lib.hid hzI
      have HZ := Lib.hid hz
      clear hz hz5 hzI
      subst hAw
      go_wp2_with fail
      go_loopw [14, 15] (fun ro i wq => ∃ a : Nat, a ≤ 81 ∧ i = .int .i64 a ∧ ∃ Ar cr, ro = .slice Ar a cr ∧ Ow 1 NuP wq wi.heap.size 3 Ar a cr ((List.range a).map fun a => walkD L z (ansN a)) ∧ Below wi.heap.size wi wq) (fun _ i _ => 81 - (intOf i).toNat)
      case atStart => exact ⟨0, by omega, rfl, none, 0, rfl, Ow.nil _ _ _ _ _, Below.refl _ _⟩
      case round =>
        obtain ⟨wq, hwq⟩ : ∃ w2, w2 = wr := ⟨wr, rfl⟩
        subst hwq
        obtain ⟨a, ha, rfl, Ar, cr, rfl, ho, hb⟩ := hrel
        have O := Lib.hid ho
        have BQ := Lib.hid hb
        clear ho hb hcz
        by_cases h81 : a < 81
        · have haI : (a : Int) < 81 := by omega
          have m1 : (a : Int).tmod 3 = ((a % 3 : Nat) : Int) := by rw [Int.tmod_eq_emod_of_nonneg (by omega)]; omega
          have m2 : (a : Int).tdiv 3 = ((a / 3 : Nat) : Int) := by rw [Int.tdiv_eq_ediv_of_nonneg (by omega)]; omega
          have m3 : ((a / 3 : Nat) : Int).tmod 3 = ((a / 3 % 3 : Nat) : Int) := by rw [Int.tmod_eq_emod_of_nonneg (by omega)]; omega
          have m4 : (a : Int).tdiv 9 = ((a / 9 : Nat) : Int) := by rw [Int.tdiv_eq_ediv_of_nonneg (by omega)]; omega
          have m5 : ((a / 9 : Nat) : Int).tmod 3 = ((a / 9 % 3 : Nat) : Int) := by rw [Int.tmod_eq_emod_of_nonneg (by omega)]; omega
          have m6 : (a : Int).tdiv 27 = ((a / 27 : Nat) : Int) := by rw [Int.tdiv_eq_ediv_of_nonneg (by omega)]; omega
          obtain ⟨r1, hr1⟩ : ∃ r, a % 3 = r := ⟨_, rfl⟩
          obtain ⟨d3, hd3⟩ : ∃ r, a / 3 = r := ⟨_, rfl⟩
          obtain ⟨r2, hr2⟩ : ∃ r, d3 % 3 = r := ⟨_, rfl⟩
          obtain ⟨d9, hd9⟩ : ∃ r, a / 9 = r := ⟨_, rfl⟩
          obtain ⟨r3, hr3⟩ : ∃ r, d9 % 3 = r := ⟨_, rfl⟩
          obtain ⟨r4, hr4⟩ : ∃ r, a / 27 = r := ⟨_, rfl⟩
          have HAN : Hid (ansN a = [(r1 : Int), (r2 : Int), (r3 : Int), (r4 : Int)]) := by show _ = _; unfold ansN; rw [hr1, hd3, hr2, hd9, hr3, hr4]
          rw [hr1] at m1
          rw [hd3] at m2
          rw [hd3, hr2] at m3
          rw [hd9] at m4
          rw [hd9, hr3] at m5
          rw [hr4] at m6
          have w1' : d3 ≤ 27 ∧ d9 ≤ 9 ∧ r4 ≤ 3 := by omega
          clear hr1 hr2 hr3 hr4 hd3 hd9
          have HS : Hid (Sl (wq.alloc (.cells #[.int .i64 (r1 : Int), .int .i64 (r2 : Int), .int .i64 (r3 : Int), .int .i64 (r4 : Int)] 3)) (wq.heap.size + 1) (some ⟨wq.heap.size, 0, none⟩) 4 4 (nv (ansN a))) := by
            show Sl _ _ _ _ _ _
            rw [HAN.out]
            exact Sl.lit wq 3 [.int .i64 (r1 : Int), .int .i64 (r2 : Int), .int .i64 (r3 : Int), .int .i64 (r4 : Int)] 4 rfl (by simp [maxLen])
          have BL := below1 wq (.cells #[.int .i64 (r1 : Int), .int .i64 (r2 : Int), .int .i64 (r3 : Int), .int .i64 (r4 : Int)] 3)
          have B3q := Lib.hid (below_step (below_step BI.out BQ.out) BL)
          have O2 := Lib.hid (O.out.below BL)
          have BQ2 := Lib.hid (below_step BQ.out BL)
          have HSZ : Hid (wq.heap.size + 1 ≤ (wq.alloc (.cells #[.int .i64 (r1 : Int), .int .i64 (r2 : Int), .int .i64 (r3 : Int), .int .i64 (r4 : Int)] 3)).heap.size) := by show _ ≤ _; rw [size_al]; exact Nat.le_refl _
          have CW := Lib.hid (walk_any (D.out.below B3q.out) z HZI.out HS.out HSZ.out)
          obtain ⟨v, hv⟩ : ∃ v, walkD L z (ansN a) = v := ⟨_, rfl⟩
          have HV := Lib.hid hv
          rw [hv] at CW
          clear hv BL
          go_wp2_with fail
          refine CW.out.mono ?_
          rintro e wz ⟨rfl, hb⟩
          have O3 := Lib.hid (O2.out.below hb)
          have BZ := Lib.hid (below_step BQ2.out hb)
          clear hb m1 m2 m3 m4 m5 m6
          obtain ⟨A9, c9, w9, hrun, ho9, _, hb9⟩ := push_nu v O3.out (by omega) BZ.out.size
          have O9 := Lib.hid ho9
          have B9 := Lib.hid (BZ.out.trans hb9)
          have R9 := Lib.hid hrun
          have HST : Hid ((List.range (a + 1)).map (fun a => walkD L z (ansN a)) = (List.range a).map (fun a => walkD L z (ansN a)) ++ [v]) := by show _ = _; rw [List.range_succ, List.map_append, ← HV.out]; rfl
          clear hrun ho9 hb9
          go_wp2_with (at_builtin; refine wpList_append_run rfl _ _ _ _ rfl rfl rfl R9.out ?_)
          go_roundw
          case rel => exact ⟨a + 1, by omega, by go_num, _, _, rfl, by rw [HST.out]; exact O9.out, B9.out⟩
          case measure => simp [intOf]; omega
        · obtain rfl : a = 81 := by omega
          have hx := O.out.rw (R := Nb w3.heap.size (.slice Ae t ce)) (by omega) (fun ad _ had => Gr.apart G.out _ had)
          have G2 := Gr.below keeps_en G.out BQ.out
          obtain ⟨A9, c9, w9, hrun, hg9, hb9⟩ := push_en G2 hx (by have := HNW.out; omega)
          have G9 := Lib.hid hg9
          have B9 := Lib.hid ((below_step BI.out BQ.out).trans hb9)
          have R9 := Lib.hid hrun
          have HST : Hid ((ws.take (t + 1)).map (endsOf L) = (ws.take t).map (endsOf L) ++ [(List.range 81).map fun a => walkD L z (ansN a)]) := by show _ = _; rw [List.take_add_one, HZ.out, List.map_append]; rfl
          clear hrun hg9 hb9 hx G2
          have hnw27 := HNW.out
          go_wp2_with (at_builtin; refine wpList_append_run rfl _ _ _ _ rfl rfl rfl R9.out ?_)
          go_roundw
          case rel => exact ⟨t + 1, by omega, by go_num, _, _, rfl, by rw [HST.out]; exact G9.out, B9.out⟩
          case measure => simp [intOf]; omega
    · obtain rfl : nw = t := by omega
      have HE : Hid (Rw 1 (EnP wi (fun b => w3.heap.size ≤ b)) wi (fun b => w3.heap.size ≤ b) Ae nw ce (ws.map (endsOf L))) := by
        have := Gr.rw keeps_en G.out (by have := HNW.out; omega)
        rwa [List.take_of_length_le (by have := HL.out; omega)] at this
      have HW2 := Lib.hid (HW.out.keep (Kept.all BI.out (fun _ => True)) (R' := fun _ => True) (fun _ _ _ => trivial))
      have hleE := Rw.le HE.out
      have hcapE := Rw.cap HE.out
      have hleW := Rw.le HW2.out
      have hcapW := Rw.cap HW2.out
      unfold maxLen at hcapE hcapW
      have hnw27 := HNW.out
      clear G
      go_wp2_with fail
      go_loopw [115] (fun i wr => ∃ x : Nat, x ≤ nw ∧ i = .int .i64 x ∧ Below wi.heap.size wi wr) (fun i _ => nw - (intOf i).toNat)
      case atStart => exact ⟨0, by omega, rfl, Below.refl _ _⟩
      case round =>
        obtain ⟨wa, hwa⟩ : ∃ w2, w2 = wr := ⟨wr, rfl⟩
        subst hwa
        obtain ⟨x, hx, rfl, hb⟩ := hrel
        have BA := Lib.hid hb
        clear hb
        by_cases hxn : x < nw
        · have hxI : (x : Int) < (nw : Int) := by omega
          go_wp2_with fail
          go_loopw [17] (fun i wr => ∃ y : Nat, y ≤ x ∧ i = .int .i64 y ∧ Below wi.heap.size wi wr) (fun i _ => x - (intOf i).toNat)
          case atStart => exact ⟨0, by omega, rfl, BA.out⟩
          case round =>
            obtain ⟨wb, hwb⟩ : ∃ w2, w2 = wr := ⟨wr, rfl⟩
            subst hwb
            obtain ⟨y, hy, rfl, hb⟩ := hrel
            have BB := Lib.hid hb
            clear hb
            by_cases hyx : y < x
            · have hyI : (y : Int) < (x : Int) := by omega
              have hyn : (y : Int) < (nw : Int) := by omega
              have HWB := Lib.hid (HW2.out.keep (Kept.all BB.out _) (fun _ h _ => h))
              have HEB : Hid (Rw 1 (EnP wb (fun b => w3.heap.size ≤ b)) wb (fun b => w3.heap.size ≤ b) Ae nw ce (ws.map (endsOf L))) := Rw.keep HE.out (Kept.all BB.out _) (fun _ h _ => h) (fun vs x _ hp => keeps_en _ _ _ _ vs x hp (Kept.all BB.out _) (fun _ h _ => h))
              obtain ⟨b1, o1, v1, hA1, _, hb1, hv1, k1⟩ := HWB.out.at_ hxn
              obtain ⟨b2, o2, v2, hA2, _, hb2, hv2, k2⟩ := HWB.out.at_ (show y < nw by omega)
              rw [hA1] at hA2
              injection hA2 with hA2
              injection hA2 with hA2 hA3
              subst hA2 hA3
              obtain ⟨b3, o3, r1, E1, m1, q1, hE1, hb3, hr1, k3, hn1⟩ := en_at HEB.out hxn
              obtain ⟨b4, o4, r2, E2, m2, q2, hE2, hb4, hr2, k4, hn2⟩ := en_at HEB.out (show y < nw by omega)
              rw [hE1] at hE2
              injection hE2 with hE2
              injection hE2 with hE2 hE3
              subst hE2 hE3
              have e1 : r1 = endsOf L v1 := by rw [List.getElem?_map, hv1] at hr1; exact (Option.some.inj hr1).symm
              have e2 : r2 = endsOf L v2 := by rw [List.getElem?_map, hv2] at hr2; exact (Option.some.inj hr2).symm
              have z1 := H5.out v1 (List.mem_of_getElem? hv1)
              have z2 := H5.out v2 (List.mem_of_getElem? hv2)
              have hsame := ends_same HDG.out H4.out z1.2 z2.2
              rw [← e1, ← e2] at hsame
              have QS := Lib.hid (regrown_call (w := wb) fun V' hV => samenu_any (hn1.keep (Kept.all hV _) (R' := fun _ => True) (fun _ _ _ => trivial)) (hn2.keep (Kept.all hV _) (R' := fun _ => True) (fun _ _ _ => trivial)))
              obtain ⟨tb, htb⟩ : ∃ tb, decide (r1 = r2) = tb := ⟨_, rfl⟩
              rw [htb] at hsame QS
              clear htb e1 e2 z1 z2 hr1 hr2 hn1 hn2 hv1 hv2
              subst hA1 hE1
              have k1 := fun d os => cell_regrown k1 d os
              have k2 := fun d os => cell_regrown k2 d os
              have k3 := fun d os => cell_regrown k3 d os
              have k4 := fun d os => cell_regrown k4 d os
              go_upto_region 36 with fail
              refine wp_region_quiet_below (by kernel_rfl) (by kernel_rfl) ?_
              repeat (go_big_quiet_step ((go_at_call 20; with_reducible exact QS.out _ _)))
              refine wpQuiet_nil ?_
              intro _ hw'
              obtain ⟨⟨dq, osq⟩, hw''⟩ := hw'
              subst hw''
              have BC := Lib.hid (below_step BB.out (below_regrown wb dq osq))
              clear k1 k2 k3 k4 QS hsame
              dsimp only at BC ⊢
              generalize grow (redrawn wb dq) osq = wd at *
              go_wp2_with fail
              go_roundw
              case rel => exact ⟨y + 1, by omega, by go_num, BC.out⟩
              case measure => simp [intOf]; omega
            · obtain rfl : x = y := by omega
              go_wp2_with fail
              go_roundw
              case rel => exact ⟨x + 1, by omega, by go_num, BB.out⟩
              case measure => simp [intOf]; omega
        · obtain rfl : nw = x := by omega
          have BF := Lib.hid (Below.up B.out (by have := B.out.size; omega) (below_step BI.out BA.out))
          go_wp2_with fail
          refine (dagruns_any _).mono ?_
          rintro e wf ⟨rfl, hb⟩
          have BG := Lib.hid (Below.up BF.out (by have := BF.out.size; omega) hb)
          clear hb
          go_wp2_with fail
          go_ret
          exact ⟨rfl, BG.out⟩
end Go.Proofs.Ytipeefehhaffkaa
