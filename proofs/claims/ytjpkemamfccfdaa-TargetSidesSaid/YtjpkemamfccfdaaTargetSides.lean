/- TargetSides: the walk. -/
import Derived.Test.YtjpkemamfccfdaaTgtC
import Derived.Test.YtjpkemamfccfdaaTgtB
namespace Go.Proofs.Ytjpkemamfccfdaa
set_option linter.unusedVariables false
open Go.RowKit Go.Sort

/-- The case's x against a number. -/
def mO (op m : Int) : Mat := ⟨⟨3, ⟨#[120]⟩, false⟩, op, nV m⟩
theorem nV_right (x : Int) : (nV x).right := .inr (.inl ⟨rfl, rfl⟩)
theorem xG_getB (l : List Vl) (m op : Int) : getE [xG l] (mO op m).a = 0 ∧ getR [xG l] (mO op m).a = l := by
  have hi : idxA [xG l] 3 ⟨#[120]⟩ = 0 := idx_at (g := xG l) rfl (isG_self (xG l)) (fun j x _ hj => by omega)
  have hb : getB [xG l] (mO op m).a = l := by
    show bagA [xG l] 3 ⟨#[120]⟩ = l
    unfold bagA
    rw [hi]
    rfl
  have he : getE [xG l] (mO op m).a = 0 := by unfold getE; rw [if_neg (fun h => by cases h.1)]
  refine ⟨he, ?_⟩
  unfold getR
  rw [if_pos he, hb]
theorem xG_match (l : List Vl) (op m : Int) : matchI [xG l] (mO op m) = most (heldI (mO op m)) l := by
  unfold matchI
  rw [if_pos (xG_getB l m op).1, (xG_getB l m op).2]
theorem less_nV (a b : Int) : lessI (nV a) (nV b) = trI (decide (a < b)) := by
  unfold lessI
  rw [less_num (nV_right a) (nV_right b) rfl (show (2 : Int) ≠ 1 by decide) (show inT 2 = false by decide)]
  rfl
theorem held_1 (m n : Int) : heldI (mO 1 m) (nV n) = trI (decide (n = m)) := by
  show sameI (nV n) (nV m) = _
  unfold sameI
  rw [if_pos (show (nV n).k = (nV m).k from rfl)]
  by_cases h : n = m
  · rw [veq_true (by rw [h]), decide_eq_true h]
  · rw [veq_false (fun e => h (congrArg Vl.n e)), decide_eq_false h]
theorem held_2 (m n : Int) : heldI (mO 2 m) (nV n) = trI (decide (n < m)) := less_nV n m
theorem held_3 (m n : Int) : heldI (mO 3 m) (nV n) = trI (decide (m < n)) := less_nV m n
theorem held_sides (m n : Int) : heldI (mO 1 m) (nV n) + heldI (mO 2 m) (nV n) + heldI (mO 3 m) (nV n) = 2 := by
  rw [held_1, held_2, held_3]
  rcases Int.lt_trichotomy n m with h | h | h
  · rw [decide_eq_false (by omega), decide_eq_true h, decide_eq_false (by omega)]; rfl
  · rw [decide_eq_true h, decide_eq_false (by omega), decide_eq_false (by omega)]; rfl
  · rw [decide_eq_false (by omega), decide_eq_false (by omega), decide_eq_true h]; rfl
theorem held_2_iff (m n : Int) : (heldI (mO 2 m) (nV n) == 2) = decide (n < m) := by
  rw [held_2]
  by_cases h : n < m
  · rw [decide_eq_true h]; rfl
  · rw [decide_eq_false h]; rfl
theorem most_single {f : Vl → Int} (hf : ∀ x, Tri (f x)) (v : Vl) : most f [v] = f v := by
  have := (hf v).1
  show max (f v) 0 = f v
  omega

set_option maxRecDepth 100000 in
set_option maxHeartbeats 3200000 in
theorem tgask_any {w : World} {h7 h4 : Nat} {m : Int} (hm : InI m) (hp : Ob w h7 23 #[.int .i64 3, .string ⟨#[120]⟩, .bool false]) (hi : Ob w h4 3 #[.int .i64 m]) {R : Nat → Prop} {A : Option Addr} {n c : Nat} {l : List Vl} {r : Int} (op : Int) (hr : most (heldI (mO op m)) l = r) (h : Gvs w R A n c [xG l]) (hs : ShortG [xG l]) :
    Calls Try.prog 20 #[.int .i64 op, .slice A n c, .pointer (some ⟨h7, 0, none⟩), .pointer (some ⟨h4, 0, none⟩)] w fun e w' => e = .returned (.int .i64 r) ∧ Below w.heap.size w w' := by
  have HC : Hid (∀ V, Below w.heap.size w V → Calls Try.prog 12 #[.agg #[.int .i64 3, .string ⟨#[120]⟩, .bool false, .int .i64 op, .int .i64 2, .int .i64 m, .string ⟨#[]⟩], .slice A n c] V fun e w' => e = .returned (.int .i64 r) ∧ Below V.heap.size V w') := fun V hV => tgmatch_is (w := V) (mO op m) ((xG_match l op m).trans hr) (by show (⟨#[]⟩ : ByteArray).size ≤ maxLen; decide +kernel) (h.up' hV) hs
  have p0 := fun d os => cell_regrown (hp.cell 0) d os
  have p1 := fun d os => cell_regrown (hp.cell 1) d os
  have p2 := fun d os => cell_regrown (hp.cell 2) d os
  have p4 := fun d os => cell_regrown (hi.cell 0) d os
  have Q1 := Lib.hid (fun d os => Calls.regrown_of (w := w) (d := d) (os := os) (tgnum_any m _))
  have Q2 := Lib.hid (fun d os => Calls.regrown_of (w := w) (d := d) (os := os) (HC.out _ (below_regrown w d os)))
  clear HC h hs hp hi hr
  go_enter Try.func20, Try.ntmps20
  go_upto_region 1 with fail
  refine wp_region_quiet_below (by kernel_rfl) (by kernel_rfl) ?_
  repeat (go_big_quiet_step (first | (go_at_call 11; with_reducible exact Q1.out _ _) | (go_at_call 12; with_reducible exact Q2.out _ _)))
  refine wpQuiet_nil ?_
  intro _ hw'
  obtain ⟨⟨dq, osq⟩, hw''⟩ := hw'
  subst hw''
  go_wp2_with fail
  go_ret
  exact ⟨rfl, below_regrown w dq osq⟩

theorem bag_xG {l : List Int} (h : l.length ≤ 16) : ShortG [xG (l.map nV)] := xG_short (fun v hv => by obtain ⟨x, _, rfl⟩ := List.mem_map.1 hv; show (⟨#[]⟩ : ByteArray).size ≤ 100; decide +kernel) (by rw [List.length_map]; omega)
theorem bag_vls {w : World} {base n c : Nat} {A : Option Addr} {l : List Int} (h : w.ownsRow base 25 3 (.slice A n c) n (cells3 (l.map nV))) (hn : l.length = n) (hb : n ≤ 1000) (hr : ∀ x ∈ l, InI x) : Vls w (fun _ => True) A n c (l.map nV) := by
  rw [cells3_flat] at h
  exact Rw.flat_own h (by omega) (by rw [List.length_map]; exact hn) (fun _ => rfl) (fun v hv => by obtain ⟨x, hx, rfl⟩ := List.mem_map.1 hv; exact nV_ok (hr x hx)) (fun _ _ _ => trivial)

set_option maxRecDepth 100000 in
set_option maxHeartbeats 12800000 in
theorem targetSides_walk (W : World) (n : Int) (hn0 : (Lit.int .i64 n).wf = true) (m : Int) (hm0 : (Lit.int .i64 m).wf = true) (A2 : Option Addr) (n2 c2 : Nat) (h2 : ∃ l, Sl W W.heap.size A2 n2 c2 (nv l) ∧ ∀ x ∈ l, InI x) :
    Calls Try.prog 6 #[.int .i64 n, .int .i64 m, .slice A2 n2 c2] W fun e w' => e = .returned (.bool true) ∧ Below W.heap.size W w' := by
  obtain ⟨l, h2, hl⟩ := h2
  have hn : InI n := wf_bounds hn0
  have hm : InI m := wf_bounds hm0
  have HN := Lib.hid hn
  have HM := Lib.hid hm
  have HLI := Lib.hid hl
  have hle := h2.le
  have hcap := h2.cap
  unfold maxLen at hcap
  have HL := Lib.hid h2.nlen
  have B0 : Hid (Below W.heap.size W ((W.alloc (.cells #[.int .i64 m] 3)).alloc (.cells #[.int .i64 3, .string ⟨#[120]⟩, .bool false] 23))) := tgalloc2 _ _ _
  have O4 : Hid (Ob ((W.alloc (.cells #[.int .i64 m] 3)).alloc (.cells #[.int .i64 3, .string ⟨#[120]⟩, .bool false] 23)) W.heap.size 3 #[.int .i64 m]) := (Ob.made W 3 #[.int .i64 m]).keep (Below.heap_alloc _ _ _ (by rw [size_al]; omega))
  have O7 : Hid (Ob ((W.alloc (.cells #[.int .i64 m] 3)).alloc (.cells #[.int .i64 3, .string ⟨#[120]⟩, .bool false] 23)) (W.heap.size + 1) 23 #[.int .i64 3, .string ⟨#[120]⟩, .bool false]) := by
    have := Ob.made (W.alloc (.cells #[.int .i64 m] 3)) 23 #[.int .i64 3, .string ⟨#[120]⟩, .bool false]
    rwa [size_al] at this
  have S0 := Lib.hid (h2.keep (w' := ((W.alloc (.cells #[.int .i64 m] 3)).alloc (.cells #[.int .i64 3, .string ⟨#[120]⟩, .bool false] 23))) B0.out.block)
  clear h2 hl hn hm hn0 hm0
  go_enter Try.func6, Try.ntmps6
  go_upto_region 3 with fail
  obtain ⟨w0, hw0⟩ : ∃ w0, ((W.alloc (.cells #[.int .i64 m] 3)).alloc (.cells #[.int .i64 3, .string ⟨#[120]⟩, .bool false] 23)) = w0 := ⟨_, rfl⟩
  rw [hw0] at B0 O4 O7 S0
  rw [hw0]
  clear hw0
  have ASK : Hid (∀ (V : World) (hV : Below w0.heap.size w0 V) (A : Option Addr) (k c : Nat) (L : List Vl) (r : Int) (op : Int), most (heldI (mO op m)) L = r → Gvs V (fun _ => True) A k c [xG L] → ShortG [xG L] → Calls Try.prog 20 #[.int .i64 op, .slice A k c, .pointer (some ⟨W.heap.size + 1, 0, none⟩), .pointer (some ⟨W.heap.size, 0, none⟩)] V fun e w' => e = .returned (.int .i64 r) ∧ Below V.heap.size V w') := fun V hV A k c L r op hr h hs => tgask_any HM.out (O7.out.below hV O7.out.lt) (O4.out.below hV O4.out.lt) op hr h hs
  have LITN : Hid (∀ V : World, Vls (V.alloc (.cells #[.int .i64 2, .int .i64 n, .string ⟨#[]⟩] 25)) (fun _ => True) (some ⟨V.heap.size, 0, none⟩) 1 1 [nV n]) := fun V => vls_lit V [nV n] (by simp) (fun x hx => by simp at hx; subst hx; exact nV_ok HN.out)
  have SH1 : Hid (ShortG [xG [nV n]]) := bag_xG (l := [n]) (by simp)
  go_upto_region 4 with (first
    | (go_at_call 11; (with_reducible refine (tgnum_any n _).mono ?_); rintro e w1 ⟨rfl, hb⟩; have B1 := Lib.hid hb; have LN := LITN.out w1; clear hb)
    | (go_at_call 13; (refine (tgx_any LN).mono ?_); rintro e w2 ⟨A9, rfl, hb, hg9⟩; have B2 := Lib.hid (below_step B1.out (Below.lit hb)); have G9 := Lib.hid hg9; clear hb hg9 LN))
  obtain ⟨r1, hr1⟩ : ∃ r, heldI (mO 1 m) (nV n) = r := ⟨_, rfl⟩
  obtain ⟨r2, hr2⟩ : ∃ r, heldI (mO 2 m) (nV n) = r := ⟨_, rfl⟩
  obtain ⟨r3, hr3⟩ : ∃ r, heldI (mO 3 m) (nV n) = r := ⟨_, rfl⟩
  have hsum : r1 + r2 + r3 = 2 := by rw [← hr1, ← hr2, ← hr3]; exact held_sides m n
  have ht1 := tri_held (mO 1 m) (nV n)
  have ht2 := tri_held (mO 2 m) (nV n)
  rw [hr1] at ht1
  rw [hr2] at ht2
  unfold Tri at ht1 ht2
  have hw1 : IntKind.i64.wrap (r1 + r2) = r1 + r2 := by rw [IntKind.wrap_i64]; omega
  have hw2 : IntKind.i64.wrap (r1 + r2 + r3) = 2 := by rw [hsum]; rfl
  have hiff : (r2 == 2) = decide (n < m) := by rw [← hr2]; exact held_2_iff m n
  have AQ : ∀ (op r : Int), heldI (mO op m) (nV n) = r → Hid (∀ d os, Calls Try.prog 20 #[.int .i64 op, .slice A9 1 1, .pointer (some ⟨W.heap.size + 1, 0, none⟩), .pointer (some ⟨W.heap.size, 0, none⟩)] (grow (redrawn w2 d) os) fun e w' => e = .returned (.int .i64 r) ∧ ∃ p : Regrown, w' = grow (redrawn w2 p.d) p.os) := fun op r hr d os =>
    Calls.regrown_of (w := w2) (d := d) (os := os) (ASK.out _ (below_step B2.out (below_regrown w2 d os)) A9 1 1 [nV n] r op ((most_single (tri_held _) _).trans hr) (G9.out.up' (below_regrown w2 d os)) SH1.out)
  have Q1 := AQ 1 r1 hr1
  have Q2 := AQ 2 r2 hr2
  have Q3 := AQ 3 r3 hr3
  have q4 := fun d os => cell_regrown ((O4.out.below B2.out O4.out.lt).cell 0) d os
  clear AQ hr1 hr2 hr3 LITN SH1
  refine wp_region_quiet_below (by kernel_rfl) (by kernel_rfl) ?_
  repeat (go_big_quiet_step (first | (go_at_call 20; first | with_reducible exact Q1.out _ _ | with_reducible exact Q2.out _ _ | with_reducible exact Q3.out _ _)))
  refine wpQuiet_nil ?_
  intro _ hw'
  obtain ⟨⟨dq, osq⟩, hw''⟩ := hw'
  subst hw''
  have B3 := Lib.hid (below_step B2.out (below_regrown w2 dq osq))
  generalize hw3 : grow (redrawn w2 ({ d := dq, os := osq } : Regrown).d) ({ d := dq, os := osq } : Regrown).os = w3 at *
  clear hw3 Q1 Q2 Q3 q4 G9 B1 B2 hw1 hw2 hiff ht1 ht2 hsum
  have OWN0 : Hid (w3.ownsRow w3.heap.size 25 3 (.slice none 0 0) 0 (cells3 ((l.take 0).map nV))) := World.ownsRow_nil w3 w3.heap.size 25 3
  go_upto_region 8 with fail
  go_loopw [10, 11] (fun o i wr => ∃ (k : Nat) (A' : Option Addr) (c' : Nat), k ≤ n2 ∧ k ≤ 16 ∧ i = .int .i64 k ∧ o = .slice A' k c' ∧ wr.ownsRow w3.heap.size 25 3 (.slice A' k c') k (cells3 ((l.take k).map nV)) ∧ Below w3.heap.size w3 wr) (fun _ i _ => 16 - (intOf i).toNat)
  case atStart => exact ⟨0, none, 0, Nat.zero_le _, by omega, rfl, rfl, OWN0.out, Below.refl _ _⟩
  case round =>
    clear OWN0
    obtain ⟨k, A', c', hk, hk16, rfl, rfl, ho, hb⟩ := hrel
    have HO := Lib.hid ho
    have HB := Lib.hid hb
    have HB0 := Lib.hid (below_step B3.out hb)
    clear ho hb
    by_cases hlt : k < n2
    case neg =>
      obtain rfl : k = n2 := by omega
      have gk : ¬ (k : Int) < (k : Int) := by omega
      clear hlt
      have VB : Hid (Vls wr (fun _ => True) A' k c' ((l.take k).map nV)) := bag_vls HO.out (by rw [List.length_take]; have := HL.out; omega) (by omega) (fun x hx => HLI.out x (List.mem_of_mem_take hx))
      have LEN : Hid ((l.take k).length = k) := by show _ = _; rw [List.length_take]; have := HL.out; omega
      have SHB : Hid (ShortG [xG ((l.take k).map nV)]) := bag_xG (by rw [List.length_take]; omega)
      have SHV : Hid (∀ v ∈ (l.take k).map nV, ShortG [xG [v]]) := fun v hv => by obtain ⟨x, _, rfl⟩ := List.mem_map.1 hv; exact bag_xG (l := [x]) (by simp)
      have hcapv := Rw.cap VB.out
      have hlev := Rw.le VB.out
      unfold maxLen at hcapv
      generalize hLL : (l.take k).map nV = L at *
      have LLEN : Hid (L.length = k) := by show _ = _; rw [← hLL, List.length_map]; exact LEN.out
      clear hLL LEN HO
      have OP : Hid (Ob (wr.alloc (.cells #[.int .i64 1, .int .i64 2, .int .i64 3] 3)) wr.heap.size 3 #[.int .i64 1, .int .i64 2, .int .i64 3]) := Ob.made _ _ _
      have B5 : Hid (Below w0.heap.size w0 (wr.alloc (.cells #[.int .i64 1, .int .i64 2, .int .i64 3] 3))) := HB0.out.alloc HB0.out.size _
      have VB5 := Lib.hid (Vls.up' VB.out ((Below.refl wr.heap.size wr).alloc (Nat.le_refl _) (.cells #[.int .i64 1, .int .i64 2, .int .i64 3] 3)))
      go_upto_region 12 with fail
      obtain ⟨w5, hw5⟩ : ∃ w5, wr.alloc (.cells #[.int .i64 1, .int .i64 2, .int .i64 3] 3) = w5 := ⟨_, rfl⟩
      rw [hw5] at OP B5 VB5
      rw [hw5]
      obtain ⟨g5, hg5⟩ : ∃ g, wr.heap.size = g := ⟨_, rfl⟩
      rw [hg5] at OP
      rw [hg5]
      clear hw5 hg5
      go_loopw [65] (fun i wq => ∃ q : Nat, q ≤ 3 ∧ i = .int .i64 q ∧ Below w5.heap.size w5 wq) (fun i _ => 3 - (intOf i).toNat)
      case atStart => exact ⟨0, by omega, rfl, Below.refl _ _⟩
      case round =>
        obtain ⟨q, hq, rfl, hb⟩ := hrel
        have HBQ := Lib.hid hb
        have HB1 := Lib.hid (below_step B5.out hb)
        have OQ := OP.out.below hb OP.out.lt
        clear hb
        by_cases hq3 : q < 3
        case neg =>
          obtain rfl : q = 3 := by omega
          go_wp2_with (go_at_call 3; refine (tgruns_any _).mono ?_; rintro e u9 ⟨rfl, hb⟩; have G9 := Lib.hid (below_step HB1.out hb); clear hb)
          go_ret
          exact ⟨rfl, below_step B0.out G9.out⟩
        obtain ⟨op, hop⟩ : ∃ op : Int, (q : Int) + 1 = op := ⟨_, rfl⟩
        have cop : wr.cell? ⟨g5, q, none⟩ = some (.int .i64 op) := by
          rcases (by omega : q = 0 ∨ q = 1 ∨ q = 2) with rfl | rfl | rfl <;> subst hop
          · exact OQ.cell 0
          · exact OQ.cell 1
          · exact OQ.cell 2
        have HTF := Lib.hid (tri_held (mO op m))
        have ASKO := Lib.hid (fun (V : World) (hV : Below w0.heap.size w0 V) (A : Option Addr) (k c : Nat) (L : List Vl) (r : Int) => ASK.out V hV A k c L r op)
        generalize heldI (mO op m) = f at *
        have gq0 : (0 : Int) ≤ (q : Int) := by omega
        have gq3 : (q : Int) < 3 := by omega
        clear OQ hop
        obtain ⟨w7, hw7⟩ : ∃ w7, w7 = wr := ⟨wr, rfl⟩
        subst hw7
        go_wp2_with fail
        go_loopw [14, 71] (fun x i wi => ∃ j : Nat, j ≤ k ∧ i = .int .i64 j ∧ x = .int .i64 (most f (L.take j)) ∧ Below w7.heap.size w7 wi) (fun _ i _ => k - (intOf i).toNat)
        case atStart => exact ⟨0, Nat.zero_le _, rfl, rfl, Below.refl _ _⟩
        case round =>
          clear cop
          obtain ⟨j, hj, rfl, rfl, hb⟩ := hrel
          have HBJ := Lib.hid hb
          have HBJ5 := Lib.hid (below_step HBQ.out hb)
          have HBJ0 := Lib.hid (below_step HB1.out hb)
          clear hb
          by_cases hjl : j < k
          case neg =>
            obtain rfl : j = k := by omega
            have HALL : Hid (L.take j = L) := List.take_of_length_le (by have := LLEN.out; omega)
            rw [HALL.out]
            obtain ⟨best, hbest⟩ : ∃ best, most f L = best := ⟨_, rfl⟩
            rw [hbest]
            have HBEST := Lib.hid hbest
            clear hbest
            go_wp2_with (first
              | (go_at_call 13; (refine (tgx_any (Vls.up' VB5.out HBJ5.out)).mono ?_); rintro e w9 ⟨A9, rfl, hb, hg9⟩; have B9 := Lib.hid (below_step HBJ5.out hb); have B90 := Lib.hid (below_step HBJ0.out hb); have G9 := Lib.hid hg9; clear hb hg9)
              | (go_at_call 20; (refine (ASKO.out _ B90.out A9 1 1 L best HBEST.out G9.out SHB.out).mono ?_); rintro e w10 ⟨rfl, hb⟩; have B10 := Lib.hid (below_step B9.out hb); clear hb))
            go_roundw
            case rel => exact ⟨q + 1, by omega, by go_num, B10.out⟩
            case measure => simp [intOf]; omega
          obtain ⟨b8, o8, v, rfl, _, _, hv, hvok, y0, y1, y2⟩ := (Vls.up' VB5.out HBJ5.out).at_ hjl
          have HS := Lib.hid (most_step hv (HTF.out v).1)
          have HONE := Lib.hid (most_single HTF.out v)
          have HSV := Lib.hid (SHV.out v (List.mem_of_getElem? hv))
          have LITV : Hid (∀ V : World, Vls (V.alloc (.cells #[.int .i64 v.k, .int .i64 v.n, .string v.s] 25)) (fun _ => True) (some ⟨V.heap.size, 0, none⟩) 1 1 [v]) := fun V => vls_lit V [v] (by simp) (fun x hx => by simp at hx; subst hx; exact hvok)
          obtain ⟨vk, vn, vs⟩ := v
          simp only at y0 y1 y2
          have LITV : Hid (∀ V : World, Vls (V.alloc (.cells #[.int .i64 vk, .int .i64 vn, .string vs] 25)) (fun _ => True) (some ⟨V.heap.size, 0, none⟩) 1 1 [⟨vk, vn, vs⟩]) := LITV.out
          have LV2 := LITV.out (wr.alloc (.cells #[.int .i64 vk, .int .i64 vn, .string vs] 25))
          rw [size_al] at LV2
          have LV2 := Lib.hid LV2
          clear hv hvok
          generalize f ⟨vk, vn, vs⟩ = yv at *
          generalize hz : most f (L.take (j + 1)) = z at *
          generalize most f (L.take j) = xa at *
          have HZ := Lib.hid hz
          clear hz
          go_wp2_with (first
            | (go_at_call 13; (refine (tgx_any LV2.out).mono ?_); rintro e w9 ⟨A9, rfl, hb, hg9⟩; have B9 := Lib.hid (below_step HBJ.out (Below.lit (Below.lit hb))); have B90 := Lib.hid (below_step HBJ0.out (Below.lit (Below.lit hb))); have G9 := Lib.hid hg9; clear hb hg9)
            | (go_at_call 20; (refine (ASKO.out _ B90.out A9 1 1 [⟨vk, vn, vs⟩] yv HONE.out G9.out HSV.out).mono ?_); rintro e w10 ⟨rfl, hb⟩; have B10 := Lib.hid (below_step B9.out hb); clear hb))
          go_roundw
          case rel => exact ⟨j + 1, by omega, by go_num, by rw [HZ.out, HS.out], B10.out⟩
          case measure => simp [intOf]; omega
    by_cases hlt16 : k < 16
    case neg =>
      obtain rfl : k = 16 := by omega
      have gk : (16 : Int) < (n2 : Int) := by omega
      have gkn : 16 < n2 := by omega
      have gkd : decide (16 < n2) = true := decide_eq_true gkn
      clear hlt
      have VB : Hid (Vls wr (fun _ => True) A' 16 c' ((l.take 16).map nV)) := bag_vls HO.out (by rw [List.length_take]; have := HL.out; omega) (by omega) (fun x hx => HLI.out x (List.mem_of_mem_take hx))
      have LEN : Hid ((l.take 16).length = 16) := by show _ = _; rw [List.length_take]; have := HL.out; omega
      have SHB : Hid (ShortG [xG ((l.take 16).map nV)]) := bag_xG (by rw [List.length_take]; omega)
      have SHV : Hid (∀ v ∈ (l.take 16).map nV, ShortG [xG [v]]) := fun v hv => by obtain ⟨x, _, rfl⟩ := List.mem_map.1 hv; exact bag_xG (l := [x]) (by simp)
      have hcapv := Rw.cap VB.out
      have hlev := Rw.le VB.out
      unfold maxLen at hcapv
      generalize hLL : (l.take 16).map nV = L at *
      have LLEN : Hid (L.length = 16) := by show _ = _; rw [← hLL, List.length_map]; exact LEN.out
      clear hLL LEN HO
      have OP : Hid (Ob (wr.alloc (.cells #[.int .i64 1, .int .i64 2, .int .i64 3] 3)) wr.heap.size 3 #[.int .i64 1, .int .i64 2, .int .i64 3]) := Ob.made _ _ _
      have B5 : Hid (Below w0.heap.size w0 (wr.alloc (.cells #[.int .i64 1, .int .i64 2, .int .i64 3] 3))) := HB0.out.alloc HB0.out.size _
      have VB5 := Lib.hid (Vls.up' VB.out ((Below.refl wr.heap.size wr).alloc (Nat.le_refl _) (.cells #[.int .i64 1, .int .i64 2, .int .i64 3] 3)))
      go_upto_region 12 with fail
      obtain ⟨w5, hw5⟩ : ∃ w5, wr.alloc (.cells #[.int .i64 1, .int .i64 2, .int .i64 3] 3) = w5 := ⟨_, rfl⟩
      rw [hw5] at OP B5 VB5
      rw [hw5]
      obtain ⟨g5, hg5⟩ : ∃ g, wr.heap.size = g := ⟨_, rfl⟩
      rw [hg5] at OP
      rw [hg5]
      clear hw5 hg5
      go_loopw [65] (fun i wq => ∃ q : Nat, q ≤ 3 ∧ i = .int .i64 q ∧ Below w5.heap.size w5 wq) (fun i _ => 3 - (intOf i).toNat)
      case atStart => exact ⟨0, by omega, rfl, Below.refl _ _⟩
      case round =>
        obtain ⟨q, hq, rfl, hb⟩ := hrel
        have HBQ := Lib.hid hb
        have HB1 := Lib.hid (below_step B5.out hb)
        have OQ := OP.out.below hb OP.out.lt
        clear hb
        by_cases hq3 : q < 3
        case neg =>
          obtain rfl : q = 3 := by omega
          go_wp2_with (go_at_call 3; refine (tgruns_any _).mono ?_; rintro e u9 ⟨rfl, hb⟩; have G9 := Lib.hid (below_step HB1.out hb); clear hb)
          go_ret
          exact ⟨rfl, below_step B0.out G9.out⟩
        obtain ⟨op, hop⟩ : ∃ op : Int, (q : Int) + 1 = op := ⟨_, rfl⟩
        have cop : wr.cell? ⟨g5, q, none⟩ = some (.int .i64 op) := by
          rcases (by omega : q = 0 ∨ q = 1 ∨ q = 2) with rfl | rfl | rfl <;> subst hop
          · exact OQ.cell 0
          · exact OQ.cell 1
          · exact OQ.cell 2
        have HTF := Lib.hid (tri_held (mO op m))
        have ASKO := Lib.hid (fun (V : World) (hV : Below w0.heap.size w0 V) (A : Option Addr) (k c : Nat) (L : List Vl) (r : Int) => ASK.out V hV A k c L r op)
        generalize heldI (mO op m) = f at *
        have gq0 : (0 : Int) ≤ (q : Int) := by omega
        have gq3 : (q : Int) < 3 := by omega
        clear OQ hop
        obtain ⟨w7, hw7⟩ : ∃ w7, w7 = wr := ⟨wr, rfl⟩
        subst hw7
        go_wp2_with fail
        go_loopw [14, 71] (fun x i wi => ∃ j : Nat, j ≤ 16 ∧ i = .int .i64 j ∧ x = .int .i64 (most f (L.take j)) ∧ Below w7.heap.size w7 wi) (fun _ i _ => 16 - (intOf i).toNat)
        case atStart => exact ⟨0, Nat.zero_le _, rfl, rfl, Below.refl _ _⟩
        case round =>
          clear cop
          obtain ⟨j, hj, rfl, rfl, hb⟩ := hrel
          have HBJ := Lib.hid hb
          have HBJ5 := Lib.hid (below_step HBQ.out hb)
          have HBJ0 := Lib.hid (below_step HB1.out hb)
          clear hb
          by_cases hjl : j < 16
          case neg =>
            obtain rfl : j = 16 := by omega
            have HALL : Hid (L.take 16 = L) := List.take_of_length_le (by have := LLEN.out; omega)
            rw [HALL.out]
            obtain ⟨best, hbest⟩ : ∃ best, most f L = best := ⟨_, rfl⟩
            rw [hbest]
            have HBEST := Lib.hid hbest
            clear hbest
            go_wp2_with (first
              | (go_at_call 13; (refine (tgx_any (Vls.up' VB5.out HBJ5.out)).mono ?_); rintro e w9 ⟨A9, rfl, hb, hg9⟩; have B9 := Lib.hid (below_step HBJ5.out hb); have B90 := Lib.hid (below_step HBJ0.out hb); have G9 := Lib.hid hg9; clear hb hg9)
              | (go_at_call 20; (refine (ASKO.out _ B90.out A9 1 1 L best HBEST.out G9.out SHB.out).mono ?_); rintro e w10 ⟨rfl, hb⟩; have B10 := Lib.hid (below_step B9.out hb); clear hb))
            go_roundw
            case rel => (repeat apply Exists.intro); exact ⟨⟨q + 1, by omega, by go_num, B10.out⟩, rfl⟩
            case measure => simp [intOf]; omega
          obtain ⟨b8, o8, v, rfl, _, _, hv, hvok, y0, y1, y2⟩ := (Vls.up' VB5.out HBJ5.out).at_ hjl
          have HS := Lib.hid (most_step hv (HTF.out v).1)
          have HONE := Lib.hid (most_single HTF.out v)
          have HSV := Lib.hid (SHV.out v (List.mem_of_getElem? hv))
          have LITV : Hid (∀ V : World, Vls (V.alloc (.cells #[.int .i64 v.k, .int .i64 v.n, .string v.s] 25)) (fun _ => True) (some ⟨V.heap.size, 0, none⟩) 1 1 [v]) := fun V => vls_lit V [v] (by simp) (fun x hx => by simp at hx; subst hx; exact hvok)
          obtain ⟨vk, vn, vs⟩ := v
          simp only at y0 y1 y2
          have LITV : Hid (∀ V : World, Vls (V.alloc (.cells #[.int .i64 vk, .int .i64 vn, .string vs] 25)) (fun _ => True) (some ⟨V.heap.size, 0, none⟩) 1 1 [⟨vk, vn, vs⟩]) := LITV.out
          have LV2 := LITV.out (wr.alloc (.cells #[.int .i64 vk, .int .i64 vn, .string vs] 25))
          rw [size_al] at LV2
          have LV2 := Lib.hid LV2
          clear hv hvok
          generalize f ⟨vk, vn, vs⟩ = yv at *
          generalize hz : most f (L.take (j + 1)) = z at *
          generalize most f (L.take j) = xa at *
          have HZ := Lib.hid hz
          clear hz
          go_wp2_with (first
            | (go_at_call 13; (refine (tgx_any LV2.out).mono ?_); rintro e w9 ⟨A9, rfl, hb, hg9⟩; have B9 := Lib.hid (below_step HBJ.out (Below.lit (Below.lit hb))); have B90 := Lib.hid (below_step HBJ0.out (Below.lit (Below.lit hb))); have G9 := Lib.hid hg9; clear hb hg9)
            | (go_at_call 20; (refine (ASKO.out _ B90.out A9 1 1 [⟨vk, vn, vs⟩] yv HONE.out G9.out HSV.out).mono ?_); rintro e w10 ⟨rfl, hb⟩; have B10 := Lib.hid (below_step B9.out hb); clear hb))
          go_roundw
          case rel => (repeat apply Exists.intro); exact ⟨⟨j + 1, by omega, by go_num, by rw [HZ.out, HS.out], B10.out⟩, rfl⟩
          case measure => simp [intOf]; omega
    have gk : (k : Int) < (n2 : Int) := by omega
    have gk16 : (k : Int) < 16 := by omega
    obtain ⟨b, o, x, rfl, _, hx, hc⟩ := (S0.out.keep (fun k hk => HB0.out.block k (Nat.lt_of_lt_of_le hk B0.out.size))).num hlt
    have HX := Lib.hid hx
    have HXI := Lib.hid (HLI.out x (List.mem_of_getElem? hx))
    clear hx
    have gk0 : (0 : Int) ≤ (k : Int) := by omega
    go_wp2_with (first
      | (go_at_call 11; (with_reducible refine (tgnum_any x _).mono ?_); rintro e w4 ⟨rfl, hb⟩
         have B4 := Lib.hid (below_step HB.out hb)
         obtain ⟨A6, c6, w6, r6, o6, b6⟩ := push_val (v := nV x) (own_then HO.out hb) (Nat.le_trans HB.out.size hb.size) (nV_ok HXI.out) (by omega)
         have R6 : Hid ((Builtin.append_ #[45, 45] 45 #[.slice A' k c', .slice (some ⟨w4.heap.size, 0, none⟩) 1 1]).run Try.prog (w4.alloc (.cells #[.int .i64 2, .int .i64 x, .string ⟨#[]⟩] 25)) = .ok (.slice A6 (k + 1) c6) w6) := r6
         have O6 : Hid (w6.ownsRow w3.heap.size 25 3 (.slice A6 (k + 1) c6) (k + 1) (cells3 ((l.take (k + 1)).map nV))) := by
           show World.ownsRow _ _ _ _ _ _ _
           rw [take_one HX.out, List.map_append]
           exact o6
         have B6 := Lib.hid (B4.out.trans b6)
         clear r6 o6 b6 hb)
      | (at_builtin; refine wpList_append_run (o := ⟨some 62, _, _, _, _, _⟩) rfl _ _ _ _ rfl rfl rfl R6.out ?_))
    go_roundw
    case rel => exact ⟨k + 1, A6, c6, by omega, by omega, by go_num, rfl, O6.out, B6.out⟩
    case measure => simp [intOf]; omega
end Go.Proofs.Ytjpkemamfccfdaa
