/- Several texts in one: Parse3, Parse4, Gr, Parse5. -/
import Derived.Test.YtdbnaaddocahpaaGreatDoorTenE
import Derived.Laws.ResultCell
import Derived.Test.YtdbnaaddocahpaaGreatDoorTenD
import Derived.Test.YtdbnaaddocahpaaGreatDoorTenA
/- The parser: take, must, end, name. -/
namespace Go.Proofs.YtdbnaaddocahpaaGreatDoor
set_option linter.unusedVariables false
open Go.RowKit

section
variable {L g : Nat} {w : World} {s : Pz}
theorem takeR_no {ws : List ByteArray} (h : seesR ws s = 0) : takeR ws s = (0, s) := by unfold takeR; rw [if_pos h]
theorem takeR_yes {ws : List ByteArray} (h : seesR ws s ≠ 0) : takeR ws s = (seesR ws s, nextR s) := by unfold takeR; rw [if_neg h]
theorem mustR_no {ws : List ByteArray} (h : seesR ws s = 0) : mustR ws s = (0, wrongR s) := by unfold mustR; rw [if_pos h]
theorem mustR_yes {ws : List ByteArray} (h : seesR ws s ≠ 0) : mustR ws s = (seesR ws s, nextR s) := by unfold mustR; rw [if_neg h]
/-- What a reader is behind 'r.rest = r.rest[1:]'. -/
theorem Rd.goes (h : Rd L w g s) (hk : s.hd.k ≠ 7) : ∃ b o n c, Ob w g 88 #[.slice (some ⟨b, o, none⟩) n c, .int .i64 (s.met : Int), .int .i64 s.err, .int .i64 s.at_] ∧ (2 ≤ n ∧ n ≤ c ∧ c ≤ maxLen) ∧ b < g ∧
    (w.cell? ⟨b, o, none⟩ = some (.int .i64 s.hd.k) ∧ w.cell? ⟨b, o + 1, none⟩ = some (.int .i64 s.hd.p) ∧ w.cell? ⟨b, o + 2, none⟩ = some (.int .i64 s.hd.n) ∧ w.cell? ⟨b, o + 3, none⟩ = some (.string s.hd.s)) ∧
    ∀ w1, Below w.heap.size w w1 → Rd L (w1.setCell ⟨g, 0, none⟩ (.slice (some ⟨b, o + 4, none⟩) (n - 1) (c - 1))) g (nextR s) ∧ Only g w (w1.setCell ⟨g, 0, none⟩ (.slice (some ⟨b, o + 4, none⟩) (n - 1) (c - 1))) := by
  have hm := h.ok.more hk
  have hlt := h.lt
  obtain ⟨b, o, n, c, hob, hok, ⟨hn, h1, h2, h3⟩, hbg, hc, hmk⟩ := h.at_
  refine ⟨b, o, n, c, hob, ⟨by omega, h2, h3⟩, hbg, hc, fun w1 hb => ?_⟩
  have ho : Only g w (w1.setCell ⟨g, 0, none⟩ (.slice (some ⟨b, o + 4, none⟩) (n - 1) (c - 1))) := (Only.of_below hb).at_g 0 _
  refine ⟨hmk 1 (s.met : Int) s.err s.at_ (nextR s) (by omega) rfl rfl rfl rfl (hok.next hk) _ (fun j hj => ho.heap (Nat.lt_trans hj hlt) (by omega)) ?_, ho⟩
  have := (hob.below hb hlt).put 0 (.slice (some ⟨b, o + 4, none⟩) (n - 1) (c - 1))
  simpa using this

set_option maxHeartbeats 1600000 in
theorem ptake_any (h : Rd L w g s) {B n c : Nat} {A : Option Addr} {ws : List ByteArray} (hs : Sl w B A n c (ws.map Value.string)) (hB : B ≤ w.heap.size) :
    Calls Tryz.prog 114 #[.pointer (some ⟨g, 0, none⟩), .slice A n c] w fun x w' => x = .returned (.int .i64 ((takeR ws s).1 : Int)) ∧ Only g w w' ∧ Rd L w' g (takeR ws s).2 := by
  have HC := Lib.hid (psees_any h hs hB)
  have HH := Lib.hid h
  by_cases h0 : seesR ws s = 0
  · rw [takeR_no h0]
    rw [h0] at HC
    clear hs h h0
    go_enter Tryz.func114, Tryz.ntmps114
    go_wp2_with (first
      | (go_at_call 117; refine HC.out.mono ?_; rintro x w1 ⟨rfl, hb⟩; have HB := Lib.hid hb; clear hb))
    go_ret
    exact ⟨rfl, .of_below HB.out, HH.out.then_ HB.out⟩
  · rw [takeR_yes h0]
    obtain ⟨b, o, m, d, hob, ⟨h1, h2, h3⟩, hbg, _, hgo⟩ := h.goes (seesR_more h.ok h0)
    have HOB := Lib.hid hob
    have HGO := Lib.hid hgo
    have h4 : 0 < seesR ws s := by omega
    generalize seesR ws s = i at *
    have h5 : ¬ d = 1 := by omega
    have h6 : (1 : Int) ≤ (m : Int) := by omega
    unfold maxLen at h3
    have h7 : decide (0 < (i : Int)) = true := decide_eq_true (by omega)
    clear hs h h0 hob hgo
    go_enter Tryz.func114, Tryz.ntmps114
    go_wp2_with (first
      | (go_at_call 117; refine HC.out.mono ?_; rintro x w1 ⟨rfl, hb⟩; have HB := Lib.hid hb; have O1 := Lib.hid (HOB.out.below hb HOB.out.lt); have q0 := O1.out.cell 0; have f0 := O1.out.frozen 0; clear hb))
    go_ret
    exact ⟨rfl, (HGO.out _ HB.out).2, (HGO.out _ HB.out).1⟩
set_option maxHeartbeats 1600000 in
theorem pmust_any (h : Rd L w g s) {B n c : Nat} {A : Option Addr} {ws : List ByteArray} (hs : Sl w B A n c (ws.map Value.string)) (hB : B ≤ w.heap.size) :
    Calls Tryz.prog 78 #[.pointer (some ⟨g, 0, none⟩), .slice A n c] w fun x w' => x = .returned (.int .i64 ((mustR ws s).1 : Int)) ∧ Only g w w' ∧ Rd L w' g (mustR ws s).2 := by
  have HC := Lib.hid (ptake_any h hs hB)
  by_cases h0 : seesR ws s = 0
  · rw [mustR_no h0]
    rw [takeR_no h0] at HC
    clear hs h h0
    go_enter Tryz.func78, Tryz.ntmps78
    go_wp2_with (first
      | (go_at_call 114; refine HC.out.mono ?_; rintro x w1 ⟨rfl, ho, hr⟩; have HO := Lib.hid ho; have HR := Lib.hid (pwrong_any hr); clear ho hr)
      | (go_at_call 84; refine HR.out.mono ?_; rintro x w2 ⟨rfl, ho, hr⟩; have HO2 := Lib.hid (HO.out.trans ho); have HR2 := Lib.hid hr; clear ho hr))
    go_ret
    exact ⟨rfl, HO2.out, HR2.out⟩
  · rw [mustR_yes h0]
    rw [takeR_yes h0] at HC
    generalize seesR ws s = i at *
    have h7 : ((i : Int) == 0) = false := by rw [beq_eq_false_iff_ne]; omega
    clear hs h h0
    go_enter Tryz.func78, Tryz.ntmps78
    go_wp2_with (first
      | (go_at_call 114; refine HC.out.mono ?_; rintro x w1 ⟨rfl, ho, hr⟩; have HO := Lib.hid ho; have HR := Lib.hid hr; clear ho hr))
    go_ret
    exact ⟨rfl, HO.out, HR.out⟩
/-- .. of words laid just ahead. -/
theorem ptake_lit (h : Rd L w g s) (ws : List ByteArray) (cs : Array Value) (n : Nat) (hcs : (ws.map Value.string).toArray = cs) (hn : ws.length = n) (h63 : n ≤ 100) {b : Nat} (hb : w.heap.size = b) :
    Calls Tryz.prog 114 #[.pointer (some ⟨g, 0, none⟩), .slice (some ⟨b, 0, none⟩) n n] (w.alloc (.cells cs 9)) fun x w' => x = .returned (.int .i64 ((takeR ws s).1 : Int)) ∧ Only g w w' ∧ Rd L w' g (takeR ws s).2 := by
  subst hcs hb
  have := Sl.lit w 9 (ws.map Value.string) n (by rw [List.length_map]; exact hn) (by unfold maxLen; omega)
  exact (ptake_any (h.alloc _) this (by rw [size_al]; omega)).mono fun x w' ⟨h1, h2, h3⟩ => ⟨h1, (Only.refl.al _).trans h2, h3⟩
theorem pmust_lit (h : Rd L w g s) (ws : List ByteArray) (cs : Array Value) (n : Nat) (hcs : (ws.map Value.string).toArray = cs) (hn : ws.length = n) (h63 : n ≤ 100) {b : Nat} (hb : w.heap.size = b) :
    Calls Tryz.prog 78 #[.pointer (some ⟨g, 0, none⟩), .slice (some ⟨b, 0, none⟩) n n] (w.alloc (.cells cs 9)) fun x w' => x = .returned (.int .i64 ((mustR ws s).1 : Int)) ∧ Only g w w' ∧ Rd L w' g (mustR ws s).2 := by
  subst hcs hb
  have := Sl.lit w 9 (ws.map Value.string) n (by rw [List.length_map]; exact hn) (by unfold maxLen; omega)
  exact (pmust_any (h.alloc _) this (by rw [size_al]; omega)).mono fun x w' ⟨h1, h2, h3⟩ => ⟨h1, (Only.refl.al _).trans h2, h3⟩
theorem psees_lit (h : Rd L w g s) (ws : List ByteArray) (cs : Array Value) (n : Nat) (hcs : (ws.map Value.string).toArray = cs) (hn : ws.length = n) (h63 : n ≤ 100) {b : Nat} (hb : w.heap.size = b) :
    Calls Tryz.prog 117 #[.pointer (some ⟨g, 0, none⟩), .slice (some ⟨b, 0, none⟩) n n] (w.alloc (.cells cs 9)) fun x w' => x = .returned (.int .i64 (seesR ws s : Int)) ∧ Below w.heap.size w w' := by
  subst hcs hb
  have := Sl.lit w 9 (ws.map Value.string) n (by rw [List.length_map]; exact hn) (by unfold maxLen; omega)
  exact (psees_any (h.alloc _) this (by rw [size_al]; omega)).mono fun x w' ⟨h1, h2⟩ => ⟨h1, Below.lit h2⟩
set_option maxHeartbeats 1600000 in
theorem pend_any (h : Rd L w g s) : Calls Tryz.prog 42 #[.pointer (some ⟨g, 0, none⟩)] w fun x w' => x = .returned (.tuple #[]) ∧ Only g w w' ∧ Rd L w' g (endR s) := by
  have HC := Lib.hid (pwrong_any h)
  have HH := Lib.hid h
  obtain ⟨b, o, n, c, hob, hok, ⟨hn, h1, h2, h3⟩, hbg, ⟨c0, c1, c2, c3⟩, _⟩ := h.at_
  have q0 := hob.cell 0
  clear hob hok h
  by_cases h7 : s.hd.k = 7
  · have HE : Hid (endR s = s) := by show _ = _; unfold endR; rw [if_pos h7]
    rw [h7] at c0
    go_enter Tryz.func42, Tryz.ntmps42
    go_wp2_with fail
    go_end0
    exact ⟨rfl, Only.refl, by rw [HE.out]; exact HH.out⟩
  · have HE : Hid (endR s = wrongR s) := by show _ = _; unfold endR; rw [if_neg h7]
    have hk7 : (s.hd.k != 7) = true := by rw [bne_iff_ne]; exact h7
    go_enter Tryz.func42, Tryz.ntmps42
    go_wp2_with (first
      | (go_at_call 84; refine HC.out.mono ?_; rintro x w2 ⟨rfl, ho, hr⟩; have HO2 := Lib.hid ho; have HR2 := Lib.hid hr; clear ho hr))
    go_end0
    exact ⟨rfl, HO2.out, by rw [HE.out]; exact HR2.out⟩
set_option maxHeartbeats 1600000 in
theorem pname_any (h : Rd L w g s) : Calls Tryz.prog 79 #[.pointer (some ⟨g, 0, none⟩)] w fun x w' => x = .returned (.string (nameR s).1) ∧ Only g w w' ∧ Rd L w' g (nameR s).2 := by
  have hbw : Below w.heap.size w (w.alloc (.cells #[.int .i64 s.hd.k, .int .i64 s.hd.p, .int .i64 s.hd.n, .string s.hd.s] 124)) := (Below.refl _ _).alloc (Nat.le_refl _) _
  have HB := Lib.hid hbw
  have HC := Lib.hid (pwrong_any (h.then_ hbw))
  by_cases h1 : s.hd.k = 1
  · have HE : Hid (nameR s = (s.hd.s, nextR s)) := by show _ = _; unfold nameR; rw [if_pos h1]
    obtain ⟨b, o, m, d, hob, ⟨h1', h2, h3⟩, hbg, ⟨c0, c1, c2, c3⟩, hgo⟩ := h.goes (by omega)
    have q0 := hob.cell 0
    have HGO := Lib.hid (hgo _ hbw)
    have ho2 := hob.below hbw hob.lt
    have q0' := ho2.cell 0
    have f0 := ho2.frozen 0
    have xne : w.heap.size ≠ g := by have := hob.lt; omega
    have h5 : ¬ d = 1 := by omega
    have h6 : (1 : Int) ≤ (m : Int) := by omega
    have hx : ((w.alloc (.cells #[.int .i64 s.hd.k, .int .i64 s.hd.p, .int .i64 s.hd.n, .string s.hd.s] 124)).setCell ⟨g, 0, none⟩ (.slice (some ⟨b, o + 4, none⟩) (m - 1) (d - 1))).cell? ⟨w.heap.size, 3, none⟩ = some (.string s.hd.s) :=
      ((Ob.made w 124 #[.int .i64 s.hd.k, .int .i64 s.hd.p, .int .i64 s.hd.n, .string s.hd.s]).keep (Below.heap_setCell _ ⟨g, 0, none⟩ _ _ xne)).cell 3
    rw [HE.out]
    rw [h1] at *
    unfold maxLen at h3
    clear h hob hgo ho2 hbw
    go_enter Tryz.func79, Tryz.ntmps79
    go_wp2_with fail
    go_ret
    exact ⟨rfl, HGO.out.2, HGO.out.1⟩
  · have HE : Hid (nameR s = (⟨#[]⟩, wrongR s)) := by show _ = _; unfold nameR; rw [if_neg h1]
    obtain ⟨b, o, n, c, hob, hok, ⟨hn, h1', h2, h3⟩, hbg, ⟨c0, c1, c2, c3⟩, _⟩ := h.at_
    have q0 := hob.cell 0
    have hk1 : (s.hd.k != 1) = true := by rw [bne_iff_ne]; exact h1
    rw [HE.out]
    unfold maxLen at h3
    clear h hob hok hbw
    go_enter Tryz.func79, Tryz.ntmps79
    go_wp2_with (first
      | (go_at_call 84; refine HC.out.mono ?_; rintro x w2 ⟨rfl, ho, hr⟩; have HO2 := Lib.hid ((Only.refl.then_ HB.out).trans ho); have HR2 := Lib.hid hr; clear ho hr))
    go_ret
    exact ⟨rfl, HO2.out, HR2.out⟩
end
end Go.Proofs.YtdbnaaddocahpaaGreatDoor
/- The parser: categories, attributes, values, matches, leaves. -/
namespace Go.Proofs.YtdbnaaddocahpaaGreatDoor
set_option linter.unusedVariables false
open Go.RowKit

theorem eq2 (i : Nat) : ((i : Int) == 2) = decide (i = 2) := by rw [Bool.eq_iff_iff]; simp; omega
theorem gt0 (i : Nat) : decide ((0 : Int) < (i : Int)) = decide (0 < i) := by rw [Bool.eq_iff_iff]; simp
theorem attr_ret {fn : Func} {t : Tmp} {tmps : Array Value} {w : World} {g : Nat} {cs : Array Value} (h : fn.results = #[.cell t 31]) (hp : tmps.getD t undef = .pointer (some ⟨g, 0, none⟩)) (hg : Ob w g 31 cs) (h3 : cs.size = 3) :
    (results fn tmps).run Tryz.prog w = .ok (.agg cs) w := results_cell_row h tmps w g _ _ (0, 0) _ hp hg Tryz.underlying31 rfl (by rw [h3]; kernel_rfl)
theorem value_ret {fn : Func} {t : Tmp} {tmps : Array Value} {w : World} {g : Nat} {cs : Array Value} (h : fn.results = #[.cell t 51]) (hp : tmps.getD t undef = .pointer (some ⟨g, 0, none⟩)) (hg : Ob w g 51 cs) (h3 : cs.size = 3) :
    (results fn tmps).run Tryz.prog w = .ok (.agg cs) w := results_cell_row h tmps w g _ _ (0, 0) _ hp hg Tryz.underlying51 rfl (by rw [h3]; kernel_rfl)
theorem match_ret {fn : Func} {t : Tmp} {tmps : Array Value} {w : World} {g : Nat} {cs : Array Value} (h : fn.results = #[.cell t 60]) (hp : tmps.getD t undef = .pointer (some ⟨g, 0, none⟩)) (hg : Ob w g 60 cs) (h3 : cs.size = 7) :
    (results fn tmps).run Tryz.prog w = .ok (.agg cs) w := results_cell_row h tmps w g _ _ (0, 0) _ hp hg Tryz.underlying60 rfl (by rw [h3]; kernel_rfl)
theorem node_ret {fn : Func} {t : Tmp} {tmps : Array Value} {w : World} {g : Nat} {cs : Array Value} (h : fn.results = #[.cell t 53]) (hp : tmps.getD t undef = .pointer (some ⟨g, 0, none⟩)) (hg : Ob w g 53 cs) (h3 : cs.size = 7) :
    (results fn tmps).run Tryz.prog w = .ok (.agg cs) w := results_cell_row h tmps w g _ _ (0, 0) _ hp hg Tryz.underlying53 rfl (by rw [h3]; kernel_rfl)

section
variable {L g : Nat} {w : World} {s : Pz}
set_option maxHeartbeats 800000 in
theorem pcat_any (h : Rd L w g s) : Calls Tryz.prog 153 #[.pointer (some ⟨g, 0, none⟩)] w fun x w' => x = .returned (.int .i64 ((catR s).1 : Int)) ∧ Only g w w' ∧ Rd L w' g (catR s).2 := by
  have HR0 := Lib.hid h
  have HO0 := Lib.hid (Only.refl (r := g) (w := w))
  show Calls _ _ _ _ fun x w' => x = .returned (.int .i64 ((takeR [w_subject, w_action, w_case, w_env] s).1 : Int)) ∧ Only g w w' ∧ Rd L w' g (takeR [w_subject, w_action, w_case, w_env] s).2
  clear h
  go_enter Tryz.func153, Tryz.ntmps153
  go_wp2_with fail
  go_at_call 114
  refine (ptake_lit HR0.out [w_subject, w_action, w_case, w_env] #[.string ⟨#[115, 117, 98, 106, 101, 99, 116]⟩, .string ⟨#[97, 99, 116, 105, 111, 110]⟩, .string ⟨#[99, 97, 115, 101]⟩, .string ⟨#[101, 110, 118]⟩] 4 rfl rfl (by omega) (by first | rfl | (simp; done) | (simp [World.setCell]; done))).mono ?_
  rintro x u1 ⟨rfl, ho, hr⟩
  have HO1 := Lib.hid (HO0.out.trans ho)
  have HR1 := Lib.hid hr
  clear ho hr
  go_wp2_with fail
  go_ret
  exact ⟨rfl, HO1.out, HR1.out⟩
theorem attrR_eq {cat : Int} {s s0 s1 s2 s3 : Pz} {i j : Nat} {nm : ByteArray} (h0 : (if cat = 0 then wrongR s else s) = s0) (h1 : mustR [m_dot] s0 = (i, s1)) (h2 : nameR s1 = (nm, s2)) (h3 : takeR [m_bang] s2 = (j, s3)) : attrR cat s = (⟨cat, nm, decide (0 < j)⟩, s3) := by
  unfold attrR
  simp only [h0, h1, h2, h3]
set_option maxHeartbeats 1600000 in
theorem pattr_any (h : Rd L w g s) (cat : Int) : Calls Tryz.prog 152 #[.pointer (some ⟨g, 0, none⟩), .int .i64 cat] w fun x w' => x = .returned (attrR cat s).1.val ∧ Only g w w' ∧ Rd L w' g (attrR cat s).2 := by
  by_cases hc : cat = 0
  · have HE := Lib.hid (fun (s1 s2 s3 : Pz) (i j : Nat) (nm : ByteArray) => attrR_eq (cat := cat) (s := s) (s0 := wrongR s) (s1 := s1) (s2 := s2) (s3 := s3) (i := i) (j := j) (nm := nm) (by rw [if_pos hc]))
    obtain ⟨i, s1, e1⟩ : ∃ i t, mustR [m_dot] (wrongR s) = (i, t) := ⟨_, _, rfl⟩
    obtain ⟨nm, s2, e2⟩ : ∃ i t, nameR s1 = (i, t) := ⟨_, _, rfl⟩
    obtain ⟨j, s3, e3⟩ : ∃ i t, takeR [m_bang] s2 = (i, t) := ⟨_, _, rfl⟩
    have HEE := Lib.hid (HE.out _ _ _ _ _ _ e1 e2 e3)
    have E1 := Lib.hid e1
    have E2 := Lib.hid e2
    have E3 := Lib.hid e3
    subst hc
    rw [HEE.out]
    have HG : Hid (g < w.heap.size) := h.lt
    have HBr_1 : Hid (Ob (w.alloc (.cells #[.int .i64 0, .string ⟨#[]⟩, .bool false] 31)) (w.heap.size) 31 #[.int .i64 0, .string ⟨#[]⟩, .bool false]) := Lib.hid (by have := Ob.made w 31 #[.int .i64 0, .string ⟨#[]⟩, .bool false]; simpa using this)
    have HR0 := Lib.hid (h.alloc (.cells #[.int .i64 0, .string ⟨#[]⟩, .bool false] 31))
    have HO0 := Lib.hid ((Only.refl (r := g) (w := w)).al (.cells #[.int .i64 0, .string ⟨#[]⟩, .bool false] 31))
    clear h e1 e2 e3 HE
    go_enter Tryz.func152, Tryz.ntmps152
    go_wp2_with fail
    go_at_call 84
    refine (pwrong_any HR0.out).mono ?_
    rintro x u2 ⟨rfl, ho, hr⟩
    have HO2 := Lib.hid (HO0.out.trans ho)
    have HR2 := Lib.hid hr
    have HBr_2 := Lib.hid (HBr_1.out.keep (ho.heap HBr_1.out.lt (by have := HG.out; omega)))
    clear ho hr
    have HSa : Hid (g < u2.heap.size ∧ w.heap.size < u2.heap.size) := ⟨by have := HG.out; have := HBr_2.out.lt; omega, HBr_2.out.lt⟩
    have HO3 := Lib.hid (HO2.out.al (.cells #[.int .i64 0, .string ⟨#[]⟩, .bool false] 31))
    have HR3 := Lib.hid (HR2.out.alloc (.cells #[.int .i64 0, .string ⟨#[]⟩, .bool false] 31))
    have HBr_3 := Lib.hid (HBr_2.out.keep (Below.heap_alloc u2 (.cells #[.int .i64 0, .string ⟨#[]⟩, .bool false] 31) _ HBr_2.out.lt))
    have HBa_3 := Lib.hid (Ob.made (u2) 31 #[.int .i64 0, .string ⟨#[]⟩, .bool false])
    go_wp2_with fail
    go_at_call 78
    refine (pmust_lit HR3.out [m_dot] #[.string ⟨#[46]⟩] 1 rfl rfl (by omega) (by first | rfl | (simp; done) | (simp [World.setCell]; done))).mono ?_
    rintro x u4 ⟨rfl, ho, hr⟩
    rw [E1.out] at hr
    have HO4 := Lib.hid (HO3.out.trans ho)
    have HR4 := Lib.hid hr
    have HBr_4 := Lib.hid (HBr_3.out.keep (ho.heap HBr_3.out.lt (by have := HG.out; have := HSa.out; omega)))
    have HBa_4 := Lib.hid (HBa_3.out.keep (ho.heap HBa_3.out.lt (by have := HG.out; have := HSa.out; omega)))
    clear ho hr
    go_wp2_with fail
    go_at_call 79
    refine (pname_any HR4.out).mono ?_
    rintro x u5 ⟨rfl, ho, hr⟩
    rw [E2.out] at hr ⊢
    have HO5 := Lib.hid (HO4.out.trans ho)
    have HR5 := Lib.hid hr
    have HBr_5 := Lib.hid (HBr_4.out.keep (ho.heap HBr_4.out.lt (by have := HG.out; have := HSa.out; omega)))
    have HBa_5 := Lib.hid (HBa_4.out.keep (ho.heap HBa_4.out.lt (by have := HG.out; have := HSa.out; omega)))
    clear ho hr
    have c6 := HBa_5.out.cell 1
    have f6 := HBa_5.out.frozen 1
    have HO6 := Lib.hid (HO5.out.new (r := u2.heap.size) (by have := HG.out; have := HSa.out; omega) 1 (.string nm))
    have HR6 := Lib.hid (HR5.out.set (r := u2.heap.size) (by have := HG.out; have := HSa.out; omega) 1 (.string nm))
    have HBr_6 := Lib.hid (HBr_5.out.keep (Below.heap_setCell u5 ⟨u2.heap.size, 1, none⟩ (.string nm) _ (by show w.heap.size ≠ u2.heap.size; have := HG.out; have := HSa.out; omega)))
    have HBa_6 : Hid (Ob (u5.setCell ⟨u2.heap.size, 1, none⟩ (.string nm)) (u2.heap.size) 31 #[.int .i64 0, .string nm, .bool false]) := Lib.hid (by have := HBa_5.out.put 1 (.string nm); simpa using this)
    go_wp2_with fail
    go_at_call 114
    refine (ptake_lit HR6.out [m_bang] #[.string ⟨#[33]⟩] 1 rfl rfl (by omega) (by first | rfl | (simp; done) | (simp [World.setCell]; done))).mono ?_
    rintro x u7 ⟨rfl, ho, hr⟩
    rw [E3.out] at hr ⊢
    have HO7 := Lib.hid (HO6.out.trans ho)
    have HR7 := Lib.hid hr
    have HBr_7 := Lib.hid (HBr_6.out.keep (ho.heap HBr_6.out.lt (by have := HG.out; have := HSa.out; omega)))
    have HBa_7 := Lib.hid (HBa_6.out.keep (ho.heap HBa_6.out.lt (by have := HG.out; have := HSa.out; omega)))
    clear ho hr
    have c8 := HBa_7.out.cell 2
    have f8 := HBa_7.out.frozen 2
    have HO8 := Lib.hid (HO7.out.new (r := u2.heap.size) (by have := HG.out; have := HSa.out; omega) 2 (.bool (decide (0 < j))))
    have HR8 := Lib.hid (HR7.out.set (r := u2.heap.size) (by have := HG.out; have := HSa.out; omega) 2 (.bool (decide (0 < j))))
    have HBr_8 := Lib.hid (HBr_7.out.keep (Below.heap_setCell u7 ⟨u2.heap.size, 2, none⟩ (.bool (decide (0 < j))) _ (by show w.heap.size ≠ u2.heap.size; have := HG.out; have := HSa.out; omega)))
    have HBa_8 : Hid (Ob (u7.setCell ⟨u2.heap.size, 2, none⟩ (.bool (decide (0 < j)))) (u2.heap.size) 31 #[.int .i64 0, .string nm, .bool (decide (0 < j))]) := Lib.hid (by have := HBa_7.out.put 2 (.bool (decide (0 < j))); simpa using this)
    have c9_0 := HBa_8.out.cell 0
    have c9_1 := HBa_8.out.cell 1
    have c9_2 := HBa_8.out.cell 2
    have c10 := HBr_8.out.cell 0
    have f10 := HBr_8.out.frozen 0
    have HO10 := Lib.hid (HO8.out.new (r := w.heap.size) (by have := HG.out; have := HSa.out; omega) 0 (.int .i64 0))
    have HR10 := Lib.hid (HR8.out.set (r := w.heap.size) (by have := HG.out; have := HSa.out; omega) 0 (.int .i64 0))
    have HBr_10 : Hid (Ob ((u7.setCell ⟨u2.heap.size, 2, none⟩ (.bool (decide (0 < j)))).setCell ⟨w.heap.size, 0, none⟩ (.int .i64 0)) (w.heap.size) 31 #[.int .i64 0, .string ⟨#[]⟩, .bool false]) := Lib.hid (by have := HBr_8.out.put 0 (.int .i64 0); simpa using this)
    have HBa_10 := Lib.hid (HBa_8.out.keep (Below.heap_setCell (u7.setCell ⟨u2.heap.size, 2, none⟩ (.bool (decide (0 < j)))) ⟨w.heap.size, 0, none⟩ (.int .i64 0) _ (by show u2.heap.size ≠ w.heap.size; have := HG.out; have := HSa.out; omega)))
    have c11 := HBr_10.out.cell 1
    have f11 := HBr_10.out.frozen 1
    have HO11 := Lib.hid (HO10.out.new (r := w.heap.size) (by have := HG.out; have := HSa.out; omega) 1 (.string nm))
    have HR11 := Lib.hid (HR10.out.set (r := w.heap.size) (by have := HG.out; have := HSa.out; omega) 1 (.string nm))
    have HBr_11 : Hid (Ob (((u7.setCell ⟨u2.heap.size, 2, none⟩ (.bool (decide (0 < j)))).setCell ⟨w.heap.size, 0, none⟩ (.int .i64 0)).setCell ⟨w.heap.size, 1, none⟩ (.string nm)) (w.heap.size) 31 #[.int .i64 0, .string nm, .bool false]) := Lib.hid (by have := HBr_10.out.put 1 (.string nm); simpa using this)
    have HBa_11 := Lib.hid (HBa_10.out.keep (Below.heap_setCell ((u7.setCell ⟨u2.heap.size, 2, none⟩ (.bool (decide (0 < j)))).setCell ⟨w.heap.size, 0, none⟩ (.int .i64 0)) ⟨w.heap.size, 1, none⟩ (.string nm) _ (by show u2.heap.size ≠ w.heap.size; have := HG.out; have := HSa.out; omega)))
    have c12 := HBr_11.out.cell 2
    have f12 := HBr_11.out.frozen 2
    have HO12 := Lib.hid (HO11.out.new (r := w.heap.size) (by have := HG.out; have := HSa.out; omega) 2 (.bool (decide (0 < j))))
    have HR12 := Lib.hid (HR11.out.set (r := w.heap.size) (by have := HG.out; have := HSa.out; omega) 2 (.bool (decide (0 < j))))
    have HBr_12 : Hid (Ob ((((u7.setCell ⟨u2.heap.size, 2, none⟩ (.bool (decide (0 < j)))).setCell ⟨w.heap.size, 0, none⟩ (.int .i64 0)).setCell ⟨w.heap.size, 1, none⟩ (.string nm)).setCell ⟨w.heap.size, 2, none⟩ (.bool (decide (0 < j)))) (w.heap.size) 31 #[.int .i64 0, .string nm, .bool (decide (0 < j))]) := Lib.hid (by have := HBr_11.out.put 2 (.bool (decide (0 < j))); simpa using this)
    have HBa_12 := Lib.hid (HBa_11.out.keep (Below.heap_setCell (((u7.setCell ⟨u2.heap.size, 2, none⟩ (.bool (decide (0 < j)))).setCell ⟨w.heap.size, 0, none⟩ (.int .i64 0)).setCell ⟨w.heap.size, 1, none⟩ (.string nm)) ⟨w.heap.size, 2, none⟩ (.bool (decide (0 < j))) _ (by show u2.heap.size ≠ w.heap.size; have := HG.out; have := HSa.out; omega)))
    go_wp2_with fail
    refine bodyPost_ret (attr_ret rfl rfl HBr_12.out rfl) rfl ?_
    exact ⟨rfl, HO12.out, HR12.out⟩
  · have HE := Lib.hid (fun (s1 s2 s3 : Pz) (i j : Nat) (nm : ByteArray) => attrR_eq (cat := cat) (s := s) (s0 := s) (s1 := s1) (s2 := s2) (s3 := s3) (i := i) (j := j) (nm := nm) (by rw [if_neg hc]))
    obtain ⟨i, s1, e1⟩ : ∃ i t, mustR [m_dot] s = (i, t) := ⟨_, _, rfl⟩
    obtain ⟨nm, s2, e2⟩ : ∃ i t, nameR s1 = (i, t) := ⟨_, _, rfl⟩
    obtain ⟨j, s3, e3⟩ : ∃ i t, takeR [m_bang] s2 = (i, t) := ⟨_, _, rfl⟩
    have HEE := Lib.hid (HE.out _ _ _ _ _ _ e1 e2 e3)
    have E1 := Lib.hid e1
    have E2 := Lib.hid e2
    have E3 := Lib.hid e3
    have hc2 : (cat == 0) = false := by rw [beq_eq_false_iff_ne]; exact hc
    clear hc
    rw [HEE.out]
    have HG : Hid (g < w.heap.size) := h.lt
    have HBr_1 : Hid (Ob (w.alloc (.cells #[.int .i64 0, .string ⟨#[]⟩, .bool false] 31)) (w.heap.size) 31 #[.int .i64 0, .string ⟨#[]⟩, .bool false]) := Lib.hid (by have := Ob.made w 31 #[.int .i64 0, .string ⟨#[]⟩, .bool false]; simpa using this)
    have HR0 := Lib.hid (h.alloc (.cells #[.int .i64 0, .string ⟨#[]⟩, .bool false] 31))
    have HO0 := Lib.hid ((Only.refl (r := g) (w := w)).al (.cells #[.int .i64 0, .string ⟨#[]⟩, .bool false] 31))
    clear h e1 e2 e3 HE
    have HO2 := Lib.hid (HO0.out.al (.cells #[.int .i64 cat, .string ⟨#[]⟩, .bool false] 31))
    have HR2 := Lib.hid (HR0.out.alloc (.cells #[.int .i64 cat, .string ⟨#[]⟩, .bool false] 31))
    have HBr_2 := Lib.hid (HBr_1.out.keep (Below.heap_alloc (w.alloc (.cells #[.int .i64 0, .string ⟨#[]⟩, .bool false] 31)) (.cells #[.int .i64 cat, .string ⟨#[]⟩, .bool false] 31) _ HBr_1.out.lt))
    have HBa_2 : Hid (Ob ((w.alloc (.cells #[.int .i64 0, .string ⟨#[]⟩, .bool false] 31)).alloc (.cells #[.int .i64 cat, .string ⟨#[]⟩, .bool false] 31)) (w.heap.size + 1) 31 #[.int .i64 cat, .string ⟨#[]⟩, .bool false]) := Lib.hid (by have := Ob.made (w.alloc (.cells #[.int .i64 0, .string ⟨#[]⟩, .bool false] 31)) 31 #[.int .i64 cat, .string ⟨#[]⟩, .bool false]; simpa using this)
    go_enter Tryz.func152, Tryz.ntmps152
    go_wp2_with fail
    go_at_call 78
    refine (pmust_lit HR2.out [m_dot] #[.string ⟨#[46]⟩] 1 rfl rfl (by omega) (by first | rfl | (simp; done) | (simp [World.setCell]; done))).mono ?_
    rintro x u3 ⟨rfl, ho, hr⟩
    rw [E1.out] at hr
    have HO3 := Lib.hid (HO2.out.trans ho)
    have HR3 := Lib.hid hr
    have HBr_3 := Lib.hid (HBr_2.out.keep (ho.heap HBr_2.out.lt (by have := HG.out; omega)))
    have HBa_3 := Lib.hid (HBa_2.out.keep (ho.heap HBa_2.out.lt (by have := HG.out; omega)))
    clear ho hr
    go_wp2_with fail
    go_at_call 79
    refine (pname_any HR3.out).mono ?_
    rintro x u4 ⟨rfl, ho, hr⟩
    rw [E2.out] at hr ⊢
    have HO4 := Lib.hid (HO3.out.trans ho)
    have HR4 := Lib.hid hr
    have HBr_4 := Lib.hid (HBr_3.out.keep (ho.heap HBr_3.out.lt (by have := HG.out; omega)))
    have HBa_4 := Lib.hid (HBa_3.out.keep (ho.heap HBa_3.out.lt (by have := HG.out; omega)))
    clear ho hr
    have c5 := HBa_4.out.cell 1
    have f5 := HBa_4.out.frozen 1
    have HO5 := Lib.hid (HO4.out.new (r := (w.heap.size + 1)) (by have := HG.out; omega) 1 (.string nm))
    have HR5 := Lib.hid (HR4.out.set (r := (w.heap.size + 1)) (by have := HG.out; omega) 1 (.string nm))
    have HBr_5 := Lib.hid (HBr_4.out.keep (Below.heap_setCell u4 ⟨(w.heap.size + 1), 1, none⟩ (.string nm) _ (by show w.heap.size ≠ (w.heap.size + 1); have := HG.out; omega)))
    have HBa_5 : Hid (Ob (u4.setCell ⟨(w.heap.size + 1), 1, none⟩ (.string nm)) ((w.heap.size + 1)) 31 #[.int .i64 cat, .string nm, .bool false]) := Lib.hid (by have := HBa_4.out.put 1 (.string nm); simpa using this)
    go_wp2_with fail
    go_at_call 114
    refine (ptake_lit HR5.out [m_bang] #[.string ⟨#[33]⟩] 1 rfl rfl (by omega) (by first | rfl | (simp; done) | (simp [World.setCell]; done))).mono ?_
    rintro x u6 ⟨rfl, ho, hr⟩
    rw [E3.out] at hr ⊢
    have HO6 := Lib.hid (HO5.out.trans ho)
    have HR6 := Lib.hid hr
    have HBr_6 := Lib.hid (HBr_5.out.keep (ho.heap HBr_5.out.lt (by have := HG.out; omega)))
    have HBa_6 := Lib.hid (HBa_5.out.keep (ho.heap HBa_5.out.lt (by have := HG.out; omega)))
    clear ho hr
    have c7 := HBa_6.out.cell 2
    have f7 := HBa_6.out.frozen 2
    have HO7 := Lib.hid (HO6.out.new (r := (w.heap.size + 1)) (by have := HG.out; omega) 2 (.bool (decide (0 < j))))
    have HR7 := Lib.hid (HR6.out.set (r := (w.heap.size + 1)) (by have := HG.out; omega) 2 (.bool (decide (0 < j))))
    have HBr_7 := Lib.hid (HBr_6.out.keep (Below.heap_setCell u6 ⟨(w.heap.size + 1), 2, none⟩ (.bool (decide (0 < j))) _ (by show w.heap.size ≠ (w.heap.size + 1); have := HG.out; omega)))
    have HBa_7 : Hid (Ob (u6.setCell ⟨(w.heap.size + 1), 2, none⟩ (.bool (decide (0 < j)))) ((w.heap.size + 1)) 31 #[.int .i64 cat, .string nm, .bool (decide (0 < j))]) := Lib.hid (by have := HBa_6.out.put 2 (.bool (decide (0 < j))); simpa using this)
    have c8_0 := HBa_7.out.cell 0
    have c8_1 := HBa_7.out.cell 1
    have c8_2 := HBa_7.out.cell 2
    have c9 := HBr_7.out.cell 0
    have f9 := HBr_7.out.frozen 0
    have HO9 := Lib.hid (HO7.out.new (r := w.heap.size) (by have := HG.out; omega) 0 (.int .i64 cat))
    have HR9 := Lib.hid (HR7.out.set (r := w.heap.size) (by have := HG.out; omega) 0 (.int .i64 cat))
    have HBr_9 : Hid (Ob ((u6.setCell ⟨(w.heap.size + 1), 2, none⟩ (.bool (decide (0 < j)))).setCell ⟨w.heap.size, 0, none⟩ (.int .i64 cat)) (w.heap.size) 31 #[.int .i64 cat, .string ⟨#[]⟩, .bool false]) := Lib.hid (by have := HBr_7.out.put 0 (.int .i64 cat); simpa using this)
    have HBa_9 := Lib.hid (HBa_7.out.keep (Below.heap_setCell (u6.setCell ⟨(w.heap.size + 1), 2, none⟩ (.bool (decide (0 < j)))) ⟨w.heap.size, 0, none⟩ (.int .i64 cat) _ (by show (w.heap.size + 1) ≠ w.heap.size; have := HG.out; omega)))
    have c10 := HBr_9.out.cell 1
    have f10 := HBr_9.out.frozen 1
    have HO10 := Lib.hid (HO9.out.new (r := w.heap.size) (by have := HG.out; omega) 1 (.string nm))
    have HR10 := Lib.hid (HR9.out.set (r := w.heap.size) (by have := HG.out; omega) 1 (.string nm))
    have HBr_10 : Hid (Ob (((u6.setCell ⟨(w.heap.size + 1), 2, none⟩ (.bool (decide (0 < j)))).setCell ⟨w.heap.size, 0, none⟩ (.int .i64 cat)).setCell ⟨w.heap.size, 1, none⟩ (.string nm)) (w.heap.size) 31 #[.int .i64 cat, .string nm, .bool false]) := Lib.hid (by have := HBr_9.out.put 1 (.string nm); simpa using this)
    have HBa_10 := Lib.hid (HBa_9.out.keep (Below.heap_setCell ((u6.setCell ⟨(w.heap.size + 1), 2, none⟩ (.bool (decide (0 < j)))).setCell ⟨w.heap.size, 0, none⟩ (.int .i64 cat)) ⟨w.heap.size, 1, none⟩ (.string nm) _ (by show (w.heap.size + 1) ≠ w.heap.size; have := HG.out; omega)))
    have c11 := HBr_10.out.cell 2
    have f11 := HBr_10.out.frozen 2
    have HO11 := Lib.hid (HO10.out.new (r := w.heap.size) (by have := HG.out; omega) 2 (.bool (decide (0 < j))))
    have HR11 := Lib.hid (HR10.out.set (r := w.heap.size) (by have := HG.out; omega) 2 (.bool (decide (0 < j))))
    have HBr_11 : Hid (Ob ((((u6.setCell ⟨(w.heap.size + 1), 2, none⟩ (.bool (decide (0 < j)))).setCell ⟨w.heap.size, 0, none⟩ (.int .i64 cat)).setCell ⟨w.heap.size, 1, none⟩ (.string nm)).setCell ⟨w.heap.size, 2, none⟩ (.bool (decide (0 < j)))) (w.heap.size) 31 #[.int .i64 cat, .string nm, .bool (decide (0 < j))]) := Lib.hid (by have := HBr_10.out.put 2 (.bool (decide (0 < j))); simpa using this)
    have HBa_11 := Lib.hid (HBa_10.out.keep (Below.heap_setCell (((u6.setCell ⟨(w.heap.size + 1), 2, none⟩ (.bool (decide (0 < j)))).setCell ⟨w.heap.size, 0, none⟩ (.int .i64 cat)).setCell ⟨w.heap.size, 1, none⟩ (.string nm)) ⟨w.heap.size, 2, none⟩ (.bool (decide (0 < j))) _ (by show (w.heap.size + 1) ≠ w.heap.size; have := HG.out; omega)))
    go_wp2_with fail
    refine bodyPost_ret (attr_ret rfl rfl HBr_11.out rfl) rfl ?_
    exact ⟨rfl, HO11.out, HR11.out⟩
set_option maxHeartbeats 800000 in
theorem pkind_any (k p n : Int) (t : ByteArray) : Calls Tryz.prog 162 #[.agg #[.int .i64 k, .int .i64 p, .int .i64 n, .string t]] w fun x w' => x = .returned (.int .i64 (kindR k)) ∧ Below w.heap.size w w' := by
  have HB : Hid (Below w.heap.size w (w.alloc (.cells #[.int .i64 k, .int .i64 p, .int .i64 n, .string t] 124))) := (Below.refl _ _).alloc (Nat.le_refl _) _
  by_cases h2 : k = 2
  · subst h2
    go_enter Tryz.func162, Tryz.ntmps162
    go_wp2_with fail
    go_ret
    exact ⟨rfl, HB.out⟩
  by_cases h3 : k = 3
  · subst h3
    go_enter Tryz.func162, Tryz.ntmps162
    go_wp2_with fail
    go_ret
    exact ⟨rfl, HB.out⟩
  by_cases h4 : k = 4
  · subst h4
    go_enter Tryz.func162, Tryz.ntmps162
    go_wp2_with fail
    go_ret
    exact ⟨rfl, HB.out⟩
  by_cases h5 : k = 5
  · subst h5
    go_enter Tryz.func162, Tryz.ntmps162
    go_wp2_with fail
    go_ret
    exact ⟨rfl, HB.out⟩
  have HE : Hid (kindR k = 1) := by show _ = _; unfold kindR; rw [if_neg h2, if_neg h3, if_neg h4, if_neg h5]
  have g2 : (k == 2) = false := by rw [beq_eq_false_iff_ne]; exact h2
  have g3 : (k == 3) = false := by rw [beq_eq_false_iff_ne]; exact h3
  have g4 : (k == 4) = false := by rw [beq_eq_false_iff_ne]; exact h4
  have g5 : (k == 5) = false := by rw [beq_eq_false_iff_ne]; exact h5
  clear h2 h3 h4 h5
  go_enter Tryz.func162, Tryz.ntmps162
  go_wp2_with fail
  go_ret
  exact ⟨ret_int HE.out.symm, HB.out⟩
theorem kindR_7 {k : Int} (h : kindR k ≠ 1) : k ≠ 7 := by rintro rfl; exact h rfl
set_option maxHeartbeats 1600000 in
theorem pvalue_any (h : Rd L w g s) : Calls Tryz.prog 154 #[.pointer (some ⟨g, 0, none⟩)] w fun x w' => x = .returned (valueR s).1.val ∧ Only g w w' ∧ Rd L w' g (valueR s).2 := by
  by_cases hc : kindR s.hd.k = 1
  · obtain ⟨i, s1, e1⟩ : ∃ i t, mustR [w_false, w_true] s = (i, t) := ⟨_, _, rfl⟩
    have HE : Hid (valueR s = (⟨1, (i : Int) - 1, ⟨#[]⟩⟩, s1)) := by show _ = _; unfold valueR; rw [if_pos hc, e1]
    have E1 := Lib.hid e1
    have hi : i ≤ 2 := by have := mustR_le [w_false, w_true] s; rw [e1] at this; exact this
    rw [HE.out]
    have HG : Hid (g < w.heap.size) := h.lt
    have HBr_1 : Hid (Ob (w.alloc (.cells #[.int .i64 0, .int .i64 0, .string ⟨#[]⟩] 51)) (w.heap.size) 51 #[.int .i64 0, .int .i64 0, .string ⟨#[]⟩]) := Lib.hid (by have := Ob.made w 51 #[.int .i64 0, .int .i64 0, .string ⟨#[]⟩]; simpa using this)
    have HR0 := Lib.hid (h.alloc (.cells #[.int .i64 0, .int .i64 0, .string ⟨#[]⟩] 51))
    have HO0 := Lib.hid ((Only.refl (r := g) (w := w)).al (.cells #[.int .i64 0, .int .i64 0, .string ⟨#[]⟩] 51))
    obtain ⟨b, o, n, c, hob, hok, ⟨hn, h1, h2, h3⟩, hbg, ⟨t0, t1, t2, t3⟩, hmk⟩ := HR0.out.at_
    have q0 := hob.cell 0
    unfold maxLen at h3
    have HO2 := Lib.hid (HO0.out.al (.cells #[.int .i64 s.hd.k, .int .i64 s.hd.p, .int .i64 s.hd.n, .string s.hd.s] 124))
    have HR2 := Lib.hid (HR0.out.alloc (.cells #[.int .i64 s.hd.k, .int .i64 s.hd.p, .int .i64 s.hd.n, .string s.hd.s] 124))
    have HBr_2 := Lib.hid (HBr_1.out.keep (Below.heap_alloc (w.alloc (.cells #[.int .i64 0, .int .i64 0, .string ⟨#[]⟩] 51)) (.cells #[.int .i64 s.hd.k, .int .i64 s.hd.p, .int .i64 s.hd.n, .string s.hd.s] 124) _ HBr_1.out.lt))
    have HBt_2 : Hid (Ob ((w.alloc (.cells #[.int .i64 0, .int .i64 0, .string ⟨#[]⟩] 51)).alloc (.cells #[.int .i64 s.hd.k, .int .i64 s.hd.p, .int .i64 s.hd.n, .string s.hd.s] 124)) (w.heap.size + 1) 124 #[.int .i64 s.hd.k, .int .i64 s.hd.p, .int .i64 s.hd.n, .string s.hd.s]) := Lib.hid (by have := Ob.made (w.alloc (.cells #[.int .i64 0, .int .i64 0, .string ⟨#[]⟩] 51)) 124 #[.int .i64 s.hd.k, .int .i64 s.hd.p, .int .i64 s.hd.n, .string s.hd.s]; simpa using this)
    have HK := Lib.hid (fun V : World => pkind_any (w := V) s.hd.k s.hd.p s.hd.n s.hd.s)
    rw [hc] at HK
    clear hc e1 hmk hob h
    go_enter Tryz.func154, Tryz.ntmps154
    go_wp2_with fail
    go_at_call 162
    refine (HK.out _).mono ?_
    rintro x u1 ⟨rfl, hb⟩
    have HO3 := Lib.hid (HO2.out.then_ hb)
    have HR3 := Lib.hid (HR2.out.then_ hb)
    have HBr_3 := Lib.hid (HBr_2.out.below hb HBr_2.out.lt)
    have HBt_3 := Lib.hid (HBt_2.out.below hb HBt_2.out.lt)
    clear hb
    go_wp2_with fail
    go_at_call 78
    refine (pmust_lit HR3.out [w_false, w_true] #[.string ⟨#[102, 97, 108, 115, 101]⟩, .string ⟨#[116, 114, 117, 101]⟩] 2 rfl rfl (by omega) (by first | rfl | (simp; done) | (simp [World.setCell]; done))).mono ?_
    rintro x u4 ⟨hx, ho, hr⟩
    obtain rfl : x = .returned (.int .i64 (i : Int)) := by rw [hx, E1.out] <;> rfl
    rw [E1.out] at hr
    clear hx
    have HO4 := Lib.hid (HO3.out.trans ho)
    have HR4 := Lib.hid hr
    have HBr_4 := Lib.hid (HBr_3.out.keep (ho.heap HBr_3.out.lt (by have := HG.out; omega)))
    have HBt_4 := Lib.hid (HBt_3.out.keep (ho.heap HBt_3.out.lt (by have := HG.out; omega)))
    clear ho hr
    have c5 := HBr_4.out.cell 0
    have f5 := HBr_4.out.frozen 0
    have HO5 := Lib.hid (HO4.out.new (r := w.heap.size) (by have := HG.out; omega) 0 (.int .i64 1))
    have HR5 := Lib.hid (HR4.out.set (r := w.heap.size) (by have := HG.out; omega) 0 (.int .i64 1))
    have HBr_5 : Hid (Ob (u4.setCell ⟨w.heap.size, 0, none⟩ (.int .i64 1)) (w.heap.size) 51 #[.int .i64 1, .int .i64 0, .string ⟨#[]⟩]) := Lib.hid (by have := HBr_4.out.put 0 (.int .i64 1); simpa using this)
    have HBt_5 := Lib.hid (HBt_4.out.keep (Below.heap_setCell u4 ⟨w.heap.size, 0, none⟩ (.int .i64 1) _ (by show (w.heap.size + 1) ≠ w.heap.size; have := HG.out; omega)))
    have c6 := HBr_5.out.cell 1
    have f6 := HBr_5.out.frozen 1
    have HO6 := Lib.hid (HO5.out.new (r := w.heap.size) (by have := HG.out; omega) 1 (.int .i64 ((i : Int) - 1)))
    have HR6 := Lib.hid (HR5.out.set (r := w.heap.size) (by have := HG.out; omega) 1 (.int .i64 ((i : Int) - 1)))
    have HBr_6 : Hid (Ob ((u4.setCell ⟨w.heap.size, 0, none⟩ (.int .i64 1)).setCell ⟨w.heap.size, 1, none⟩ (.int .i64 ((i : Int) - 1))) (w.heap.size) 51 #[.int .i64 1, .int .i64 ((i : Int) - 1), .string ⟨#[]⟩]) := Lib.hid (by have := HBr_5.out.put 1 (.int .i64 ((i : Int) - 1)); simpa using this)
    have HBt_6 := Lib.hid (HBt_5.out.keep (Below.heap_setCell (u4.setCell ⟨w.heap.size, 0, none⟩ (.int .i64 1)) ⟨w.heap.size, 1, none⟩ (.int .i64 ((i : Int) - 1)) _ (by show (w.heap.size + 1) ≠ w.heap.size; have := HG.out; omega)))
    have c7 := HBr_6.out.cell 2
    have f7 := HBr_6.out.frozen 2
    have HO7 := Lib.hid (HO6.out.new (r := w.heap.size) (by have := HG.out; omega) 2 (.string ⟨#[]⟩))
    have HR7 := Lib.hid (HR6.out.set (r := w.heap.size) (by have := HG.out; omega) 2 (.string ⟨#[]⟩))
    have HBr_7 : Hid (Ob (((u4.setCell ⟨w.heap.size, 0, none⟩ (.int .i64 1)).setCell ⟨w.heap.size, 1, none⟩ (.int .i64 ((i : Int) - 1))).setCell ⟨w.heap.size, 2, none⟩ (.string ⟨#[]⟩)) (w.heap.size) 51 #[.int .i64 1, .int .i64 ((i : Int) - 1), .string ⟨#[]⟩]) := Lib.hid (by have := HBr_6.out.put 2 (.string ⟨#[]⟩); simpa using this)
    have HBt_7 := Lib.hid (HBt_6.out.keep (Below.heap_setCell ((u4.setCell ⟨w.heap.size, 0, none⟩ (.int .i64 1)).setCell ⟨w.heap.size, 1, none⟩ (.int .i64 ((i : Int) - 1))) ⟨w.heap.size, 2, none⟩ (.string ⟨#[]⟩) _ (by show (w.heap.size + 1) ≠ w.heap.size; have := HG.out; omega)))
    go_wp2_with fail
    refine bodyPost_ret (value_ret rfl rfl HBr_7.out rfl) rfl ?_
    exact ⟨rfl, HO7.out, HR7.out⟩
  · have HE : Hid (valueR s = (⟨kindR s.hd.k, s.hd.n, s.hd.s⟩, nextR s)) := by show _ = _; unfold valueR; rw [if_neg hc]
    have hc2 : (kindR s.hd.k == 1) = false := by rw [beq_eq_false_iff_ne]; exact hc
    rw [HE.out]
    have HG : Hid (g < w.heap.size) := h.lt
    have HBr_1 : Hid (Ob (w.alloc (.cells #[.int .i64 0, .int .i64 0, .string ⟨#[]⟩] 51)) (w.heap.size) 51 #[.int .i64 0, .int .i64 0, .string ⟨#[]⟩]) := Lib.hid (by have := Ob.made w 51 #[.int .i64 0, .int .i64 0, .string ⟨#[]⟩]; simpa using this)
    have HR0 := Lib.hid (h.alloc (.cells #[.int .i64 0, .int .i64 0, .string ⟨#[]⟩] 51))
    have HO0 := Lib.hid ((Only.refl (r := g) (w := w)).al (.cells #[.int .i64 0, .int .i64 0, .string ⟨#[]⟩] 51))
    obtain ⟨b, o, n, c, hob, ⟨h1, h2, h3⟩, hbg, ⟨t0, t1, t2, t3⟩, hgo⟩ := HR0.out.goes (kindR_7 hc)
    have q0 := hob.cell 0
    unfold maxLen at h3
    have HO2 := Lib.hid (HO0.out.al (.cells #[.int .i64 s.hd.k, .int .i64 s.hd.p, .int .i64 s.hd.n, .string s.hd.s] 124))
    have HR2 := Lib.hid (HR0.out.alloc (.cells #[.int .i64 s.hd.k, .int .i64 s.hd.p, .int .i64 s.hd.n, .string s.hd.s] 124))
    have HBr_2 := Lib.hid (HBr_1.out.keep (Below.heap_alloc (w.alloc (.cells #[.int .i64 0, .int .i64 0, .string ⟨#[]⟩] 51)) (.cells #[.int .i64 s.hd.k, .int .i64 s.hd.p, .int .i64 s.hd.n, .string s.hd.s] 124) _ HBr_1.out.lt))
    have HBt_2 : Hid (Ob ((w.alloc (.cells #[.int .i64 0, .int .i64 0, .string ⟨#[]⟩] 51)).alloc (.cells #[.int .i64 s.hd.k, .int .i64 s.hd.p, .int .i64 s.hd.n, .string s.hd.s] 124)) (w.heap.size + 1) 124 #[.int .i64 s.hd.k, .int .i64 s.hd.p, .int .i64 s.hd.n, .string s.hd.s]) := Lib.hid (by have := Ob.made (w.alloc (.cells #[.int .i64 0, .int .i64 0, .string ⟨#[]⟩] 51)) 124 #[.int .i64 s.hd.k, .int .i64 s.hd.p, .int .i64 s.hd.n, .string s.hd.s]; simpa using this)
    have HOBg := Lib.hid hob
    have HGO := Lib.hid hgo
    have HK := Lib.hid (fun V : World => pkind_any (w := V) s.hd.k s.hd.p s.hd.n s.hd.s)
    have h5 : ¬ c = 1 := by omega
    have h6 : (1 : Int) ≤ (n : Int) := by omega
    have HCC := Lib.hid hc
    generalize kindR s.hd.k = kd at *
    clear hob hgo h hc
    go_enter Tryz.func154, Tryz.ntmps154
    go_wp2_with fail
    go_at_call 162
    refine (HK.out _).mono ?_
    rintro x u1 ⟨rfl, hb⟩
    have HO3 := Lib.hid (HO2.out.then_ hb)
    have HR3 := Lib.hid (HR2.out.then_ hb)
    have HBr_3 := Lib.hid (HBr_2.out.below hb HBr_2.out.lt)
    have HBt_3 := Lib.hid (HBt_2.out.below hb HBt_2.out.lt)
    have HQ := Lib.hid (HGO.out u1 ((Below.refl _ _).alloc (Nat.le_refl _) (.cells #[.int .i64 s.hd.k, .int .i64 s.hd.p, .int .i64 s.hd.n, .string s.hd.s] 124) |>.trans (hb.mono (by simp))))
    have OQ := Lib.hid (HOBg.out.keep ((Below.heap_alloc (w.alloc (.cells #[.int .i64 0, .int .i64 0, .string ⟨#[]⟩] 51)) (.cells #[.int .i64 s.hd.k, .int .i64 s.hd.p, .int .i64 s.hd.n, .string s.hd.s] 124) _ HOBg.out.lt) |> fun e => (hb.block g (by have := HG.out; simp; omega)).trans e))
    have q0 := OQ.out.cell 0
    have f0 := OQ.out.frozen 0
    clear hb
    have HO4 := Lib.hid (HO3.out.at_g 0 (.slice (some ⟨b, o + 4, none⟩) (n - 1) (c - 1)))
    have HR4 := Lib.hid HQ.out.1
    have HBr_4 := Lib.hid (HBr_3.out.keep (Below.heap_setCell u1 ⟨g, 0, none⟩ (.slice (some ⟨b, o + 4, none⟩) (n - 1) (c - 1)) _ (by show w.heap.size ≠ g; have := HG.out; omega)))
    have HBt_4 := Lib.hid (HBt_3.out.keep (Below.heap_setCell u1 ⟨g, 0, none⟩ (.slice (some ⟨b, o + 4, none⟩) (n - 1) (c - 1)) _ (by show (w.heap.size + 1) ≠ g; have := HG.out; omega)))
    have c5_0 := HBt_4.out.cell 0
    have c5_1 := HBt_4.out.cell 1
    have c5_2 := HBt_4.out.cell 2
    have c5_3 := HBt_4.out.cell 3
    have c6 := HBr_4.out.cell 0
    have f6 := HBr_4.out.frozen 0
    have HO6 := Lib.hid (HO4.out.new (r := w.heap.size) (by have := HG.out; omega) 0 (.int .i64 kd))
    have HR6 := Lib.hid (HR4.out.set (r := w.heap.size) (by have := HG.out; omega) 0 (.int .i64 kd))
    have HBr_6 : Hid (Ob ((u1.setCell ⟨g, 0, none⟩ (.slice (some ⟨b, o + 4, none⟩) (n - 1) (c - 1))).setCell ⟨w.heap.size, 0, none⟩ (.int .i64 kd)) (w.heap.size) 51 #[.int .i64 kd, .int .i64 0, .string ⟨#[]⟩]) := Lib.hid (by have := HBr_4.out.put 0 (.int .i64 kd); simpa using this)
    have HBt_6 := Lib.hid (HBt_4.out.keep (Below.heap_setCell (u1.setCell ⟨g, 0, none⟩ (.slice (some ⟨b, o + 4, none⟩) (n - 1) (c - 1))) ⟨w.heap.size, 0, none⟩ (.int .i64 kd) _ (by show (w.heap.size + 1) ≠ w.heap.size; have := HG.out; omega)))
    have c7 := HBr_6.out.cell 1
    have f7 := HBr_6.out.frozen 1
    have HO7 := Lib.hid (HO6.out.new (r := w.heap.size) (by have := HG.out; omega) 1 (.int .i64 s.hd.n))
    have HR7 := Lib.hid (HR6.out.set (r := w.heap.size) (by have := HG.out; omega) 1 (.int .i64 s.hd.n))
    have HBr_7 : Hid (Ob (((u1.setCell ⟨g, 0, none⟩ (.slice (some ⟨b, o + 4, none⟩) (n - 1) (c - 1))).setCell ⟨w.heap.size, 0, none⟩ (.int .i64 kd)).setCell ⟨w.heap.size, 1, none⟩ (.int .i64 s.hd.n)) (w.heap.size) 51 #[.int .i64 kd, .int .i64 s.hd.n, .string ⟨#[]⟩]) := Lib.hid (by have := HBr_6.out.put 1 (.int .i64 s.hd.n); simpa using this)
    have HBt_7 := Lib.hid (HBt_6.out.keep (Below.heap_setCell ((u1.setCell ⟨g, 0, none⟩ (.slice (some ⟨b, o + 4, none⟩) (n - 1) (c - 1))).setCell ⟨w.heap.size, 0, none⟩ (.int .i64 kd)) ⟨w.heap.size, 1, none⟩ (.int .i64 s.hd.n) _ (by show (w.heap.size + 1) ≠ w.heap.size; have := HG.out; omega)))
    have c8 := HBr_7.out.cell 2
    have f8 := HBr_7.out.frozen 2
    have HO8 := Lib.hid (HO7.out.new (r := w.heap.size) (by have := HG.out; omega) 2 (.string s.hd.s))
    have HR8 := Lib.hid (HR7.out.set (r := w.heap.size) (by have := HG.out; omega) 2 (.string s.hd.s))
    have HBr_8 : Hid (Ob ((((u1.setCell ⟨g, 0, none⟩ (.slice (some ⟨b, o + 4, none⟩) (n - 1) (c - 1))).setCell ⟨w.heap.size, 0, none⟩ (.int .i64 kd)).setCell ⟨w.heap.size, 1, none⟩ (.int .i64 s.hd.n)).setCell ⟨w.heap.size, 2, none⟩ (.string s.hd.s)) (w.heap.size) 51 #[.int .i64 kd, .int .i64 s.hd.n, .string s.hd.s]) := Lib.hid (by have := HBr_7.out.put 2 (.string s.hd.s); simpa using this)
    have HBt_8 := Lib.hid (HBt_7.out.keep (Below.heap_setCell (((u1.setCell ⟨g, 0, none⟩ (.slice (some ⟨b, o + 4, none⟩) (n - 1) (c - 1))).setCell ⟨w.heap.size, 0, none⟩ (.int .i64 kd)).setCell ⟨w.heap.size, 1, none⟩ (.int .i64 s.hd.n)) ⟨w.heap.size, 2, none⟩ (.string s.hd.s) _ (by show (w.heap.size + 1) ≠ w.heap.size; have := HG.out; omega)))
    go_wp2_with fail
    refine bodyPost_ret (value_ret rfl rfl HBr_8.out rfl) rfl ?_
    exact ⟨rfl, HO8.out, HR8.out⟩
set_option maxHeartbeats 3200000 in
theorem pmatch_any (h : Rd L w g s) : Calls Tryz.prog 144 #[.pointer (some ⟨g, 0, none⟩)] w fun x w' => x = .returned (matchR s).1.val ∧ Only g w w' ∧ Rd L w' g (matchR s).2 := by
  obtain ⟨i, s1, e1⟩ : ∃ i t, catR s = (i, t) := ⟨_, _, rfl⟩
  obtain ⟨⟨ac, an, am⟩, s2, e2⟩ : ∃ a t, attrR (i : Int) s1 = (a, t) := ⟨_, _, rfl⟩
  obtain ⟨j, s3, e3⟩ : ∃ i t, mustR [m_eqm, m_lt, m_gt] s2 = (i, t) := ⟨_, _, rfl⟩
  obtain ⟨⟨vk, vn, vs⟩, s4, e4⟩ : ∃ a t, valueR s3 = (a, t) := ⟨_, _, rfl⟩
  have HE : Hid (matchR s = (⟨⟨ac, an, am⟩, (j : Int), ⟨vk, vn, vs⟩⟩, s4)) := by show _ = _; unfold matchR; simp only [e1, e2, e3, e4]
  rw [HE.out]
  have E1 := Lib.hid e1
  have E2 := Lib.hid e2
  have E3 := Lib.hid e3
  have E4 := Lib.hid e4
  have HG : Hid (g < w.heap.size) := h.lt
  have HBr_1 : Hid (Ob (w.alloc (.cells #[.int .i64 0, .string ⟨#[]⟩, .bool false, .int .i64 0, .int .i64 0, .int .i64 0, .string ⟨#[]⟩] 60)) (w.heap.size) 60 #[.int .i64 0, .string ⟨#[]⟩, .bool false, .int .i64 0, .int .i64 0, .int .i64 0, .string ⟨#[]⟩]) := Lib.hid (by have := Ob.made w 60 #[.int .i64 0, .string ⟨#[]⟩, .bool false, .int .i64 0, .int .i64 0, .int .i64 0, .string ⟨#[]⟩]; simpa using this)
  have HBr_2 := Lib.hid (HBr_1.out.keep (Below.heap_alloc (w.alloc (.cells #[.int .i64 0, .string ⟨#[]⟩, .bool false, .int .i64 0, .int .i64 0, .int .i64 0, .string ⟨#[]⟩] 60)) (.cells #[.int .i64 0, .string ⟨#[]⟩, .bool false, .int .i64 0, .int .i64 0, .int .i64 0, .string ⟨#[]⟩] 60) _ HBr_1.out.lt))
  have HBm_2 : Hid (Ob ((w.alloc (.cells #[.int .i64 0, .string ⟨#[]⟩, .bool false, .int .i64 0, .int .i64 0, .int .i64 0, .string ⟨#[]⟩] 60)).alloc (.cells #[.int .i64 0, .string ⟨#[]⟩, .bool false, .int .i64 0, .int .i64 0, .int .i64 0, .string ⟨#[]⟩] 60)) (w.heap.size + 1) 60 #[.int .i64 0, .string ⟨#[]⟩, .bool false, .int .i64 0, .int .i64 0, .int .i64 0, .string ⟨#[]⟩]) := Lib.hid (by have := Ob.made (w.alloc (.cells #[.int .i64 0, .string ⟨#[]⟩, .bool false, .int .i64 0, .int .i64 0, .int .i64 0, .string ⟨#[]⟩] 60)) 60 #[.int .i64 0, .string ⟨#[]⟩, .bool false, .int .i64 0, .int .i64 0, .int .i64 0, .string ⟨#[]⟩]; simpa using this)
  have HR0 := Lib.hid ((h.alloc (.cells #[.int .i64 0, .string ⟨#[]⟩, .bool false, .int .i64 0, .int .i64 0, .int .i64 0, .string ⟨#[]⟩] 60)).alloc (.cells #[.int .i64 0, .string ⟨#[]⟩, .bool false, .int .i64 0, .int .i64 0, .int .i64 0, .string ⟨#[]⟩] 60))
  have HO0 := Lib.hid (((Only.refl (r := g) (w := w)).al (.cells #[.int .i64 0, .string ⟨#[]⟩, .bool false, .int .i64 0, .int .i64 0, .int .i64 0, .string ⟨#[]⟩] 60)).al (.cells #[.int .i64 0, .string ⟨#[]⟩, .bool false, .int .i64 0, .int .i64 0, .int .i64 0, .string ⟨#[]⟩] 60))
  clear h e1 e2 e3 e4
  go_enter Tryz.func144, Tryz.ntmps144
  go_wp2_with fail
  go_at_call 153
  refine (pcat_any HR0.out).mono ?_
  rintro x u3 ⟨hx, ho, hr⟩
  obtain rfl : x = .returned (.int .i64 (i : Int)) := by rw [hx, E1.out] <;> rfl
  rw [E1.out] at hr
  clear hx
  have HO3 := Lib.hid (HO0.out.trans ho)
  have HR3 := Lib.hid hr
  have HBr_3 := Lib.hid (HBr_2.out.keep (ho.heap HBr_2.out.lt (by have := HG.out; omega)))
  have HBm_3 := Lib.hid (HBm_2.out.keep (ho.heap HBm_2.out.lt (by have := HG.out; omega)))
  clear ho hr
  go_wp2_with fail
  go_at_call 152
  refine (pattr_any HR3.out (i : Int)).mono ?_
  rintro x u4 ⟨hx, ho, hr⟩
  obtain rfl : x = .returned (.agg #[.int .i64 ac, .string an, .bool am]) := by rw [hx, E2.out] <;> rfl
  rw [E2.out] at hr
  clear hx
  have HO4 := Lib.hid (HO3.out.trans ho)
  have HR4 := Lib.hid hr
  have HBr_4 := Lib.hid (HBr_3.out.keep (ho.heap HBr_3.out.lt (by have := HG.out; omega)))
  have HBm_4 := Lib.hid (HBm_3.out.keep (ho.heap HBm_3.out.lt (by have := HG.out; omega)))
  clear ho hr
  have c5 := HBm_4.out.cell 0
  have f5 := HBm_4.out.frozen 0
  have HO5 := Lib.hid (HO4.out.new (r := w.heap.size + 1) (by have := HG.out; omega) 0 (.int .i64 ac))
  have HR5 := Lib.hid (HR4.out.set (r := w.heap.size + 1) (by have := HG.out; omega) 0 (.int .i64 ac))
  have HBr_5 := Lib.hid (HBr_4.out.keep (Below.heap_setCell u4 ⟨w.heap.size + 1, 0, none⟩ (.int .i64 ac) _ (by show w.heap.size ≠ w.heap.size + 1; have := HG.out; omega)))
  have HBm_5 : Hid (Ob (u4.setCell ⟨w.heap.size + 1, 0, none⟩ (.int .i64 ac)) (w.heap.size + 1) 60 #[.int .i64 ac, .string ⟨#[]⟩, .bool false, .int .i64 0, .int .i64 0, .int .i64 0, .string ⟨#[]⟩]) := Lib.hid (by have := HBm_4.out.put 0 (.int .i64 ac); simpa using this)
  have c6 := HBm_5.out.cell 1
  have f6 := HBm_5.out.frozen 1
  have HO6 := Lib.hid (HO5.out.new (r := w.heap.size + 1) (by have := HG.out; omega) 1 (.string an))
  have HR6 := Lib.hid (HR5.out.set (r := w.heap.size + 1) (by have := HG.out; omega) 1 (.string an))
  have HBr_6 := Lib.hid (HBr_5.out.keep (Below.heap_setCell (u4.setCell ⟨w.heap.size + 1, 0, none⟩ (.int .i64 ac)) ⟨w.heap.size + 1, 1, none⟩ (.string an) _ (by show w.heap.size ≠ w.heap.size + 1; have := HG.out; omega)))
  have HBm_6 : Hid (Ob ((u4.setCell ⟨w.heap.size + 1, 0, none⟩ (.int .i64 ac)).setCell ⟨w.heap.size + 1, 1, none⟩ (.string an)) (w.heap.size + 1) 60 #[.int .i64 ac, .string an, .bool false, .int .i64 0, .int .i64 0, .int .i64 0, .string ⟨#[]⟩]) := Lib.hid (by have := HBm_5.out.put 1 (.string an); simpa using this)
  have c7 := HBm_6.out.cell 2
  have f7 := HBm_6.out.frozen 2
  have HO7 := Lib.hid (HO6.out.new (r := w.heap.size + 1) (by have := HG.out; omega) 2 (.bool am))
  have HR7 := Lib.hid (HR6.out.set (r := w.heap.size + 1) (by have := HG.out; omega) 2 (.bool am))
  have HBr_7 := Lib.hid (HBr_6.out.keep (Below.heap_setCell ((u4.setCell ⟨w.heap.size + 1, 0, none⟩ (.int .i64 ac)).setCell ⟨w.heap.size + 1, 1, none⟩ (.string an)) ⟨w.heap.size + 1, 2, none⟩ (.bool am) _ (by show w.heap.size ≠ w.heap.size + 1; have := HG.out; omega)))
  have HBm_7 : Hid (Ob (((u4.setCell ⟨w.heap.size + 1, 0, none⟩ (.int .i64 ac)).setCell ⟨w.heap.size + 1, 1, none⟩ (.string an)).setCell ⟨w.heap.size + 1, 2, none⟩ (.bool am)) (w.heap.size + 1) 60 #[.int .i64 ac, .string an, .bool am, .int .i64 0, .int .i64 0, .int .i64 0, .string ⟨#[]⟩]) := Lib.hid (by have := HBm_6.out.put 2 (.bool am); simpa using this)
  go_wp2_with fail
  go_at_call 78
  refine (pmust_lit HR7.out [m_eqm, m_lt, m_gt] #[.string ⟨#[61]⟩, .string ⟨#[60]⟩, .string ⟨#[62]⟩] 3 rfl rfl (by omega) (by first | rfl | (simp; done) | (simp [World.setCell]; done))).mono ?_
  rintro x u8 ⟨hx, ho, hr⟩
  obtain rfl : x = .returned (.int .i64 (j : Int)) := by rw [hx, E3.out] <;> rfl
  rw [E3.out] at hr
  clear hx
  have HO8 := Lib.hid (HO7.out.trans ho)
  have HR8 := Lib.hid hr
  have HBr_8 := Lib.hid (HBr_7.out.keep (ho.heap HBr_7.out.lt (by have := HG.out; omega)))
  have HBm_8 := Lib.hid (HBm_7.out.keep (ho.heap HBm_7.out.lt (by have := HG.out; omega)))
  clear ho hr
  have c9 := HBm_8.out.cell 3
  have f9 := HBm_8.out.frozen 3
  have HO9 := Lib.hid (HO8.out.new (r := w.heap.size + 1) (by have := HG.out; omega) 3 (.int .i64 (j : Int)))
  have HR9 := Lib.hid (HR8.out.set (r := w.heap.size + 1) (by have := HG.out; omega) 3 (.int .i64 (j : Int)))
  have HBr_9 := Lib.hid (HBr_8.out.keep (Below.heap_setCell u8 ⟨w.heap.size + 1, 3, none⟩ (.int .i64 (j : Int)) _ (by show w.heap.size ≠ w.heap.size + 1; have := HG.out; omega)))
  have HBm_9 : Hid (Ob (u8.setCell ⟨w.heap.size + 1, 3, none⟩ (.int .i64 (j : Int))) (w.heap.size + 1) 60 #[.int .i64 ac, .string an, .bool am, .int .i64 (j : Int), .int .i64 0, .int .i64 0, .string ⟨#[]⟩]) := Lib.hid (by have := HBm_8.out.put 3 (.int .i64 (j : Int)); simpa using this)
  go_wp2_with fail
  go_at_call 154
  refine (pvalue_any HR9.out).mono ?_
  rintro x u10 ⟨hx, ho, hr⟩
  obtain rfl : x = .returned (.agg #[.int .i64 vk, .int .i64 vn, .string vs]) := by rw [hx, E4.out] <;> rfl
  rw [E4.out] at hr
  clear hx
  have HO10 := Lib.hid (HO9.out.trans ho)
  have HR10 := Lib.hid hr
  have HBr_10 := Lib.hid (HBr_9.out.keep (ho.heap HBr_9.out.lt (by have := HG.out; omega)))
  have HBm_10 := Lib.hid (HBm_9.out.keep (ho.heap HBm_9.out.lt (by have := HG.out; omega)))
  clear ho hr
  have c11 := HBm_10.out.cell 4
  have f11 := HBm_10.out.frozen 4
  have HO11 := Lib.hid (HO10.out.new (r := w.heap.size + 1) (by have := HG.out; omega) 4 (.int .i64 vk))
  have HR11 := Lib.hid (HR10.out.set (r := w.heap.size + 1) (by have := HG.out; omega) 4 (.int .i64 vk))
  have HBr_11 := Lib.hid (HBr_10.out.keep (Below.heap_setCell u10 ⟨w.heap.size + 1, 4, none⟩ (.int .i64 vk) _ (by show w.heap.size ≠ w.heap.size + 1; have := HG.out; omega)))
  have HBm_11 : Hid (Ob (u10.setCell ⟨w.heap.size + 1, 4, none⟩ (.int .i64 vk)) (w.heap.size + 1) 60 #[.int .i64 ac, .string an, .bool am, .int .i64 (j : Int), .int .i64 vk, .int .i64 0, .string ⟨#[]⟩]) := Lib.hid (by have := HBm_10.out.put 4 (.int .i64 vk); simpa using this)
  have c12 := HBm_11.out.cell 5
  have f12 := HBm_11.out.frozen 5
  have HO12 := Lib.hid (HO11.out.new (r := w.heap.size + 1) (by have := HG.out; omega) 5 (.int .i64 vn))
  have HR12 := Lib.hid (HR11.out.set (r := w.heap.size + 1) (by have := HG.out; omega) 5 (.int .i64 vn))
  have HBr_12 := Lib.hid (HBr_11.out.keep (Below.heap_setCell (u10.setCell ⟨w.heap.size + 1, 4, none⟩ (.int .i64 vk)) ⟨w.heap.size + 1, 5, none⟩ (.int .i64 vn) _ (by show w.heap.size ≠ w.heap.size + 1; have := HG.out; omega)))
  have HBm_12 : Hid (Ob ((u10.setCell ⟨w.heap.size + 1, 4, none⟩ (.int .i64 vk)).setCell ⟨w.heap.size + 1, 5, none⟩ (.int .i64 vn)) (w.heap.size + 1) 60 #[.int .i64 ac, .string an, .bool am, .int .i64 (j : Int), .int .i64 vk, .int .i64 vn, .string ⟨#[]⟩]) := Lib.hid (by have := HBm_11.out.put 5 (.int .i64 vn); simpa using this)
  have c13 := HBm_12.out.cell 6
  have f13 := HBm_12.out.frozen 6
  have HO13 := Lib.hid (HO12.out.new (r := w.heap.size + 1) (by have := HG.out; omega) 6 (.string vs))
  have HR13 := Lib.hid (HR12.out.set (r := w.heap.size + 1) (by have := HG.out; omega) 6 (.string vs))
  have HBr_13 := Lib.hid (HBr_12.out.keep (Below.heap_setCell ((u10.setCell ⟨w.heap.size + 1, 4, none⟩ (.int .i64 vk)).setCell ⟨w.heap.size + 1, 5, none⟩ (.int .i64 vn)) ⟨w.heap.size + 1, 6, none⟩ (.string vs) _ (by show w.heap.size ≠ w.heap.size + 1; have := HG.out; omega)))
  have HBm_13 : Hid (Ob (((u10.setCell ⟨w.heap.size + 1, 4, none⟩ (.int .i64 vk)).setCell ⟨w.heap.size + 1, 5, none⟩ (.int .i64 vn)).setCell ⟨w.heap.size + 1, 6, none⟩ (.string vs)) (w.heap.size + 1) 60 #[.int .i64 ac, .string an, .bool am, .int .i64 (j : Int), .int .i64 vk, .int .i64 vn, .string vs]) := Lib.hid (by have := HBm_12.out.put 6 (.string vs); simpa using this)
  have c14_0 := HBm_13.out.cell 0
  have c14_1 := HBm_13.out.cell 1
  have c14_2 := HBm_13.out.cell 2
  have c14_3 := HBm_13.out.cell 3
  have c14_4 := HBm_13.out.cell 4
  have c14_5 := HBm_13.out.cell 5
  have c14_6 := HBm_13.out.cell 6
  have c15 := HBr_13.out.cell 0
  have f15 := HBr_13.out.frozen 0
  have HO15 := Lib.hid (HO13.out.new (r := w.heap.size) (by have := HG.out; omega) 0 (.int .i64 ac))
  have HR15 := Lib.hid (HR13.out.set (r := w.heap.size) (by have := HG.out; omega) 0 (.int .i64 ac))
  have HBr_15 : Hid (Ob ((((u10.setCell ⟨w.heap.size + 1, 4, none⟩ (.int .i64 vk)).setCell ⟨w.heap.size + 1, 5, none⟩ (.int .i64 vn)).setCell ⟨w.heap.size + 1, 6, none⟩ (.string vs)).setCell ⟨w.heap.size, 0, none⟩ (.int .i64 ac)) (w.heap.size) 60 #[.int .i64 ac, .string ⟨#[]⟩, .bool false, .int .i64 0, .int .i64 0, .int .i64 0, .string ⟨#[]⟩]) := Lib.hid (by have := HBr_13.out.put 0 (.int .i64 ac); simpa using this)
  have HBm_15 := Lib.hid (HBm_13.out.keep (Below.heap_setCell (((u10.setCell ⟨w.heap.size + 1, 4, none⟩ (.int .i64 vk)).setCell ⟨w.heap.size + 1, 5, none⟩ (.int .i64 vn)).setCell ⟨w.heap.size + 1, 6, none⟩ (.string vs)) ⟨w.heap.size, 0, none⟩ (.int .i64 ac) _ (by show w.heap.size + 1 ≠ w.heap.size; have := HG.out; omega)))
  have c16 := HBr_15.out.cell 1
  have f16 := HBr_15.out.frozen 1
  have HO16 := Lib.hid (HO15.out.new (r := w.heap.size) (by have := HG.out; omega) 1 (.string an))
  have HR16 := Lib.hid (HR15.out.set (r := w.heap.size) (by have := HG.out; omega) 1 (.string an))
  have HBr_16 : Hid (Ob (((((u10.setCell ⟨w.heap.size + 1, 4, none⟩ (.int .i64 vk)).setCell ⟨w.heap.size + 1, 5, none⟩ (.int .i64 vn)).setCell ⟨w.heap.size + 1, 6, none⟩ (.string vs)).setCell ⟨w.heap.size, 0, none⟩ (.int .i64 ac)).setCell ⟨w.heap.size, 1, none⟩ (.string an)) (w.heap.size) 60 #[.int .i64 ac, .string an, .bool false, .int .i64 0, .int .i64 0, .int .i64 0, .string ⟨#[]⟩]) := Lib.hid (by have := HBr_15.out.put 1 (.string an); simpa using this)
  have HBm_16 := Lib.hid (HBm_15.out.keep (Below.heap_setCell ((((u10.setCell ⟨w.heap.size + 1, 4, none⟩ (.int .i64 vk)).setCell ⟨w.heap.size + 1, 5, none⟩ (.int .i64 vn)).setCell ⟨w.heap.size + 1, 6, none⟩ (.string vs)).setCell ⟨w.heap.size, 0, none⟩ (.int .i64 ac)) ⟨w.heap.size, 1, none⟩ (.string an) _ (by show w.heap.size + 1 ≠ w.heap.size; have := HG.out; omega)))
  have c17 := HBr_16.out.cell 2
  have f17 := HBr_16.out.frozen 2
  have HO17 := Lib.hid (HO16.out.new (r := w.heap.size) (by have := HG.out; omega) 2 (.bool am))
  have HR17 := Lib.hid (HR16.out.set (r := w.heap.size) (by have := HG.out; omega) 2 (.bool am))
  have HBr_17 : Hid (Ob ((((((u10.setCell ⟨w.heap.size + 1, 4, none⟩ (.int .i64 vk)).setCell ⟨w.heap.size + 1, 5, none⟩ (.int .i64 vn)).setCell ⟨w.heap.size + 1, 6, none⟩ (.string vs)).setCell ⟨w.heap.size, 0, none⟩ (.int .i64 ac)).setCell ⟨w.heap.size, 1, none⟩ (.string an)).setCell ⟨w.heap.size, 2, none⟩ (.bool am)) (w.heap.size) 60 #[.int .i64 ac, .string an, .bool am, .int .i64 0, .int .i64 0, .int .i64 0, .string ⟨#[]⟩]) := Lib.hid (by have := HBr_16.out.put 2 (.bool am); simpa using this)
  have HBm_17 := Lib.hid (HBm_16.out.keep (Below.heap_setCell (((((u10.setCell ⟨w.heap.size + 1, 4, none⟩ (.int .i64 vk)).setCell ⟨w.heap.size + 1, 5, none⟩ (.int .i64 vn)).setCell ⟨w.heap.size + 1, 6, none⟩ (.string vs)).setCell ⟨w.heap.size, 0, none⟩ (.int .i64 ac)).setCell ⟨w.heap.size, 1, none⟩ (.string an)) ⟨w.heap.size, 2, none⟩ (.bool am) _ (by show w.heap.size + 1 ≠ w.heap.size; have := HG.out; omega)))
  have c18 := HBr_17.out.cell 3
  have f18 := HBr_17.out.frozen 3
  have HO18 := Lib.hid (HO17.out.new (r := w.heap.size) (by have := HG.out; omega) 3 (.int .i64 (j : Int)))
  have HR18 := Lib.hid (HR17.out.set (r := w.heap.size) (by have := HG.out; omega) 3 (.int .i64 (j : Int)))
  have HBr_18 : Hid (Ob (((((((u10.setCell ⟨w.heap.size + 1, 4, none⟩ (.int .i64 vk)).setCell ⟨w.heap.size + 1, 5, none⟩ (.int .i64 vn)).setCell ⟨w.heap.size + 1, 6, none⟩ (.string vs)).setCell ⟨w.heap.size, 0, none⟩ (.int .i64 ac)).setCell ⟨w.heap.size, 1, none⟩ (.string an)).setCell ⟨w.heap.size, 2, none⟩ (.bool am)).setCell ⟨w.heap.size, 3, none⟩ (.int .i64 (j : Int))) (w.heap.size) 60 #[.int .i64 ac, .string an, .bool am, .int .i64 (j : Int), .int .i64 0, .int .i64 0, .string ⟨#[]⟩]) := Lib.hid (by have := HBr_17.out.put 3 (.int .i64 (j : Int)); simpa using this)
  have HBm_18 := Lib.hid (HBm_17.out.keep (Below.heap_setCell ((((((u10.setCell ⟨w.heap.size + 1, 4, none⟩ (.int .i64 vk)).setCell ⟨w.heap.size + 1, 5, none⟩ (.int .i64 vn)).setCell ⟨w.heap.size + 1, 6, none⟩ (.string vs)).setCell ⟨w.heap.size, 0, none⟩ (.int .i64 ac)).setCell ⟨w.heap.size, 1, none⟩ (.string an)).setCell ⟨w.heap.size, 2, none⟩ (.bool am)) ⟨w.heap.size, 3, none⟩ (.int .i64 (j : Int)) _ (by show w.heap.size + 1 ≠ w.heap.size; have := HG.out; omega)))
  have c19 := HBr_18.out.cell 4
  have f19 := HBr_18.out.frozen 4
  have HO19 := Lib.hid (HO18.out.new (r := w.heap.size) (by have := HG.out; omega) 4 (.int .i64 vk))
  have HR19 := Lib.hid (HR18.out.set (r := w.heap.size) (by have := HG.out; omega) 4 (.int .i64 vk))
  have HBr_19 : Hid (Ob ((((((((u10.setCell ⟨w.heap.size + 1, 4, none⟩ (.int .i64 vk)).setCell ⟨w.heap.size + 1, 5, none⟩ (.int .i64 vn)).setCell ⟨w.heap.size + 1, 6, none⟩ (.string vs)).setCell ⟨w.heap.size, 0, none⟩ (.int .i64 ac)).setCell ⟨w.heap.size, 1, none⟩ (.string an)).setCell ⟨w.heap.size, 2, none⟩ (.bool am)).setCell ⟨w.heap.size, 3, none⟩ (.int .i64 (j : Int))).setCell ⟨w.heap.size, 4, none⟩ (.int .i64 vk)) (w.heap.size) 60 #[.int .i64 ac, .string an, .bool am, .int .i64 (j : Int), .int .i64 vk, .int .i64 0, .string ⟨#[]⟩]) := Lib.hid (by have := HBr_18.out.put 4 (.int .i64 vk); simpa using this)
  have HBm_19 := Lib.hid (HBm_18.out.keep (Below.heap_setCell (((((((u10.setCell ⟨w.heap.size + 1, 4, none⟩ (.int .i64 vk)).setCell ⟨w.heap.size + 1, 5, none⟩ (.int .i64 vn)).setCell ⟨w.heap.size + 1, 6, none⟩ (.string vs)).setCell ⟨w.heap.size, 0, none⟩ (.int .i64 ac)).setCell ⟨w.heap.size, 1, none⟩ (.string an)).setCell ⟨w.heap.size, 2, none⟩ (.bool am)).setCell ⟨w.heap.size, 3, none⟩ (.int .i64 (j : Int))) ⟨w.heap.size, 4, none⟩ (.int .i64 vk) _ (by show w.heap.size + 1 ≠ w.heap.size; have := HG.out; omega)))
  have c20 := HBr_19.out.cell 5
  have f20 := HBr_19.out.frozen 5
  have HO20 := Lib.hid (HO19.out.new (r := w.heap.size) (by have := HG.out; omega) 5 (.int .i64 vn))
  have HR20 := Lib.hid (HR19.out.set (r := w.heap.size) (by have := HG.out; omega) 5 (.int .i64 vn))
  have HBr_20 : Hid (Ob (((((((((u10.setCell ⟨w.heap.size + 1, 4, none⟩ (.int .i64 vk)).setCell ⟨w.heap.size + 1, 5, none⟩ (.int .i64 vn)).setCell ⟨w.heap.size + 1, 6, none⟩ (.string vs)).setCell ⟨w.heap.size, 0, none⟩ (.int .i64 ac)).setCell ⟨w.heap.size, 1, none⟩ (.string an)).setCell ⟨w.heap.size, 2, none⟩ (.bool am)).setCell ⟨w.heap.size, 3, none⟩ (.int .i64 (j : Int))).setCell ⟨w.heap.size, 4, none⟩ (.int .i64 vk)).setCell ⟨w.heap.size, 5, none⟩ (.int .i64 vn)) (w.heap.size) 60 #[.int .i64 ac, .string an, .bool am, .int .i64 (j : Int), .int .i64 vk, .int .i64 vn, .string ⟨#[]⟩]) := Lib.hid (by have := HBr_19.out.put 5 (.int .i64 vn); simpa using this)
  have HBm_20 := Lib.hid (HBm_19.out.keep (Below.heap_setCell ((((((((u10.setCell ⟨w.heap.size + 1, 4, none⟩ (.int .i64 vk)).setCell ⟨w.heap.size + 1, 5, none⟩ (.int .i64 vn)).setCell ⟨w.heap.size + 1, 6, none⟩ (.string vs)).setCell ⟨w.heap.size, 0, none⟩ (.int .i64 ac)).setCell ⟨w.heap.size, 1, none⟩ (.string an)).setCell ⟨w.heap.size, 2, none⟩ (.bool am)).setCell ⟨w.heap.size, 3, none⟩ (.int .i64 (j : Int))).setCell ⟨w.heap.size, 4, none⟩ (.int .i64 vk)) ⟨w.heap.size, 5, none⟩ (.int .i64 vn) _ (by show w.heap.size + 1 ≠ w.heap.size; have := HG.out; omega)))
  have c21 := HBr_20.out.cell 6
  have f21 := HBr_20.out.frozen 6
  have HO21 := Lib.hid (HO20.out.new (r := w.heap.size) (by have := HG.out; omega) 6 (.string vs))
  have HR21 := Lib.hid (HR20.out.set (r := w.heap.size) (by have := HG.out; omega) 6 (.string vs))
  have HBr_21 : Hid (Ob ((((((((((u10.setCell ⟨w.heap.size + 1, 4, none⟩ (.int .i64 vk)).setCell ⟨w.heap.size + 1, 5, none⟩ (.int .i64 vn)).setCell ⟨w.heap.size + 1, 6, none⟩ (.string vs)).setCell ⟨w.heap.size, 0, none⟩ (.int .i64 ac)).setCell ⟨w.heap.size, 1, none⟩ (.string an)).setCell ⟨w.heap.size, 2, none⟩ (.bool am)).setCell ⟨w.heap.size, 3, none⟩ (.int .i64 (j : Int))).setCell ⟨w.heap.size, 4, none⟩ (.int .i64 vk)).setCell ⟨w.heap.size, 5, none⟩ (.int .i64 vn)).setCell ⟨w.heap.size, 6, none⟩ (.string vs)) (w.heap.size) 60 #[.int .i64 ac, .string an, .bool am, .int .i64 (j : Int), .int .i64 vk, .int .i64 vn, .string vs]) := Lib.hid (by have := HBr_20.out.put 6 (.string vs); simpa using this)
  have HBm_21 := Lib.hid (HBm_20.out.keep (Below.heap_setCell (((((((((u10.setCell ⟨w.heap.size + 1, 4, none⟩ (.int .i64 vk)).setCell ⟨w.heap.size + 1, 5, none⟩ (.int .i64 vn)).setCell ⟨w.heap.size + 1, 6, none⟩ (.string vs)).setCell ⟨w.heap.size, 0, none⟩ (.int .i64 ac)).setCell ⟨w.heap.size, 1, none⟩ (.string an)).setCell ⟨w.heap.size, 2, none⟩ (.bool am)).setCell ⟨w.heap.size, 3, none⟩ (.int .i64 (j : Int))).setCell ⟨w.heap.size, 4, none⟩ (.int .i64 vk)).setCell ⟨w.heap.size, 5, none⟩ (.int .i64 vn)) ⟨w.heap.size, 6, none⟩ (.string vs) _ (by show w.heap.size + 1 ≠ w.heap.size; have := HG.out; omega)))
  go_wp2_with fail
  refine bodyPost_ret (match_ret rfl rfl HBr_21.out rfl) rfl ?_
  exact ⟨rfl, HO21.out, HR21.out⟩
set_option maxHeartbeats 3200000 in
theorem pleaf_any (h : Rd L w g s) : Calls Tryz.prog 156 #[.pointer (some ⟨g, 0, none⟩)] w fun x w' => x = .returned (leafR s).1.val ∧ Only g w w' ∧ Rd L w' g (leafR s).2 := by
  obtain ⟨i, s1, e1⟩ : ∃ i t, catR s = (i, t) := ⟨_, _, rfl⟩
  by_cases hc : 0 < i
  · obtain ⟨⟨ac, an, am⟩, s2, e2⟩ : ∃ a t, attrR (i : Int) s1 = (a, t) := ⟨_, _, rfl⟩
    have HE : Hid (leafR s = (⟨2, zeroV, ⟨ac, an, am⟩⟩, s2)) := by show _ = _; unfold leafR; simp only [e1, e2, if_pos hc]
    rw [HE.out]
    have E1 := Lib.hid e1
    have E2 := Lib.hid e2
    have HG : Hid (g < w.heap.size) := h.lt
    have HBr_1 : Hid (Ob (w.alloc (.cells #[.int .i64 0, .int .i64 0, .int .i64 0, .string ⟨#[]⟩, .int .i64 0, .string ⟨#[]⟩, .bool false] 53)) (w.heap.size) 53 #[.int .i64 0, .int .i64 0, .int .i64 0, .string ⟨#[]⟩, .int .i64 0, .string ⟨#[]⟩, .bool false]) := Lib.hid (by have := Ob.made w 53 #[.int .i64 0, .int .i64 0, .int .i64 0, .string ⟨#[]⟩, .int .i64 0, .string ⟨#[]⟩, .bool false]; simpa using this)
    have HR0 := Lib.hid (h.alloc (.cells #[.int .i64 0, .int .i64 0, .int .i64 0, .string ⟨#[]⟩, .int .i64 0, .string ⟨#[]⟩, .bool false] 53))
    have HO0 := Lib.hid ((Only.refl (r := g) (w := w)).al (.cells #[.int .i64 0, .int .i64 0, .int .i64 0, .string ⟨#[]⟩, .int .i64 0, .string ⟨#[]⟩, .bool false] 53))
    clear h e1 e2
    go_enter Tryz.func156, Tryz.ntmps156
    go_wp2_with fail
    go_at_call 153
    refine (pcat_any HR0.out).mono ?_
    rintro x u2 ⟨hx, ho, hr⟩
    obtain rfl : x = .returned (.int .i64 (i : Int)) := by rw [hx, E1.out] <;> rfl
    rw [E1.out] at hr
    clear hx
    have HO2 := Lib.hid (HO0.out.trans ho)
    have HR2 := Lib.hid hr
    have HBr_2 := Lib.hid (HBr_1.out.keep (ho.heap HBr_1.out.lt (by have := HG.out; omega)))
    clear ho hr
    go_wp2_with fail
    go_at_call 152
    refine (pattr_any HR2.out (i : Int)).mono ?_
    rintro x u3 ⟨hx, ho, hr⟩
    obtain rfl : x = .returned (.agg #[.int .i64 ac, .string an, .bool am]) := by rw [hx, E2.out] <;> rfl
    rw [E2.out] at hr
    clear hx
    have HO3 := Lib.hid (HO2.out.trans ho)
    have HR3 := Lib.hid hr
    have HBr_3 := Lib.hid (HBr_2.out.keep (ho.heap HBr_2.out.lt (by have := HG.out; omega)))
    clear ho hr
    have c4 := HBr_3.out.cell 0
    have f4 := HBr_3.out.frozen 0
    have HO4 := Lib.hid (HO3.out.new (r := w.heap.size) (by have := HG.out; omega) 0 (.int .i64 2))
    have HR4 := Lib.hid (HR3.out.set (r := w.heap.size) (by have := HG.out; omega) 0 (.int .i64 2))
    have HBr_4 : Hid (Ob (u3.setCell ⟨w.heap.size, 0, none⟩ (.int .i64 2)) (w.heap.size) 53 #[.int .i64 2, .int .i64 0, .int .i64 0, .string ⟨#[]⟩, .int .i64 0, .string ⟨#[]⟩, .bool false]) := Lib.hid (by have := HBr_3.out.put 0 (.int .i64 2); simpa using this)
    have c5 := HBr_4.out.cell 1
    have f5 := HBr_4.out.frozen 1
    have HO5 := Lib.hid (HO4.out.new (r := w.heap.size) (by have := HG.out; omega) 1 (.int .i64 0))
    have HR5 := Lib.hid (HR4.out.set (r := w.heap.size) (by have := HG.out; omega) 1 (.int .i64 0))
    have HBr_5 : Hid (Ob ((u3.setCell ⟨w.heap.size, 0, none⟩ (.int .i64 2)).setCell ⟨w.heap.size, 1, none⟩ (.int .i64 0)) (w.heap.size) 53 #[.int .i64 2, .int .i64 0, .int .i64 0, .string ⟨#[]⟩, .int .i64 0, .string ⟨#[]⟩, .bool false]) := Lib.hid (by have := HBr_4.out.put 1 (.int .i64 0); simpa using this)
    have c6 := HBr_5.out.cell 2
    have f6 := HBr_5.out.frozen 2
    have HO6 := Lib.hid (HO5.out.new (r := w.heap.size) (by have := HG.out; omega) 2 (.int .i64 0))
    have HR6 := Lib.hid (HR5.out.set (r := w.heap.size) (by have := HG.out; omega) 2 (.int .i64 0))
    have HBr_6 : Hid (Ob (((u3.setCell ⟨w.heap.size, 0, none⟩ (.int .i64 2)).setCell ⟨w.heap.size, 1, none⟩ (.int .i64 0)).setCell ⟨w.heap.size, 2, none⟩ (.int .i64 0)) (w.heap.size) 53 #[.int .i64 2, .int .i64 0, .int .i64 0, .string ⟨#[]⟩, .int .i64 0, .string ⟨#[]⟩, .bool false]) := Lib.hid (by have := HBr_5.out.put 2 (.int .i64 0); simpa using this)
    have c7 := HBr_6.out.cell 3
    have f7 := HBr_6.out.frozen 3
    have HO7 := Lib.hid (HO6.out.new (r := w.heap.size) (by have := HG.out; omega) 3 (.string ⟨#[]⟩))
    have HR7 := Lib.hid (HR6.out.set (r := w.heap.size) (by have := HG.out; omega) 3 (.string ⟨#[]⟩))
    have HBr_7 : Hid (Ob ((((u3.setCell ⟨w.heap.size, 0, none⟩ (.int .i64 2)).setCell ⟨w.heap.size, 1, none⟩ (.int .i64 0)).setCell ⟨w.heap.size, 2, none⟩ (.int .i64 0)).setCell ⟨w.heap.size, 3, none⟩ (.string ⟨#[]⟩)) (w.heap.size) 53 #[.int .i64 2, .int .i64 0, .int .i64 0, .string ⟨#[]⟩, .int .i64 0, .string ⟨#[]⟩, .bool false]) := Lib.hid (by have := HBr_6.out.put 3 (.string ⟨#[]⟩); simpa using this)
    have c8 := HBr_7.out.cell 4
    have f8 := HBr_7.out.frozen 4
    have HO8 := Lib.hid (HO7.out.new (r := w.heap.size) (by have := HG.out; omega) 4 (.int .i64 ac))
    have HR8 := Lib.hid (HR7.out.set (r := w.heap.size) (by have := HG.out; omega) 4 (.int .i64 ac))
    have HBr_8 : Hid (Ob (((((u3.setCell ⟨w.heap.size, 0, none⟩ (.int .i64 2)).setCell ⟨w.heap.size, 1, none⟩ (.int .i64 0)).setCell ⟨w.heap.size, 2, none⟩ (.int .i64 0)).setCell ⟨w.heap.size, 3, none⟩ (.string ⟨#[]⟩)).setCell ⟨w.heap.size, 4, none⟩ (.int .i64 ac)) (w.heap.size) 53 #[.int .i64 2, .int .i64 0, .int .i64 0, .string ⟨#[]⟩, .int .i64 ac, .string ⟨#[]⟩, .bool false]) := Lib.hid (by have := HBr_7.out.put 4 (.int .i64 ac); simpa using this)
    have c9 := HBr_8.out.cell 5
    have f9 := HBr_8.out.frozen 5
    have HO9 := Lib.hid (HO8.out.new (r := w.heap.size) (by have := HG.out; omega) 5 (.string an))
    have HR9 := Lib.hid (HR8.out.set (r := w.heap.size) (by have := HG.out; omega) 5 (.string an))
    have HBr_9 : Hid (Ob ((((((u3.setCell ⟨w.heap.size, 0, none⟩ (.int .i64 2)).setCell ⟨w.heap.size, 1, none⟩ (.int .i64 0)).setCell ⟨w.heap.size, 2, none⟩ (.int .i64 0)).setCell ⟨w.heap.size, 3, none⟩ (.string ⟨#[]⟩)).setCell ⟨w.heap.size, 4, none⟩ (.int .i64 ac)).setCell ⟨w.heap.size, 5, none⟩ (.string an)) (w.heap.size) 53 #[.int .i64 2, .int .i64 0, .int .i64 0, .string ⟨#[]⟩, .int .i64 ac, .string an, .bool false]) := Lib.hid (by have := HBr_8.out.put 5 (.string an); simpa using this)
    have c10 := HBr_9.out.cell 6
    have f10 := HBr_9.out.frozen 6
    have HO10 := Lib.hid (HO9.out.new (r := w.heap.size) (by have := HG.out; omega) 6 (.bool am))
    have HR10 := Lib.hid (HR9.out.set (r := w.heap.size) (by have := HG.out; omega) 6 (.bool am))
    have HBr_10 : Hid (Ob (((((((u3.setCell ⟨w.heap.size, 0, none⟩ (.int .i64 2)).setCell ⟨w.heap.size, 1, none⟩ (.int .i64 0)).setCell ⟨w.heap.size, 2, none⟩ (.int .i64 0)).setCell ⟨w.heap.size, 3, none⟩ (.string ⟨#[]⟩)).setCell ⟨w.heap.size, 4, none⟩ (.int .i64 ac)).setCell ⟨w.heap.size, 5, none⟩ (.string an)).setCell ⟨w.heap.size, 6, none⟩ (.bool am)) (w.heap.size) 53 #[.int .i64 2, .int .i64 0, .int .i64 0, .string ⟨#[]⟩, .int .i64 ac, .string an, .bool am]) := Lib.hid (by have := HBr_9.out.put 6 (.bool am); simpa using this)
    go_wp2_with fail
    refine bodyPost_ret (node_ret rfl rfl HBr_10.out rfl) rfl ?_
    exact ⟨rfl, HO10.out, HR10.out⟩
  · obtain ⟨⟨vk, vn, vs⟩, s2, e2⟩ : ∃ a t, valueR s1 = (a, t) := ⟨_, _, rfl⟩
    have HE : Hid (leafR s = (⟨1, ⟨vk, vn, vs⟩, zeroA⟩, s2)) := by show _ = _; unfold leafR; simp only [e1, e2, if_neg hc]
    obtain rfl : i = 0 := by omega
    rw [HE.out]
    have E1 := Lib.hid e1
    have E2 := Lib.hid e2
    have HG : Hid (g < w.heap.size) := h.lt
    have HBr_1 : Hid (Ob (w.alloc (.cells #[.int .i64 0, .int .i64 0, .int .i64 0, .string ⟨#[]⟩, .int .i64 0, .string ⟨#[]⟩, .bool false] 53)) (w.heap.size) 53 #[.int .i64 0, .int .i64 0, .int .i64 0, .string ⟨#[]⟩, .int .i64 0, .string ⟨#[]⟩, .bool false]) := Lib.hid (by have := Ob.made w 53 #[.int .i64 0, .int .i64 0, .int .i64 0, .string ⟨#[]⟩, .int .i64 0, .string ⟨#[]⟩, .bool false]; simpa using this)
    have HR0 := Lib.hid (h.alloc (.cells #[.int .i64 0, .int .i64 0, .int .i64 0, .string ⟨#[]⟩, .int .i64 0, .string ⟨#[]⟩, .bool false] 53))
    have HO0 := Lib.hid ((Only.refl (r := g) (w := w)).al (.cells #[.int .i64 0, .int .i64 0, .int .i64 0, .string ⟨#[]⟩, .int .i64 0, .string ⟨#[]⟩, .bool false] 53))
    clear h e1 e2
    go_enter Tryz.func156, Tryz.ntmps156
    go_wp2_with fail
    go_at_call 153
    refine (pcat_any HR0.out).mono ?_
    rintro x u2 ⟨hx, ho, hr⟩
    obtain rfl : x = .returned (.int .i64 ((0 : Nat) : Int)) := by rw [hx, E1.out] <;> rfl
    rw [E1.out] at hr
    clear hx
    have HO2 := Lib.hid (HO0.out.trans ho)
    have HR2 := Lib.hid hr
    have HBr_2 := Lib.hid (HBr_1.out.keep (ho.heap HBr_1.out.lt (by have := HG.out; omega)))
    clear ho hr
    go_wp2_with fail
    go_at_call 154
    refine (pvalue_any HR2.out).mono ?_
    rintro x u3 ⟨hx, ho, hr⟩
    obtain rfl : x = .returned (.agg #[.int .i64 vk, .int .i64 vn, .string vs]) := by rw [hx, E2.out] <;> rfl
    rw [E2.out] at hr
    clear hx
    have HO3 := Lib.hid (HO2.out.trans ho)
    have HR3 := Lib.hid hr
    have HBr_3 := Lib.hid (HBr_2.out.keep (ho.heap HBr_2.out.lt (by have := HG.out; omega)))
    clear ho hr
    have c4 := HBr_3.out.cell 0
    have f4 := HBr_3.out.frozen 0
    have HO4 := Lib.hid (HO3.out.new (r := w.heap.size) (by have := HG.out; omega) 0 (.int .i64 1))
    have HR4 := Lib.hid (HR3.out.set (r := w.heap.size) (by have := HG.out; omega) 0 (.int .i64 1))
    have HBr_4 : Hid (Ob (u3.setCell ⟨w.heap.size, 0, none⟩ (.int .i64 1)) (w.heap.size) 53 #[.int .i64 1, .int .i64 0, .int .i64 0, .string ⟨#[]⟩, .int .i64 0, .string ⟨#[]⟩, .bool false]) := Lib.hid (by have := HBr_3.out.put 0 (.int .i64 1); simpa using this)
    have c5 := HBr_4.out.cell 1
    have f5 := HBr_4.out.frozen 1
    have HO5 := Lib.hid (HO4.out.new (r := w.heap.size) (by have := HG.out; omega) 1 (.int .i64 vk))
    have HR5 := Lib.hid (HR4.out.set (r := w.heap.size) (by have := HG.out; omega) 1 (.int .i64 vk))
    have HBr_5 : Hid (Ob ((u3.setCell ⟨w.heap.size, 0, none⟩ (.int .i64 1)).setCell ⟨w.heap.size, 1, none⟩ (.int .i64 vk)) (w.heap.size) 53 #[.int .i64 1, .int .i64 vk, .int .i64 0, .string ⟨#[]⟩, .int .i64 0, .string ⟨#[]⟩, .bool false]) := Lib.hid (by have := HBr_4.out.put 1 (.int .i64 vk); simpa using this)
    have c6 := HBr_5.out.cell 2
    have f6 := HBr_5.out.frozen 2
    have HO6 := Lib.hid (HO5.out.new (r := w.heap.size) (by have := HG.out; omega) 2 (.int .i64 vn))
    have HR6 := Lib.hid (HR5.out.set (r := w.heap.size) (by have := HG.out; omega) 2 (.int .i64 vn))
    have HBr_6 : Hid (Ob (((u3.setCell ⟨w.heap.size, 0, none⟩ (.int .i64 1)).setCell ⟨w.heap.size, 1, none⟩ (.int .i64 vk)).setCell ⟨w.heap.size, 2, none⟩ (.int .i64 vn)) (w.heap.size) 53 #[.int .i64 1, .int .i64 vk, .int .i64 vn, .string ⟨#[]⟩, .int .i64 0, .string ⟨#[]⟩, .bool false]) := Lib.hid (by have := HBr_5.out.put 2 (.int .i64 vn); simpa using this)
    have c7 := HBr_6.out.cell 3
    have f7 := HBr_6.out.frozen 3
    have HO7 := Lib.hid (HO6.out.new (r := w.heap.size) (by have := HG.out; omega) 3 (.string vs))
    have HR7 := Lib.hid (HR6.out.set (r := w.heap.size) (by have := HG.out; omega) 3 (.string vs))
    have HBr_7 : Hid (Ob ((((u3.setCell ⟨w.heap.size, 0, none⟩ (.int .i64 1)).setCell ⟨w.heap.size, 1, none⟩ (.int .i64 vk)).setCell ⟨w.heap.size, 2, none⟩ (.int .i64 vn)).setCell ⟨w.heap.size, 3, none⟩ (.string vs)) (w.heap.size) 53 #[.int .i64 1, .int .i64 vk, .int .i64 vn, .string vs, .int .i64 0, .string ⟨#[]⟩, .bool false]) := Lib.hid (by have := HBr_6.out.put 3 (.string vs); simpa using this)
    have c8 := HBr_7.out.cell 4
    have f8 := HBr_7.out.frozen 4
    have HO8 := Lib.hid (HO7.out.new (r := w.heap.size) (by have := HG.out; omega) 4 (.int .i64 0))
    have HR8 := Lib.hid (HR7.out.set (r := w.heap.size) (by have := HG.out; omega) 4 (.int .i64 0))
    have HBr_8 : Hid (Ob (((((u3.setCell ⟨w.heap.size, 0, none⟩ (.int .i64 1)).setCell ⟨w.heap.size, 1, none⟩ (.int .i64 vk)).setCell ⟨w.heap.size, 2, none⟩ (.int .i64 vn)).setCell ⟨w.heap.size, 3, none⟩ (.string vs)).setCell ⟨w.heap.size, 4, none⟩ (.int .i64 0)) (w.heap.size) 53 #[.int .i64 1, .int .i64 vk, .int .i64 vn, .string vs, .int .i64 0, .string ⟨#[]⟩, .bool false]) := Lib.hid (by have := HBr_7.out.put 4 (.int .i64 0); simpa using this)
    have c9 := HBr_8.out.cell 5
    have f9 := HBr_8.out.frozen 5
    have HO9 := Lib.hid (HO8.out.new (r := w.heap.size) (by have := HG.out; omega) 5 (.string ⟨#[]⟩))
    have HR9 := Lib.hid (HR8.out.set (r := w.heap.size) (by have := HG.out; omega) 5 (.string ⟨#[]⟩))
    have HBr_9 : Hid (Ob ((((((u3.setCell ⟨w.heap.size, 0, none⟩ (.int .i64 1)).setCell ⟨w.heap.size, 1, none⟩ (.int .i64 vk)).setCell ⟨w.heap.size, 2, none⟩ (.int .i64 vn)).setCell ⟨w.heap.size, 3, none⟩ (.string vs)).setCell ⟨w.heap.size, 4, none⟩ (.int .i64 0)).setCell ⟨w.heap.size, 5, none⟩ (.string ⟨#[]⟩)) (w.heap.size) 53 #[.int .i64 1, .int .i64 vk, .int .i64 vn, .string vs, .int .i64 0, .string ⟨#[]⟩, .bool false]) := Lib.hid (by have := HBr_8.out.put 5 (.string ⟨#[]⟩); simpa using this)
    have c10 := HBr_9.out.cell 6
    have f10 := HBr_9.out.frozen 6
    have HO10 := Lib.hid (HO9.out.new (r := w.heap.size) (by have := HG.out; omega) 6 (.bool false))
    have HR10 := Lib.hid (HR9.out.set (r := w.heap.size) (by have := HG.out; omega) 6 (.bool false))
    have HBr_10 : Hid (Ob (((((((u3.setCell ⟨w.heap.size, 0, none⟩ (.int .i64 1)).setCell ⟨w.heap.size, 1, none⟩ (.int .i64 vk)).setCell ⟨w.heap.size, 2, none⟩ (.int .i64 vn)).setCell ⟨w.heap.size, 3, none⟩ (.string vs)).setCell ⟨w.heap.size, 4, none⟩ (.int .i64 0)).setCell ⟨w.heap.size, 5, none⟩ (.string ⟨#[]⟩)).setCell ⟨w.heap.size, 6, none⟩ (.bool false)) (w.heap.size) 53 #[.int .i64 1, .int .i64 vk, .int .i64 vn, .string vs, .int .i64 0, .string ⟨#[]⟩, .bool false]) := Lib.hid (by have := HBr_9.out.put 6 (.bool false); simpa using this)
    go_wp2_with fail
    refine bodyPost_ret (node_ret rfl rfl HBr_10.out rfl) rfl ?_
    exact ⟨rfl, HO10.out, HR10.out⟩
end
end Go.Proofs.YtdbnaaddocahpaaGreatDoor
/- Rows of the call's own that grow by one, whose elements lead to memory apart from the row itself. -/
namespace Go.Proofs.YtdbnaaddocahpaaGreatDoor
set_option linter.unusedVariables false
open Go.RowKit

/-- The blocks from base on but for the row's own. -/
def Nb (base : Nat) (v : Value) (b : Nat) : Prop := base ≤ b ∧ some b ≠ v.ownBlock
/-- Elements that are kept where the memory that they lead to is. -/
def Keeps {α : Type} (P : World → (Nat → Prop) → List Value → α → Prop) : Prop :=
  ∀ (w w' : World) (R R' : Nat → Prop) vs x, P w R vs x → Kept R w w' → (∀ b, R b → b < w.heap.size → R' b) → P w' R' vs x
def Gr {α : Type} (k : Nat) (P : World → (Nat → Prop) → List Value → α → Prop) (w : World) (base : Nat) (E : TypeId) (A : Option Addr) (n c : Nat) (l : List α) : Prop :=
  Ow k (P w (Nb base (.slice A n c))) w base E A n c l ∧ base ≤ w.heap.size

section
variable {α : Type} {k : Nat} {P : World → (Nat → Prop) → List Value → α → Prop} {w w' : World} {base : Nat} {E : TypeId} {A : Option Addr} {n c : Nat} {l : List α}
theorem Ow.lt {P : List Value → α → Prop} (h : Ow k P w base E A n c l) : ∀ b, (Value.slice A n c).ownBlock = some b → base ≤ b ∧ b < w.heap.size := by
  obtain ⟨raw, h1, _⟩ := h
  exact h1.lt
theorem Gr.nil (w : World) (base : Nat) (hb : base ≤ w.heap.size) : Gr k P w base E none 0 0 [] := ⟨Ow.nil _ _ _ _ _, hb⟩
theorem Gr.len (h : Gr k P w base E A n c l) : l.length = n := h.1.len
theorem Gr.below (hP : Keeps P) (h : Gr k P w base E A n c l) (hb : Below w.heap.size w w') : Gr k P w' base E A n c l :=
  ⟨(h.1.mapP (fun vs x _ hp => hP _ _ _ _ vs x hp (Kept.all hb _) (fun _ h _ => h))).below hb, Nat.le_trans h.2 hb.size⟩
/-- It reads as its list; row and elements lie from base on. -/
theorem Gr.rw (hP : Keeps P) (h : Gr k P w base E A n c l) (hbig : n ≤ 140737488351232) : Rw k (P w (fun b => base ≤ b)) w (fun b => base ≤ b) A n c l :=
  (h.1.mapP (fun vs x _ hp => hP _ _ _ (fun b => base ≤ b) vs x hp (Kept.refl _ _) (fun _ h _ => h.1))).rw hbig (fun _ _ h => h)
/-- One more, laid behind as a literal. -/
theorem Gr.push {Pg : Program} {T : TypeId} {i : TypeInfo} {z : Value} {by_ : Nat} (ht : Pg.underlying T = some (.slice E)) (hi : Pg.info? E = some i) (hz : i.zero = some z) (hs : i.size = k) (hb : i.bytes = by_) (hzs : z.cells.size = k) (hk : 0 < k) (hby : by_ ≤ 1000)
    {ty : Nat} {vs : List Value} {x : α} (hP : Keeps P) (h : Gr k P w base E A n c l) (hx : P w (Nb base (.slice A n c)) vs x) (hl : vs.length = k) (h1 : ∀ w R vs (x : α), P w R vs x → ∀ v ∈ vs, v.oneCell' = true) (hn : n < 1000000) :
    ∃ A' c' w', (Builtin.append_ #[T, T] ty #[.slice A n c, .slice (some ⟨w.heap.size, 0, none⟩) 1 1]).run Pg (w.alloc (.cells vs.toArray E)) = .ok (.slice A' (n + 1) c') w' ∧ Gr k P w' base E A' (n + 1) c' (l ++ [x]) ∧ Below base w w' := by
  have hbase := h.2
  have a1 : Below w.heap.size w (w.alloc (.cells vs.toArray E)) := (Below.refl _ _).alloc (Nat.le_refl _) _
  have h' := Gr.below hP h a1
  have hlit : Rw k (P (w.alloc (.cells vs.toArray E)) (Nb base (.slice A n c))) (w.alloc (.cells vs.toArray E)) (fun _ => True) (some ⟨w.heap.size, 0, none⟩) 1 1 [x] := by
    have := Rw.lit (P := P (w.alloc (.cells vs.toArray E)) (Nb base (.slice A n c))) (R := fun _ => True) w E (fun _ => vs) [x] (n := 1) rfl (by omega) trivial (fun _ _ => hl) (fun y hy => by simp at hy; subst hy; exact hP _ _ _ _ _ _ hx (Kept.all a1 _) (fun _ h _ => h))
    simpa using this
  obtain ⟨A', c', w', hrun, hown, hbel, hg, hob⟩ := Ow.app (ty := ty) ht hi hz hs hb hzs hk hby h'.1 hlit (h1 _ _) (by omega) h'.2
  refine ⟨A', c', w', hrun, ⟨hown.mapP fun vs x _ hp => hP _ _ _ _ vs x hp ⟨hg.size, fun b hR hlt => hg.block b hlt hR.2⟩ (fun b hR hlt => ⟨hR.1, ?_⟩), Nat.le_trans h'.2 hbel.size⟩, (a1.mono hbase).trans hbel⟩
  rcases hob with e | e
  · rw [e]; exact hR.2
  · rw [e]
    intro he
    injection he with he
    omega
end
theorem keeps_alp : Keeps AlP := fun _ _ _ _ _ _ h hk hR => h.keep hk hR
theorem keeps_anp : Keeps AnP := fun _ _ _ _ _ _ h hk hR => h.keep hk hR
theorem keeps_rul : Keeps RulAt := fun _ _ _ _ _ _ h hk hR => h.keep hk hR
theorem keeps_pol (d : Nat) : Keeps (fun w R => PolAt w R d) := fun _ _ _ _ _ _ h hk hR => PolAt.keep hk hR h
theorem matinfo : (Tryz.prog.info? 60).map (fun i => (i.zero, i.size, i.bytes)) = some (some (.agg #[.int .i64 0, .string ⟨#[]⟩, .bool false, .int .i64 0, .int .i64 0, .int .i64 0, .string ⟨#[]⟩]), 7, 72) := by kernel_rfl
/-- append([]Match{}, a...). -/
theorem copy_mats {w : World} {R : Nat → Prop} {A0 : Option Addr} {p0 c0 : Nat} {L0 : List Mat} (h0 : Ms w R A0 p0 c0 L0) (h : p0 ≤ 1000000) :
    ∃ A5 c5 w5, (Builtin.append_ #[61, 61] 61 #[.slice (some ⟨w.heap.size, 0, none⟩) 0 0, .slice A0 p0 c0]).run Tryz.prog (w.alloc (.cells #[] 60)) = .ok (.slice A5 p0 c5) w5 ∧ Below w.heap.size w w5 ∧ Ms w5 (fun b => w.heap.size ≤ b) A5 p0 c5 L0 := by
  have e1 : Below w.heap.size w (w.alloc (.cells #[] 60)) := (Below.refl _ _).alloc (Nat.le_refl _) _
  obtain ⟨i, hi, hz, hs, hb⟩ := info_of matinfo
  obtain ⟨A5, c5, w5, r5, o5, b5, _, _⟩ := append_rows (ty := 61) (c2 := c0) (m := p0) Tryz.underlying61 hi hz hs hb rfl (by omega) (by omega) (own_none w 60 7) (Ms.fl (h0.keep (Kept.all e1 R) (fun _ h _ => h))) (by omega) e1.size
  rw [Nat.zero_add] at r5 o5
  refine ⟨A5, c5, w5, r5, e1.trans b5, ?_⟩
  exact Rw.flat_own o5 (by omega) (Rw.len h0) (fun _ => rfl) (Rw.all h0) (fun _ _ h => h)
theorem copy_duts {w : World} {R : Nat → Prop} {A0 : Option Addr} {p0 c0 : Nat} {L0 : List Dut} (h0 : Dus w R A0 p0 c0 L0) (h : p0 ≤ 1000000) :
    ∃ A5 c5 w5, (Builtin.append_ #[26, 26] 26 #[.slice (some ⟨w.heap.size, 0, none⟩) 0 0, .slice A0 p0 c0]).run Tryz.prog (w.alloc (.cells #[] 64)) = .ok (.slice A5 p0 c5) w5 ∧ Below w.heap.size w w5 ∧ Dus w5 (fun b => w.heap.size ≤ b) A5 p0 c5 L0 := by
  have e1 : Below w.heap.size w (w.alloc (.cells #[] 64)) := (Below.refl _ _).alloc (Nat.le_refl _) _
  obtain ⟨A5, c5, w5, r5, o5, b5, _, _⟩ := append_duts (ty := 26) (xs := []) (own_none w 64 3) (h0.keep (Kept.all e1 R) (fun _ h _ => h)) (by omega) e1.size
  rw [Nat.zero_add] at r5 o5
  refine ⟨A5, c5, w5, r5, e1.trans b5, ?_⟩
  exact Rw.flat_own o5 (by omega) (Rw.len h0) (fun _ => rfl) (Rw.all h0) (fun _ _ h => h)
theorem copy_nods {w : World} {R : Nat → Prop} {A0 : Option Addr} {p0 c0 : Nat} {L0 : List Nod} (h0 : Nds w R A0 p0 c0 L0) (h : p0 ≤ 1000000) :
    ∃ A5 c5 w5, (Builtin.append_ #[29, 29] 29 #[.slice (some ⟨w.heap.size, 0, none⟩) 0 0, .slice A0 p0 c0]).run Tryz.prog (w.alloc (.cells #[] 53)) = .ok (.slice A5 p0 c5) w5 ∧ Below w.heap.size w w5 ∧ Nds w5 (fun b => w.heap.size ≤ b) A5 p0 c5 L0 := by
  have e1 : Below w.heap.size w (w.alloc (.cells #[] 53)) := (Below.refl _ _).alloc (Nat.le_refl _) _
  obtain ⟨A5, c5, w5, r5, o5, b5, _, _⟩ := append_nods (ty := 29) (xs := []) (own_none w 53 7) (h0.keep (Kept.all e1 R) (fun _ h _ => h)) (by omega) e1.size
  rw [Nat.zero_add] at r5 o5
  refine ⟨A5, c5, w5, r5, e1.trans b5, ?_⟩
  exact Rw.flat_own o5 (by omega) (Rw.len h0) (fun _ => rfl) (Rw.all h0) (fun _ _ h => h)
/-- One more AllOf, one more AnyOf. -/
theorem push_all {w : World} {base n c : Nat} {A : Option Addr} {l : List (List Mat)} {A1 : Option Addr} {n1 c1 : Nat} {x : List Mat} (h : Gr 1 AlP w base 61 A n c l) (hx : Ms w (Nb base (.slice A n c)) A1 n1 c1 x) (hn : n < 1000000) :
    ∃ A' c' w', (Builtin.append_ #[62, 62] 62 #[.slice A n c, .slice (some ⟨w.heap.size, 0, none⟩) 1 1]).run Tryz.prog (w.alloc (.cells #[.slice A1 n1 c1] 61)) = .ok (.slice A' (n + 1) c') w' ∧ Gr 1 AlP w' base 61 A' (n + 1) c' (l ++ [x]) ∧ Below base w w' := by
  obtain ⟨i, hi, hz, hs, hb⟩ := info_of s0info
  exact Gr.push (vs := [.slice A1 n1 c1]) (x := x) Tryz.underlying62 hi hz hs hb rfl (by omega) (by omega) keeps_alp h ⟨A1, n1, c1, rfl, hx⟩ rfl (fun _ _ _ _ => AlP.one _ _) hn
theorem push_any {w : World} {base n c : Nat} {A : Option Addr} {l : Tgt} {A1 : Option Addr} {n1 c1 : Nat} {x : List (List Mat)} (h : Gr 1 AnP w base 62 A n c l) (hx : Als w (Nb base (.slice A n c)) A1 n1 c1 x) (hn : n < 1000000) :
    ∃ A' c' w', (Builtin.append_ #[23, 23] 23 #[.slice A n c, .slice (some ⟨w.heap.size, 0, none⟩) 1 1]).run Tryz.prog (w.alloc (.cells #[.slice A1 n1 c1] 62)) = .ok (.slice A' (n + 1) c') w' ∧ Gr 1 AnP w' base 62 A' (n + 1) c' (l ++ [x]) ∧ Below base w w' := by
  obtain ⟨i, hi, hz, hs, hb⟩ := info_of s1info
  exact Gr.push (vs := [.slice A1 n1 c1]) (x := x) Tryz.underlying23 hi hz hs hb rfl (by omega) (by omega) keeps_anp h ⟨A1, n1, c1, rfl, hx⟩ rfl (fun _ _ _ _ => AnP.one _ _) hn
/-- What is new lies apart from a row that is older. -/
theorem Gr.apart {α : Type} {k : Nat} {P : World → (Nat → Prop) → List Value → α → Prop} {w : World} {base : Nat} {E : TypeId} {A : Option Addr} {n c : Nat} {l : List α} (h : Gr k P w base E A n c l) : ∀ b, w.heap.size ≤ b → Nb base (.slice A n c) b := fun b hb => by
  refine ⟨Nat.le_trans h.2 hb, fun e => ?_⟩
  have := (h.1.lt b e.symm).2
  omega
/-- A block that is known to be empty is a row of the call's own. -/
theorem own_ob {V : World} {E : TypeId} {k g base : Nat} (h : Ob V g E #[]) (hb : base ≤ g) : V.ownsRow base E k (.slice (some ⟨g, 0, none⟩) 0 0) 0 [] :=
  ⟨by simp, .inr ⟨g, 0, #[], rfl, hb, h, Nat.le_refl _, by simp [maxLen], by simp, by simp⟩⟩
/-- append to an empty row that was laid before. -/
theorem copy_duts_at {V : World} {R : Nat → Prop} {A0 : Option Addr} {p0 c0 g : Nat} {L0 : List Dut} (hg : Ob V g 64 #[]) (h0 : Dus V R A0 p0 c0 L0) (h : p0 ≤ 1000000) (hlt : g ≤ V.heap.size) :
    ∃ A5 c5 w5, (Builtin.append_ #[26, 26] 26 #[.slice (some ⟨g, 0, none⟩) 0 0, .slice A0 p0 c0]).run Tryz.prog V = .ok (.slice A5 p0 c5) w5 ∧ Below g V w5 ∧ Dus w5 (fun b => b = g ∨ b = V.heap.size) A5 p0 c5 L0 ∧ Kept (fun b => b ≠ g) V w5 := by
  obtain ⟨A5, c5, w5, r5, o5, b5, g5, t5⟩ := append_duts (ty := 26) (xs := []) (own_ob hg (Nat.le_refl g)) h0 (by omega) hlt
  rw [Nat.zero_add] at r5 o5
  exact ⟨A5, c5, w5, r5, b5, Rw.flat_own o5 (by omega) (Rw.len h0) (fun _ => rfl) (Rw.all h0) (fun ad e _ => by subst e; exact t5.elim (fun h => .inl (by injection h)) (fun h => .inr (by injection h))), g5.size, fun b hb hlt => g5.block b hlt (fun e => hb (by injection e))⟩
theorem copy_nods_at {V : World} {R : Nat → Prop} {A0 : Option Addr} {p0 c0 g : Nat} {L0 : List Nod} (hg : Ob V g 53 #[]) (h0 : Nds V R A0 p0 c0 L0) (h : p0 ≤ 1000000) (hlt : g ≤ V.heap.size) :
    ∃ A5 c5 w5, (Builtin.append_ #[29, 29] 29 #[.slice (some ⟨g, 0, none⟩) 0 0, .slice A0 p0 c0]).run Tryz.prog V = .ok (.slice A5 p0 c5) w5 ∧ Below g V w5 ∧ Nds w5 (fun b => b = g ∨ b = V.heap.size) A5 p0 c5 L0 ∧ Kept (fun b => b ≠ g) V w5 := by
  obtain ⟨A5, c5, w5, r5, o5, b5, g5, t5⟩ := append_nods (ty := 29) (xs := []) (own_ob hg (Nat.le_refl g)) h0 (by omega) hlt
  rw [Nat.zero_add] at r5 o5
  exact ⟨A5, c5, w5, r5, b5, Rw.flat_own o5 (by omega) (Rw.len h0) (fun _ => rfl) (Rw.all h0) (fun ad e _ => by subst e; exact t5.elim (fun h => .inl (by injection h)) (fun h => .inr (by injection h))), g5.size, fun b hb hlt => g5.block b hlt (fun e => hb (by injection e))⟩
end Go.Proofs.YtdbnaaddocahpaaGreatDoor
/- The parser: rows of matches, AllOfs, AnyOfs. -/
namespace Go.Proofs.YtdbnaaddocahpaaGreatDoor
set_option linter.unusedVariables false
open Go.RowKit

/-- How many tokens are left, as memory says. -/
def restN (w : World) (g : Nat) : Nat := match w.cell? ⟨g, 0, none⟩ with | some (.slice _ n _) => n | _ => 0
theorem Rd.restN {L g : Nat} {w : World} {s : Pz} (h : Rd L w g s) : restN w g = s.rest.length := by
  obtain ⟨b, o, n, c, hob, hok, ⟨hn, _⟩, _⟩ := h.at_
  have := hob.cell 0
  unfold Go.Proofs.YtdbnaaddocahpaaGreatDoor.restN
  rw [this]
  exact hn.symm
def MaP (w : World) (R : Nat → Prop) (vs : List Value) (m : Mat) : Prop := vs = m.cells ∧ m.ok
theorem keeps_map : Keeps MaP := fun _ _ _ _ _ _ h _ _ => h
theorem push_mat {w : World} {base n c : Nat} {A : Option Addr} {l : List Mat} {x : Mat} (h : Gr 7 MaP w base 60 A n c l) (hx : x.ok) (hn : n < 1000000) :
    ∃ A' c' w', (Builtin.append_ #[61, 61] 61 #[.slice A n c, .slice (some ⟨w.heap.size, 0, none⟩) 1 1]).run Tryz.prog (w.alloc (.cells #[.int .i64 x.a.cat, .string x.a.name, .bool x.a.must, .int .i64 x.op, .int .i64 x.v.k, .int .i64 x.v.n, .string x.v.s] 60)) = .ok (.slice A' (n + 1) c') w' ∧ Gr 7 MaP w' base 60 A' (n + 1) c' (l ++ [x]) ∧ Below base w w' := by
  obtain ⟨i, hi, hz, hs, hb⟩ := info_of matinfo
  exact Gr.push (vs := x.cells) (x := x) Tryz.underlying61 hi hz hs hb rfl (by omega) (by omega) keeps_map h ⟨rfl, hx⟩ rfl (fun _ _ _ _ h => by
    obtain ⟨rfl, _⟩ := h
    intro v hv
    simp [Mat.cells] at hv
    rcases hv with rfl | rfl | rfl | rfl | rfl | rfl | rfl <;> rfl) hn
theorem push_any3 {w : World} {base n c : Nat} {A : Option Addr} {l : Tgt} {A1 : Option Addr} {n1 c1 : Nat} {x : List (List Mat)} (h : Gr 1 AnP w base 62 A n c l) (hx : Als w (Nb base (.slice A n c)) A1 n1 c1 x) (hn : n < 1000000) :
    ∃ A' c' w', (Builtin.append_ #[22, 22] 22 #[.slice A n c, .slice (some ⟨w.heap.size, 0, none⟩) 1 1]).run Tryz.prog (w.alloc (.cells #[.slice A1 n1 c1] 62)) = .ok (.slice A' (n + 1) c') w' ∧ Gr 1 AnP w' base 62 A' (n + 1) c' (l ++ [x]) ∧ Below base w w' := by
  obtain ⟨i, hi, hz, hs, hb⟩ := info_of s1info
  exact Gr.push (vs := [.slice A1 n1 c1]) (x := x) Tryz.underlying22 hi hz hs hb rfl (by omega) (by omega) keeps_anp h ⟨A1, n1, c1, rfl, hx⟩ rfl (fun _ _ _ _ => AnP.one _ _) hn
theorem Gr.at_only {α : Type} {k : Nat} {P : World → (Nat → Prop) → List Value → α → Prop} {w w' : World} {base g : Nat} {E : TypeId} {A : Option Addr} {n c : Nat} {l : List α} (hP : Keeps P) (h : Gr k P w base E A n c l) (o : Only g w w') (hg : g < base) : Gr k P w' base E A n c l :=
  ⟨(h.1.mapP (fun vs x _ hp => hP _ _ _ _ vs x hp (⟨o.size, fun b hb hlt => o.heap hlt (by have := hb.1; omega)⟩) (fun _ h _ => h))).grown (row := some g) o (.inr (fun e => by have := (h.1.lt g e).1; omega)), Nat.le_trans h.2 o.size⟩
theorem Only.below_at {g : Nat} {w a b : World} (h : Only g w a) (k : Below w.heap.size a b) : Only g w b :=
  ⟨k.os.trans h.os, k.tape.trans h.tape, k.output.trans h.output, Nat.le_trans h.size k.size, fun i hi hn => (k.block i hi).trans (h.block i hi hn)⟩
theorem Rd.below {L g B : Nat} {w w' : World} {s : Pz} (h : Rd L w g s) (hb : Below B w w') (hg : g < B) : Rd L w' g s := h.keep fun k hk => hb.block k (by omega)
theorem rowR_succ {α : Type} {one : Pz → α × Pz} {btw : ByteArray} {n : Nat} {l : List α} {s s1 s3 : Pz} {x : α} {i : Nat} {m : Int} (h1 : one s = (x, s1)) (hm : ((l ++ [x]).length : Int) = m) (h3 : takeR [btw] (mostR m 8 s1) = (i, s3)) :
    rowR one btw (n + 1) l s = if i = 0 then (l ++ [x], s3) else rowR one btw n (l ++ [x]) s3 := by
  show (if (takeR [btw] (mostR ((l ++ [(one s).1]).length : Int) 8 (one s).2)).1 = 0 then _ else _) = _
  rw [h1]
  simp only
  rw [hm, h3]

section
variable {L g : Nat} {w : World} {s : Pz}
set_option maxHeartbeats 3200000 in
theorem prow_match (h : Rd L w g s) (btw : ByteArray) : Calls Tryz.prog 143 #[.pointer (some ⟨g, 0, none⟩), .func (.func 144) #[.pointer (some ⟨g, 0, none⟩)] #[], .string btw] w fun x w' => ∃ A n c, x = .returned (.slice A n c) ∧ Only g w w' ∧ Rd L w' g (rowR matchR btw s.rest.length [] s).2 ∧ Ms w' (fun b => w.heap.size ≤ b) A n c (rowR matchR btw s.rest.length [] s).1 := by
  have HG : Hid (g < w.heap.size) := h.lt
  have HL0 : Hid (s.rest.length ≤ 5000) := h.ok.2.2.1.1
  have HH := Lib.hid h
  obtain ⟨z, hz⟩ : ∃ z, z = rowR matchR btw s.rest.length [] s := ⟨_, rfl⟩
  have HZ := Lib.hid hz
  rw [← hz]
  clear h hz
  go_enter Tryz.func143, Tryz.ntmps143
  go_wp2
  go_loopw [7] (fun v wr => ∃ (k : Nat) (A : Option Addr) (c : Nat) (l : List Mat) (s' : Pz) (q : Nat), v = .slice A k c ∧ Only g w wr ∧ Rd L wr g s' ∧ Gr 7 MaP wr w.heap.size 60 A k c l ∧ k + s'.rest.length ≤ s.rest.length ∧ s'.rest.length ≤ q ∧ rowR matchR btw q l s' = z) (fun v wr => restN wr g)
  case atStart => exact ⟨0, none, 0, [], s, s.rest.length, rfl, Only.refl, HH.out, Gr.nil _ _ (Nat.le_refl _), by omega, Nat.le_refl _, HZ.out.symm⟩
  case round =>
    obtain ⟨k, A, c, l, s', q, rfl, ho, hr, hg, hk, hq, he⟩ := hrel
    have HO := Lib.hid ho
    have HR := Lib.hid hr
    have HGr := Lib.hid hg
    have HK := Lib.hid hk
    have hq1 := hr.ok.pos
    obtain ⟨q, rfl⟩ : ∃ q', q = q' + 1 := ⟨q - 1, by omega⟩
    obtain ⟨m, s1, e1⟩ : ∃ m t, matchR s' = (m, t) := ⟨_, _, rfl⟩
    obtain ⟨i, s3, e3⟩ : ∃ i t, takeR [btw] (mostR ((k : Int) + 1) 8 s1) = (i, t) := ⟨_, _, rfl⟩
    have hlen : ((l ++ [m]).length : Int) = (k : Int) + 1 := by rw [List.length_append]; have := hg.len; simp; omega
    have HE := Lib.hid ((rowR_succ e1 hlen e3).symm.trans he)
    have HQ := Lib.hid hq
    have hgo := match_go hr.ok
    rw [e1] at hgo
    have hgo2 := most_go hgo.1 ((k : Int) + 1) 8
    have htl := takeR_len hgo2.1 [btw]
    rw [e3] at htl
    have HTL : Hid (s3.rest.length + (if i = 0 then 0 else 1) ≤ s'.rest.length) := by
      have h1 : s1.rest.length ≤ s'.rest.length := hgo.2
      have h2 := hgo2.2
      have h3 : s3.rest.length + (if i = 0 then 0 else 1) = (mostR ((k : Int) + 1) 8 s1).rest.length := htl
      show _ ≤ _
      have h2 : (mostR ((k : Int) + 1) 8 s1).rest.length ≤ s1.rest.length := hgo2.2
      omega
    have E1 := Lib.hid e1
    have E3 := Lib.hid e3
    have hk63 : k < 1000000 := by have := HL0.out; omega
    have HRN := Lib.hid hr.restN
    have HOK := Lib.hid (show m.ok from by have := match_ok hr.ok; rw [e1] at this; exact this)
    clear ho hr hg hk hq he e1 e3 hlen hgo hgo2 htl hq1
    go_wp2_with fail
    go_at_call 144
    refine (pmatch_any HR.out).mono ?_
    rintro x u1 ⟨hx, ho, hr⟩
    obtain rfl : x = .returned (.agg #[.int .i64 m.a.cat, .string m.a.name, .bool m.a.must, .int .i64 m.op, .int .i64 m.v.k, .int .i64 m.v.n, .string m.v.s]) := by rw [hx, E1.out] <;> rfl
    rw [E1.out] at hr
    obtain ⟨A2, c2, u2, r2, g2, b2⟩ := push_mat (HGr.out.at_only keeps_map ho HG.out) HOK.out hk63
    clear hx
    have HO2 := Lib.hid ((HO.out.trans ho).below_at b2)
    have HR2 := Lib.hid (hr.below b2 HG.out)
    have R2 := Lib.hid r2
    have G2 := Lib.hid g2
    clear ho hr r2 g2 b2
    go_wp2_with (at_builtin; refine wpList_append_run (o := ⟨some 12, _, _, _, _, _⟩) rfl _ _ _ _ rfl rfl rfl R2.out ?_)
    go_at_call 77
    refine (pmost_any HR2.out ((k : Int) + 1) 8).mono ?_
    rintro x u3 ⟨rfl, ho, hr⟩
    have HO3 := Lib.hid (HO2.out.trans ho)
    have HR3 := Lib.hid hr
    have G3 := Lib.hid (G2.out.at_only keeps_map ho HG.out)
    clear ho hr
    go_wp2_with fail
    go_at_call 114
    refine (ptake_lit HR3.out [btw] #[.string btw] 1 rfl rfl (by omega) rfl).mono ?_
    rintro x u4 ⟨hx, ho, hr⟩
    obtain rfl : x = .returned (.int .i64 (i : Int)) := by rw [hx, E3.out] <;> rfl
    rw [E3.out] at hr
    have HO4 := Lib.hid (HO3.out.trans ho)
    have HR4 := Lib.hid hr
    have G4 := Lib.hid (G3.out.at_only keeps_map ho HG.out)
    clear ho hr hx
    by_cases hi : i = 0
    · have HE2 := Lib.hid (show (l ++ [m], s3) = z from by have := HE.out; rwa [if_pos hi] at this)
      subst hi
      go_wp2_with fail
      go_ret
      rw [← HE2.out]
      exact ⟨A2, k + 1, c2, rfl, HO4.out, HR4.out, G4.out.rw keeps_map (by omega)⟩
    · have HE2 := Lib.hid (show rowR matchR btw q (l ++ [m]) s3 = z from by have := HE.out; rwa [if_neg hi] at this)
      have HT2 : Hid (s3.rest.length + 1 ≤ s'.rest.length) := by have := HTL.out; rwa [if_neg hi] at this
      have hi2 : ((i : Int) == 0) = false := by rw [beq_eq_false_iff_ne]; omega
      go_wp2_with fail
      go_roundw
      case rel => exact ⟨k + 1, A2, c2, l ++ [m], s3, q, rfl, HO4.out, HR4.out, G4.out, by have := HT2.out; have := HK.out; omega, by have := HT2.out; have := HQ.out; omega, HE2.out⟩
      case measure => rw [HR4.out.restN, HRN.out]; have := HT2.out; omega
set_option maxHeartbeats 800000 in
theorem pallof_any (h : Rd L w g s) : Calls Tryz.prog 134 #[.pointer (some ⟨g, 0, none⟩)] w fun x w' => ∃ A n c, x = .returned (.slice A n c) ∧ Only g w w' ∧ Rd L w' g (allOfR s).2 ∧ Ms w' (fun b => w.heap.size ≤ b) A n c (allOfR s).1 := by
  have HC := Lib.hid (prow_match h m_comma)
  clear h
  go_enter Tryz.func134, Tryz.ntmps134
  go_wp2_with fail
  go_at_call 143
  refine HC.out.mono ?_
  rintro x u1 ⟨A1, n1, c1, rfl, ho, hr, ht⟩
  have HO1 := Lib.hid ho
  have HR1 := Lib.hid hr
  have HT1 := Lib.hid ht
  clear ho hr ht
  go_wp2_with fail
  go_ret
  exact ⟨A1, n1, c1, rfl, HO1.out, HR1.out, HT1.out⟩
set_option maxHeartbeats 3200000 in
theorem prow_allof (h : Rd L w g s) (btw : ByteArray) : Calls Tryz.prog 133 #[.pointer (some ⟨g, 0, none⟩), .func (.func 134) #[.pointer (some ⟨g, 0, none⟩)] #[], .string btw] w fun x w' => ∃ A n c, x = .returned (.slice A n c) ∧ Only g w w' ∧ Rd L w' g (rowR allOfR btw s.rest.length [] s).2 ∧ Als w' (fun b => w.heap.size ≤ b) A n c (rowR allOfR btw s.rest.length [] s).1 := by
  have HG : Hid (g < w.heap.size) := h.lt
  have HL0 : Hid (s.rest.length ≤ 5000) := h.ok.2.2.1.1
  have HH := Lib.hid h
  obtain ⟨z, hz⟩ : ∃ z, z = rowR allOfR btw s.rest.length [] s := ⟨_, rfl⟩
  have HZ := Lib.hid hz
  rw [← hz]
  clear h hz
  go_enter Tryz.func133, Tryz.ntmps133
  go_wp2
  go_loopw [7] (fun v wr => ∃ (k : Nat) (A : Option Addr) (c : Nat) (l : List (List Mat)) (s' : Pz) (q : Nat), v = .slice A k c ∧ Only g w wr ∧ Rd L wr g s' ∧ Gr 1 AlP wr w.heap.size 61 A k c l ∧ k + s'.rest.length ≤ s.rest.length ∧ s'.rest.length ≤ q ∧ rowR allOfR btw q l s' = z) (fun v wr => restN wr g)
  case atStart => exact ⟨0, none, 0, [], s, s.rest.length, rfl, Only.refl, HH.out, Gr.nil _ _ (Nat.le_refl _), by omega, Nat.le_refl _, HZ.out.symm⟩
  case round =>
    obtain ⟨k, A, c, l, s', q, rfl, ho, hr, hg, hk, hq, he⟩ := hrel
    have HO := Lib.hid ho
    have HR := Lib.hid hr
    have HGr := Lib.hid hg
    have HK := Lib.hid hk
    have hq1 := hr.ok.pos
    obtain ⟨q, rfl⟩ : ∃ q', q = q' + 1 := ⟨q - 1, by omega⟩
    obtain ⟨m, s1, e1⟩ : ∃ m t, allOfR s' = (m, t) := ⟨_, _, rfl⟩
    obtain ⟨i, s3, e3⟩ : ∃ i t, takeR [btw] (mostR ((k : Int) + 1) 8 s1) = (i, t) := ⟨_, _, rfl⟩
    have hlen : ((l ++ [m]).length : Int) = (k : Int) + 1 := by rw [List.length_append]; have := hg.len; simp; omega
    have HE := Lib.hid ((rowR_succ e1 hlen e3).symm.trans he)
    have HQ := Lib.hid hq
    have hgo := allOf_go hr.ok
    rw [e1] at hgo
    have hgo2 := most_go hgo.1 ((k : Int) + 1) 8
    have htl := takeR_len hgo2.1 [btw]
    rw [e3] at htl
    have HTL : Hid (s3.rest.length + (if i = 0 then 0 else 1) ≤ s'.rest.length) := by
      have h1 : s1.rest.length ≤ s'.rest.length := hgo.2
      have h2 := hgo2.2
      have h3 : s3.rest.length + (if i = 0 then 0 else 1) = (mostR ((k : Int) + 1) 8 s1).rest.length := htl
      show _ ≤ _
      have h2 : (mostR ((k : Int) + 1) 8 s1).rest.length ≤ s1.rest.length := hgo2.2
      omega
    have E1 := Lib.hid e1
    have E3 := Lib.hid e3
    have hk63 : k < 1000000 := by have := HL0.out; omega
    have HRN := Lib.hid hr.restN
    clear ho hr hg hk hq he e1 e3 hlen hgo hgo2 htl hq1
    go_wp2_with fail
    go_at_call 134
    refine (pallof_any HR.out).mono ?_
    rintro x u1 ⟨A1, n1, c1, rfl, ho, hr, ht⟩
    rw [E1.out] at hr ht
    have hx := ht.keep (Kept.refl _ _) (fun b hb _ => (HGr.out.apart b hb : Nb w.heap.size (.slice A k c) b))
    obtain ⟨A2, c2, u2, r2, g2, b2⟩ := push_all (HGr.out.at_only keeps_alp ho HG.out) hx hk63
    have HO2 := Lib.hid ((HO.out.trans ho).below_at b2)
    have HR2 := Lib.hid (hr.below b2 HG.out)
    have R2 := Lib.hid r2
    have G2 := Lib.hid g2
    clear ho hr r2 g2 b2 hx ht
    go_wp2_with (at_builtin; refine wpList_append_run (o := ⟨some 12, _, _, _, _, _⟩) rfl _ _ _ _ rfl rfl rfl R2.out ?_)
    go_at_call 77
    refine (pmost_any HR2.out ((k : Int) + 1) 8).mono ?_
    rintro x u3 ⟨rfl, ho, hr⟩
    have HO3 := Lib.hid (HO2.out.trans ho)
    have HR3 := Lib.hid hr
    have G3 := Lib.hid (G2.out.at_only keeps_alp ho HG.out)
    clear ho hr
    go_wp2_with fail
    go_at_call 114
    refine (ptake_lit HR3.out [btw] #[.string btw] 1 rfl rfl (by omega) rfl).mono ?_
    rintro x u4 ⟨hx, ho, hr⟩
    obtain rfl : x = .returned (.int .i64 (i : Int)) := by rw [hx, E3.out] <;> rfl
    rw [E3.out] at hr
    have HO4 := Lib.hid (HO3.out.trans ho)
    have HR4 := Lib.hid hr
    have G4 := Lib.hid (G3.out.at_only keeps_alp ho HG.out)
    clear ho hr hx
    by_cases hi : i = 0
    · have HE2 := Lib.hid (show (l ++ [m], s3) = z from by have := HE.out; rwa [if_pos hi] at this)
      subst hi
      go_wp2_with fail
      go_ret
      rw [← HE2.out]
      exact ⟨A2, k + 1, c2, rfl, HO4.out, HR4.out, G4.out.rw keeps_alp (by omega)⟩
    · have HE2 := Lib.hid (show rowR allOfR btw q (l ++ [m]) s3 = z from by have := HE.out; rwa [if_neg hi] at this)
      have HT2 : Hid (s3.rest.length + 1 ≤ s'.rest.length) := by have := HTL.out; rwa [if_neg hi] at this
      have hi2 : ((i : Int) == 0) = false := by rw [beq_eq_false_iff_ne]; omega
      go_wp2_with fail
      go_roundw
      case rel => exact ⟨k + 1, A2, c2, l ++ [m], s3, q, rfl, HO4.out, HR4.out, G4.out, by have := HT2.out; have := HK.out; omega, by have := HT2.out; have := HQ.out; omega, HE2.out⟩
      case measure => rw [HR4.out.restN, HRN.out]; have := HT2.out; omega
set_option maxHeartbeats 800000 in
theorem panyof_any (h : Rd L w g s) : Calls Tryz.prog 116 #[.pointer (some ⟨g, 0, none⟩)] w fun x w' => ∃ A n c, x = .returned (.slice A n c) ∧ Only g w w' ∧ Rd L w' g (anyOfR s).2 ∧ Als w' (fun b => w.heap.size ≤ b) A n c (anyOfR s).1 := by
  have HG : Hid (g < w.heap.size) := h.lt
  have HR0 := Lib.hid h
  obtain ⟨i, s1, e1⟩ : ∃ i t, mustR [m_lp] s = (i, t) := ⟨_, _, rfl⟩
  obtain ⟨l, s2, e2⟩ : ∃ i t, rowR allOfR w_or s1.rest.length [] s1 = (i, t) := ⟨_, _, rfl⟩
  obtain ⟨j, s3, e3⟩ : ∃ i t, mustR [m_rp] s2 = (i, t) := ⟨_, _, rfl⟩
  have HE : Hid (anyOfR s = (l, s3)) := by show _ = _; unfold anyOfR; simp only [e1, e2, e3]
  rw [HE.out]
  have E1 := Lib.hid e1
  have E2 := Lib.hid e2
  have E3 := Lib.hid e3
  clear h e1 e2 e3
  go_enter Tryz.func116, Tryz.ntmps116
  go_wp2_with fail
  go_at_call 78
  refine (pmust_lit HR0.out [m_lp] #[.string ⟨#[40]⟩] 1 rfl rfl (by omega) rfl).mono ?_
  rintro x u1 ⟨rfl, ho, hr⟩
  rw [E1.out] at hr
  have HO1 := Lib.hid ho
  have HR1 := Lib.hid hr
  clear ho hr
  go_wp2_with fail
  go_at_call 133
  refine (prow_allof HR1.out w_or).mono ?_
  rintro x u2 ⟨A1, n1, c1, rfl, ho, hr, ht⟩
  rw [E2.out] at hr ht
  have HO2 := Lib.hid (HO1.out.trans ho)
  have HR2 := Lib.hid hr
  have HT2 := Lib.hid (ht.keep (Kept.refl _ _) (R' := fun b => w.heap.size ≤ b) (fun b hb _ => Nat.le_trans HO1.out.size hb))
  clear ho hr ht
  go_wp2_with fail
  go_at_call 78
  refine (pmust_lit HR2.out [m_rp] #[.string ⟨#[41]⟩] 1 rfl rfl (by omega) rfl).mono ?_
  rintro x u3 ⟨rfl, ho, hr⟩
  rw [E3.out] at hr
  have HO3 := Lib.hid (HO2.out.trans ho)
  have HR3 := Lib.hid hr
  have HT3 := Lib.hid (HT2.out.keep (⟨ho.size, fun b hb hlt => ho.heap hlt (by have := HG.out; have hb : w.heap.size ≤ b := hb; omega)⟩) (fun _ h _ => h))
  clear ho hr
  go_wp2_with fail
  go_ret
  exact ⟨A1, n1, c1, rfl, HO3.out, HR3.out, HT3.out⟩
set_option maxHeartbeats 3200000 in
theorem prow_anyof (h : Rd L w g s) (btw : ByteArray) : Calls Tryz.prog 115 #[.pointer (some ⟨g, 0, none⟩), .func (.func 116) #[.pointer (some ⟨g, 0, none⟩)] #[], .string btw] w fun x w' => ∃ A n c, x = .returned (.slice A n c) ∧ Only g w w' ∧ Rd L w' g (rowR anyOfR btw s.rest.length [] s).2 ∧ Tg w' (fun b => w.heap.size ≤ b) A n c (rowR anyOfR btw s.rest.length [] s).1 := by
  have HG : Hid (g < w.heap.size) := h.lt
  have HL0 : Hid (s.rest.length ≤ 5000) := h.ok.2.2.1.1
  have HH := Lib.hid h
  obtain ⟨z, hz⟩ : ∃ z, z = rowR anyOfR btw s.rest.length [] s := ⟨_, rfl⟩
  have HZ := Lib.hid hz
  rw [← hz]
  clear h hz
  go_enter Tryz.func115, Tryz.ntmps115
  go_wp2
  go_loopw [7] (fun v wr => ∃ (k : Nat) (A : Option Addr) (c : Nat) (l : List (List (List Mat))) (s' : Pz) (q : Nat), v = .slice A k c ∧ Only g w wr ∧ Rd L wr g s' ∧ Gr 1 AnP wr w.heap.size 62 A k c l ∧ k + s'.rest.length ≤ s.rest.length ∧ s'.rest.length ≤ q ∧ rowR anyOfR btw q l s' = z) (fun v wr => restN wr g)
  case atStart => exact ⟨0, none, 0, [], s, s.rest.length, rfl, Only.refl, HH.out, Gr.nil _ _ (Nat.le_refl _), by omega, Nat.le_refl _, HZ.out.symm⟩
  case round =>
    obtain ⟨k, A, c, l, s', q, rfl, ho, hr, hg, hk, hq, he⟩ := hrel
    have HO := Lib.hid ho
    have HR := Lib.hid hr
    have HGr := Lib.hid hg
    have HK := Lib.hid hk
    have hq1 := hr.ok.pos
    obtain ⟨q, rfl⟩ : ∃ q', q = q' + 1 := ⟨q - 1, by omega⟩
    obtain ⟨m, s1, e1⟩ : ∃ m t, anyOfR s' = (m, t) := ⟨_, _, rfl⟩
    obtain ⟨i, s3, e3⟩ : ∃ i t, takeR [btw] (mostR ((k : Int) + 1) 8 s1) = (i, t) := ⟨_, _, rfl⟩
    have hlen : ((l ++ [m]).length : Int) = (k : Int) + 1 := by rw [List.length_append]; have := hg.len; simp; omega
    have HE := Lib.hid ((rowR_succ e1 hlen e3).symm.trans he)
    have HQ := Lib.hid hq
    have hgo := anyOf_go hr.ok
    rw [e1] at hgo
    have hgo2 := most_go hgo.1 ((k : Int) + 1) 8
    have htl := takeR_len hgo2.1 [btw]
    rw [e3] at htl
    have HTL : Hid (s3.rest.length + (if i = 0 then 0 else 1) ≤ s'.rest.length) := by
      have h1 : s1.rest.length ≤ s'.rest.length := hgo.2
      have h2 := hgo2.2
      have h3 : s3.rest.length + (if i = 0 then 0 else 1) = (mostR ((k : Int) + 1) 8 s1).rest.length := htl
      show _ ≤ _
      have h2 : (mostR ((k : Int) + 1) 8 s1).rest.length ≤ s1.rest.length := hgo2.2
      omega
    have E1 := Lib.hid e1
    have E3 := Lib.hid e3
    have hk63 : k < 1000000 := by have := HL0.out; omega
    have HRN := Lib.hid hr.restN
    clear ho hr hg hk hq he e1 e3 hlen hgo hgo2 htl hq1
    go_wp2_with fail
    go_at_call 116
    refine (panyof_any HR.out).mono ?_
    rintro x u1 ⟨A1, n1, c1, rfl, ho, hr, ht⟩
    rw [E1.out] at hr ht
    have hx := ht.keep (Kept.refl _ _) (fun b hb _ => (HGr.out.apart b hb : Nb w.heap.size (.slice A k c) b))
    obtain ⟨A2, c2, u2, r2, g2, b2⟩ := push_any3 (HGr.out.at_only keeps_anp ho HG.out) hx hk63
    have HO2 := Lib.hid ((HO.out.trans ho).below_at b2)
    have HR2 := Lib.hid (hr.below b2 HG.out)
    have R2 := Lib.hid r2
    have G2 := Lib.hid g2
    clear ho hr r2 g2 b2 hx ht
    go_wp2_with (at_builtin; refine wpList_append_run (o := ⟨some 12, _, _, _, _, _⟩) rfl _ _ _ _ rfl rfl rfl R2.out ?_)
    go_at_call 77
    refine (pmost_any HR2.out ((k : Int) + 1) 8).mono ?_
    rintro x u3 ⟨rfl, ho, hr⟩
    have HO3 := Lib.hid (HO2.out.trans ho)
    have HR3 := Lib.hid hr
    have G3 := Lib.hid (G2.out.at_only keeps_anp ho HG.out)
    clear ho hr
    go_wp2_with fail
    go_at_call 114
    refine (ptake_lit HR3.out [btw] #[.string btw] 1 rfl rfl (by omega) rfl).mono ?_
    rintro x u4 ⟨hx, ho, hr⟩
    obtain rfl : x = .returned (.int .i64 (i : Int)) := by rw [hx, E3.out] <;> rfl
    rw [E3.out] at hr
    have HO4 := Lib.hid (HO3.out.trans ho)
    have HR4 := Lib.hid hr
    have G4 := Lib.hid (G3.out.at_only keeps_anp ho HG.out)
    clear ho hr hx
    by_cases hi : i = 0
    · have HE2 := Lib.hid (show (l ++ [m], s3) = z from by have := HE.out; rwa [if_pos hi] at this)
      subst hi
      go_wp2_with fail
      go_ret
      rw [← HE2.out]
      exact ⟨A2, k + 1, c2, rfl, HO4.out, HR4.out, G4.out.rw keeps_anp (by omega)⟩
    · have HE2 := Lib.hid (show rowR anyOfR btw q (l ++ [m]) s3 = z from by have := HE.out; rwa [if_neg hi] at this)
      have HT2 : Hid (s3.rest.length + 1 ≤ s'.rest.length) := by have := HTL.out; rwa [if_neg hi] at this
      have hi2 : ((i : Int) == 0) = false := by rw [beq_eq_false_iff_ne]; omega
      go_wp2_with fail
      go_roundw
      case rel => exact ⟨k + 1, A2, c2, l ++ [m], s3, q, rfl, HO4.out, HR4.out, G4.out, by have := HT2.out; have := HK.out; omega, by have := HT2.out; have := HQ.out; omega, HE2.out⟩
      case measure => rw [HR4.out.restN, HRN.out]; have := HT2.out; omega
set_option maxHeartbeats 800000 in
theorem ptarget_any (h : Rd L w g s) : Calls Tryz.prog 80 #[.pointer (some ⟨g, 0, none⟩)] w fun x w' => ∃ A n c, x = .returned (.slice A n c) ∧ Only g w w' ∧ Rd L w' g (targetR s).2 ∧ Tg w' (fun b => w.heap.size ≤ b) A n c (targetR s).1 := by
  have HR0 := Lib.hid h
  obtain ⟨i, s1, e1⟩ : ∃ i t, takeR [w_when] s = (i, t) := ⟨_, _, rfl⟩
  have E1 := Lib.hid e1
  by_cases hi : i = 0
  · have HE : Hid (targetR s = ([], s1)) := by show _ = _; unfold targetR; rw [e1, if_pos hi]
    rw [HE.out]
    subst hi
    clear h e1
    go_enter Tryz.func80, Tryz.ntmps80
    go_wp2_with fail
    go_at_call 114
    refine (ptake_lit HR0.out [w_when] #[.string ⟨#[119, 104, 101, 110]⟩] 1 rfl rfl (by omega) rfl).mono ?_
    rintro x u1 ⟨hx, ho, hr⟩
    obtain rfl : x = .returned (.int .i64 ((0 : Nat) : Int)) := by rw [hx, E1.out] <;> rfl
    rw [E1.out] at hr
    have HO1 := Lib.hid ho
    have HR1 := Lib.hid hr
    clear ho hr hx
    go_wp2_with fail
    go_ret
    exact ⟨none, 0, 0, rfl, HO1.out, HR1.out, Rw.nil_ _ _ _ _⟩
  · have HE : Hid (targetR s = rowR anyOfR w_and s1.rest.length [] s1) := by show _ = _; unfold targetR; rw [e1, if_neg hi]
    rw [HE.out]
    have hi2 : ((i : Int) == 0) = false := by rw [beq_eq_false_iff_ne]; omega
    clear h e1
    go_enter Tryz.func80, Tryz.ntmps80
    go_wp2_with fail
    go_at_call 114
    refine (ptake_lit HR0.out [w_when] #[.string ⟨#[119, 104, 101, 110]⟩] 1 rfl rfl (by omega) rfl).mono ?_
    rintro x u1 ⟨hx, ho, hr⟩
    obtain rfl : x = .returned (.int .i64 (i : Int)) := by rw [hx, E1.out] <;> rfl
    rw [E1.out] at hr
    have HO1 := Lib.hid ho
    have HR1 := Lib.hid hr
    clear ho hr hx
    go_wp2_with fail
    go_at_call 115
    refine (prow_anyof HR1.out w_and).mono ?_
    rintro x u2 ⟨A1, n1, c1, rfl, ho, hr, ht⟩
    have HO2 := Lib.hid (HO1.out.trans ho)
    have HR2 := Lib.hid hr
    have HT2 := Lib.hid (ht.keep (Kept.refl _ _) (R' := fun b => w.heap.size ≤ b) (fun b hb _ => Nat.le_trans HO1.out.size hb))
    clear ho hr ht
    go_wp2_with fail
    go_ret
    exact ⟨A1, n1, c1, rfl, HO2.out, HR2.out, HT2.out⟩
end
end Go.Proofs.YtdbnaaddocahpaaGreatDoor
