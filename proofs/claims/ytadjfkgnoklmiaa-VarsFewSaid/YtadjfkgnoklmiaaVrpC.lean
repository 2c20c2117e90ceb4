/- Several texts in one: ParMath, ParLen, ParMet, ParTok, ParEval, VarsRunsM, Parse1, Parse2, Parse3, Parse4, Parse5, Parse6. -/
import Derived.Test.YtadjfkgnoklmiaaVrpA
import Derived.Test.YtadjfkgnoklmiaaVrpB
import Derived.StillTailTactics
import Derived.Laws.ResultCell
/- The parser, plainly: its words, its state, and what each of its functions makes of it. -/
namespace Go.Proofs.Ytadjfkgnoklmiaa
set_option linter.unusedVariables false

abbrev w_policy : ByteArray := ⟨#[112, 111, 108, 105, 99, 121]⟩
abbrev w_set : ByteArray := ⟨#[115, 101, 116]⟩
abbrev w_denyover : ByteArray := ⟨#[100, 101, 110, 121, 111, 118, 101, 114]⟩
abbrev w_permitover : ByteArray := ⟨#[112, 101, 114, 109, 105, 116, 111, 118, 101, 114]⟩
abbrev w_first : ByteArray := ⟨#[102, 105, 114, 115, 116]⟩
abbrev w_only : ByteArray := ⟨#[111, 110, 108, 121]⟩
abbrev w_denyunless : ByteArray := ⟨#[100, 101, 110, 121, 117, 110, 108, 101, 115, 115]⟩
abbrev w_permitunless : ByteArray := ⟨#[112, 101, 114, 109, 105, 116, 117, 110, 108, 101, 115, 115]⟩
abbrev w_permit : ByteArray := ⟨#[112, 101, 114, 109, 105, 116]⟩
abbrev w_deny : ByteArray := ⟨#[100, 101, 110, 121]⟩
abbrev w_when : ByteArray := ⟨#[119, 104, 101, 110]⟩
abbrev w_and : ByteArray := ⟨#[97, 110, 100]⟩
abbrev w_or : ByteArray := ⟨#[111, 114]⟩
abbrev w_subject : ByteArray := ⟨#[115, 117, 98, 106, 101, 99, 116]⟩
abbrev w_action : ByteArray := ⟨#[97, 99, 116, 105, 111, 110]⟩
abbrev w_case : ByteArray := ⟨#[99, 97, 115, 101]⟩
abbrev w_env : ByteArray := ⟨#[101, 110, 118]⟩
abbrev w_false : ByteArray := ⟨#[102, 97, 108, 115, 101]⟩
abbrev w_true : ByteArray := ⟨#[116, 114, 117, 101]⟩
abbrev w_if : ByteArray := ⟨#[105, 102]⟩
abbrev w_one : ByteArray := ⟨#[111, 110, 101]⟩
abbrev w_size : ByteArray := ⟨#[115, 105, 122, 101]⟩
abbrev w_has : ByteArray := ⟨#[104, 97, 115]⟩
abbrev w_eq : ByteArray := ⟨#[101, 113]⟩
abbrev w_less : ByteArray := ⟨#[108, 101, 115, 115]⟩
abbrev w_add : ByteArray := ⟨#[97, 100, 100]⟩
abbrev w_sub : ByteArray := ⟨#[115, 117, 98]⟩
abbrev w_mul : ByteArray := ⟨#[109, 117, 108]⟩
abbrev w_not : ByteArray := ⟨#[110, 111, 116]⟩
abbrev w_on : ByteArray := ⟨#[111, 110]⟩
abbrev w_log : ByteArray := ⟨#[108, 111, 103]⟩
abbrev w_redact : ByteArray := ⟨#[114, 101, 100, 97, 99, 116]⟩
abbrev w_review : ByteArray := ⟨#[114, 101, 118, 105, 101, 119]⟩
abbrev w_notify : ByteArray := ⟨#[110, 111, 116, 105, 102, 121]⟩
abbrev m_lb : ByteArray := ⟨#[123]⟩
abbrev m_rb : ByteArray := ⟨#[125]⟩
abbrev m_lp : ByteArray := ⟨#[40]⟩
abbrev m_rp : ByteArray := ⟨#[41]⟩
abbrev m_dot : ByteArray := ⟨#[46]⟩
abbrev m_bang : ByteArray := ⟨#[33]⟩
abbrev m_eqm : ByteArray := ⟨#[61]⟩
abbrev m_lt : ByteArray := ⟨#[60]⟩
abbrev m_gt : ByteArray := ⟨#[62]⟩
abbrev m_semi : ByteArray := ⟨#[59]⟩
abbrev m_comma : ByteArray := ⟨#[44]⟩

structure Pz where
  rest : List Tk
  met : Nat
  err : Int
  at_ : Int
def Pz.hd (s : Pz) : Tk := s.rest.headD ⟨7, 0, 0, ⟨#[]⟩⟩
def Pz.ok (L : Nat) (s : Pz) : Prop :=
  (∃ e, s.rest.getLast? = some e ∧ e.k = 7) ∧ (∀ t ∈ s.rest, InI t.k ∧ (0 ≤ t.p ∧ t.p ≤ (L : Int)) ∧ InI t.n ∧ t.s.size ≤ maxLen) ∧ (s.rest.length ≤ 5000 ∧ s.met + s.rest.length ≤ 6000 ∧ L ≤ 4096) ∧ (s.err = 0 ∨ s.err = 5 ∨ s.err = 6) ∧ 0 ≤ s.at_ ∧ s.at_ ≤ (L : Int)

def failR (e a : Int) (s : Pz) : Pz := if s.err = 0 then ⟨s.rest.drop (s.rest.length - 1), s.met, e, a⟩ else ⟨s.rest.drop (s.rest.length - 1), s.met, s.err, s.at_⟩
def wrongR (s : Pz) : Pz := failR 5 s.hd.p s
def mostR (n limit : Int) (s : Pz) : Pz := if limit < n then failR 6 s.hd.p s else s
def idxW (x : ByteArray) : List ByteArray → Nat
  | [] => 0
  | y :: l => if x = y then 1 else if idxW x l = 0 then 0 else idxW x l + 1
def seesR (ws : List ByteArray) (s : Pz) : Nat := if s.hd.k = 1 ∨ s.hd.k = 6 then idxW s.hd.s ws else 0
def nextR (s : Pz) : Pz := ⟨s.rest.drop 1, s.met, s.err, s.at_⟩
def takeR (ws : List ByteArray) (s : Pz) : Nat × Pz := if seesR ws s = 0 then (0, s) else (seesR ws s, nextR s)
def mustR (ws : List ByteArray) (s : Pz) : Nat × Pz := if seesR ws s = 0 then (0, wrongR s) else (seesR ws s, nextR s)
def endR (s : Pz) : Pz := if s.hd.k = 7 then s else wrongR s
def nameR (s : Pz) : ByteArray × Pz := if s.hd.k = 1 then (s.hd.s, nextR s) else (⟨#[]⟩, wrongR s)
def catR (s : Pz) : Nat × Pz := takeR [w_subject, w_action, w_case, w_env] s
def attrR (cat : Int) (s : Pz) : Atr × Pz :=
  let s1 := if cat = 0 then wrongR s else s
  let s2 := (mustR [m_dot] s1).2
  let s3 := (nameR s2).2
  (⟨cat, (nameR s2).1, decide (0 < (takeR [m_bang] s3).1)⟩, (takeR [m_bang] s3).2)
def kindR (k : Int) : Int := if k = 2 then 2 else if k = 3 then 4 else if k = 4 then 5 else if k = 5 then 3 else 1
def valueR (s : Pz) : Vl × Pz :=
  if kindR s.hd.k = 1 then (⟨1, ((mustR [w_false, w_true] s).1 : Int) - 1, ⟨#[]⟩⟩, (mustR [w_false, w_true] s).2)
  else (⟨kindR s.hd.k, s.hd.n, s.hd.s⟩, nextR s)
def matchR (s : Pz) : Mat × Pz :=
  let c := catR s
  let a := attrR (c.1 : Int) c.2
  let o := mustR [m_eqm, m_lt, m_gt] a.2
  let v := valueR o.2
  (⟨a.1, (o.1 : Int), v.1⟩, v.2)
def rowR {α : Type} (one : Pz → α × Pz) (btw : ByteArray) : Nat → List α → Pz → List α × Pz
  | 0, l, s => (l, s)
  | n + 1, l, s =>
    let x := one s
    let t := takeR [btw] (mostR ((l ++ [x.1]).length : Int) 8 x.2)
    if t.1 = 0 then (l ++ [x.1], t.2) else rowR one btw n (l ++ [x.1]) t.2
def allOfR (s : Pz) : List Mat × Pz := rowR matchR m_comma s.rest.length [] s
def anyOfR (s : Pz) : List (List Mat) × Pz :=
  let a := mustR [m_lp] s
  let r := rowR allOfR w_or a.2.rest.length [] a.2
  (r.1, (mustR [m_rp] r.2).2)
def targetR (s : Pz) : Tgt × Pz :=
  if (takeR [w_when] s).1 = 0 then ([], (takeR [w_when] s).2) else rowR anyOfR w_and (takeR [w_when] s).2.rest.length [] (takeR [w_when] s).2
def dutiesR : Nat → List Dut → Pz → List Dut × Pz
  | 0, l, s => (l, s)
  | n + 1, l, s =>
    if (takeR [w_on] s).1 = 0 then (l, (takeR [w_on] s).2) else
    let a := mustR [w_permit, w_deny] (takeR [w_on] s).2
    let b := mustR [w_log, w_redact, w_review, w_notify] a.2
    let c := nameR b.2
    dutiesR n (l ++ [⟨(a.1 : Int), (b.1 : Int), c.1⟩]) (mostR ((l ++ [(⟨(a.1 : Int), (b.1 : Int), c.1⟩ : Dut)]).length : Int) 8 c.2)
def leafR (s : Pz) : Nod × Pz :=
  if 0 < (catR s).1 then (⟨2, zeroV, (attrR ((catR s).1 : Int) (catR s).2).1⟩, (attrR ((catR s).1 : Int) (catR s).2).2)
  else (⟨1, (valueR (catR s).2).1, zeroA⟩, (valueR (catR s).2).2)
def isBag (op : Int) : Bool := decide (op = 3) || decide (op = 4) || decide (op = 5)
def isTwo (op : Int) : Bool := !decide (op = 3) && !decide (op = 4) && !decide (op = 11)
def callR (ex : List Nod → Bool → Pz → List Nod × Pz) (l : List Nod) (s : Pz) : List Nod × Int × Pz :=
  let m := mustR [w_one, w_size, w_has, w_eq, w_less, w_add, w_sub, w_mul, w_not, w_and, w_or] s
  let op : Int := 2 + (m.1 : Int)
  let e := ex l (isBag op) m.2
  let f := if isTwo op = true then ex e.1 false e.2 else e
  (f.1, op, (mustR [m_rp] f.2).2)
def nodR (bag : Bool) (p : Int) (l : List Nod) (n : Nod) (s : Pz) : List Nod × Pz :=
  (l ++ [n], if bag != decide (n.op = 2) then failR 5 p (mostR ((l ++ [n]).length : Int) 32 s) else mostR ((l ++ [n]).length : Int) 32 s)
def exprR : Nat → List Nod → Bool → Pz → List Nod × Pz
  | 0, l, _, s => (l, s)
  | n + 1, l, bag, s =>
    if 0 < (takeR [m_lp] s).1 then
      let c := callR (exprR n) l (takeR [m_lp] s).2
      nodR bag s.hd.p c.1 ⟨c.2.1, zeroV, zeroA⟩ c.2.2
    else nodR bag s.hd.p l (leafR (takeR [m_lp] s).2).1 (leafR (takeR [m_lp] s).2).2
def condR (s : Pz) : List Nod × Pz :=
  if (takeR [w_if] s).1 = 0 then ([], (takeR [w_if] s).2) else exprR (takeR [w_if] s).2.rest.length [] false (takeR [w_if] s).2
def dutsR (s : Pz) : List Dut × Pz := dutiesR s.rest.length [] s
def ruleR (s : Pz) : Rul × Pz :=
  let a := mustR [w_permit, w_deny] s
  let b := nameR a.2
  let t := targetR b.2
  let c := condR t.2
  let d := dutsR c.2
  (⟨b.1, decide (a.1 = 2), t.1, c.1, d.1⟩, (mustR [m_semi] d.2).2)
def metR (s : Pz) : Pz := ⟨s.rest, s.met + 1, s.err, s.at_⟩
def rulesR : Nat → List Rul → Pz → List Rul × Pz
  | 0, l, s => (l, s)
  | n + 1, l, s =>
    if seesR [w_permit, w_deny] s = 0 then (l, s) else
    let s1 := mostR ((l.length : Int) + 1) 16 (metR s)
    let u := ruleR (mostR (s1.met : Int) 64 s1)
    rulesR n (l ++ [u.1]) u.2
def kidsR (po : Pz → Pol × Pz) : Nat → List Pol → Pz → List Pol × Pz
  | 0, l, s => (l, s)
  | n + 1, l, s =>
    if seesR [w_policy, w_set] s = 0 then (l, s) else
    let u := po (mostR ((l.length : Int) + 1) 16 s)
    kidsR po n (l ++ [u.1]) u.2
def polR : Nat → Pz → Pol × Pz
  | 0, s => (.mk ⟨#[]⟩ false 0 [] [] [] [], s)
  | f + 1, s =>
    let s0 := mostR (5 - (f : Int)) 4 s
    let a := mustR [w_policy, w_set] s0
    let b := nameR a.2
    let c := mustR [w_denyover, w_permitover, w_first, w_only, w_denyunless, w_permitunless] b.2
    let t := targetR c.2
    let d := mustR [m_lb] t.2
    let k := if a.1 = 2 then kidsR (polR f) d.2.rest.length [] d.2 else ([], d.2)
    let r := if a.1 = 2 then ([], k.2) else rulesR d.2.rest.length [] d.2
    let e := mustR [m_rb] r.2
    let o := dutsR e.2
    (.mk b.1 (decide (a.1 = 2)) (c.1 : Int) t.1 r.1 k.1 o.1, o.2)
def noPol : Pol := .mk ⟨#[]⟩ false 0 [] [] [] []
def parseR (s : ByteArray) : Pol × Int × Int :=
  if 4096 < s.size then (noPol, 6, 4096) else
  match lexB s.data.toList 0 with
  | .error p => (noPol, 5, (p : Int))
  | .ok ts =>
    let u := polR 5 ⟨ts, 0, 0, 0⟩
    let z := endR u.2
    if z.err = 0 then (if rightE u.1 = 0 then (u.1, 0, 0) else (noPol, 5, (s.size : Int))) else (noPol, z.err, z.at_)

/-! ### What holds all along -/
section
variable {L : Nat} {s : Pz}
theorem Pz.ok.ne (h : s.ok L) : s.rest ≠ [] := by
  obtain ⟨⟨e, he, _⟩, _⟩ := h
  intro h0
  rw [h0] at he
  cases he
theorem Pz.ok.pos (h : s.ok L) : 1 ≤ s.rest.length := List.length_pos_iff.2 h.ne
theorem Pz.ok.get0 (h : s.ok L) : s.rest[0]? = some s.hd := by
  have := h.ne
  unfold Pz.hd
  cases hr : s.rest with
  | nil => exact absurd hr this
  | cons t l => rfl
theorem Pz.ok.hd_ok (h : s.ok L) : InI s.hd.k ∧ (0 ≤ s.hd.p ∧ s.hd.p ≤ (L : Int)) ∧ InI s.hd.n ∧ s.hd.s.size ≤ maxLen := h.2.1 _ (List.mem_of_getElem? h.get0)
theorem Pz.ok.more (h : s.ok L) (hk : s.hd.k ≠ 7) : 2 ≤ s.rest.length := by
  have h0 := h.ne
  obtain ⟨⟨e, he, h7⟩, _⟩ := h
  unfold Pz.hd at hk
  rcases hr : s.rest with _ | ⟨t, _ | ⟨u, l⟩⟩
  · exact absurd hr h0
  · rw [hr] at he hk
    simp at he hk
    rw [he] at hk
    exact absurd h7 hk
  · simp
theorem Pz.ok.next (h : s.ok L) (hk : s.hd.k ≠ 7) : (nextR s).ok L := by
  have h2 := h.more hk
  obtain ⟨⟨e, he, h7⟩, ha, hl, hx⟩ := h
  rcases hr : s.rest with _ | ⟨t, l⟩
  · rw [hr] at h2; simp at h2
  · rw [hr] at h2
    simp at h2
    refine ⟨⟨e, ?_, h7⟩, fun t ht => ha t ?_, ?_, hx⟩
    · show (s.rest.drop 1).getLast? = _
      rw [hr] at he ⊢
      rcases l with _ | ⟨u, l⟩
      · simp at h2
      · simpa [List.getLast?_cons_cons] using he
    · exact List.mem_of_mem_drop ht
    · have e : (nextR s).rest.length = s.rest.length - 1 := List.length_drop
      have e2 : (nextR s).met = s.met := rfl
      omega
theorem Pz.ok.fail (h : s.ok L) {e p : Int} (he : e = 5 ∨ e = 6) (hp : 0 ≤ p ∧ p ≤ (L : Int)) : (failR e p s).ok L := by
  have h1 := h.pos
  have key : ∀ (x y : Int), (x = 0 ∨ x = 5 ∨ x = 6) → 0 ≤ y ∧ y ≤ (L : Int) → (⟨s.rest.drop (s.rest.length - 1), s.met, x, y⟩ : Pz).ok L := by
    intro x y hx hy
    obtain ⟨⟨z, hz, h7⟩, ha, hl, _⟩ := h
    refine ⟨⟨z, ?_, h7⟩, fun t ht => ha t (List.mem_of_mem_drop ht), ?_, hx, hy⟩
    · show (s.rest.drop (s.rest.length - 1)).getLast? = _
      rw [List.getLast?_drop, if_neg (by omega)]
      exact hz
    · show (s.rest.drop (s.rest.length - 1)).length ≤ _ ∧ s.met + (s.rest.drop (s.rest.length - 1)).length ≤ _ ∧ _
      rw [List.length_drop]
      omega
  unfold failR
  split
  · exact key _ _ (by omega) hp
  · exact key _ _ h.2.2.2.1 h.2.2.2.2
theorem Pz.ok.wrong (h : s.ok L) : (wrongR s).ok L := h.fail (by omega) h.hd_ok.2.1
theorem Pz.ok.most (h : s.ok L) (n l : Int) : (mostR n l s).ok L := by
  unfold mostR
  split
  · exact h.fail (by omega) h.hd_ok.2.1
  · exact h
theorem failR_len (e p : Int) (h : s.ok L) : (failR e p s).rest.length = 1 := by
  have := h.pos
  unfold failR
  split <;> (show (s.rest.drop (s.rest.length - 1)).length = 1; rw [List.length_drop]; omega)
theorem mostR_len (h : s.ok L) (n l : Int) : (mostR n l s).rest.length ≤ s.rest.length := by
  have := h.pos
  unfold mostR
  split
  · rw [failR_len _ _ h]; exact this
  · exact Nat.le_refl _
theorem seesR_more (h : s.ok L) {ws : List ByteArray} (h0 : seesR ws s ≠ 0) : s.hd.k ≠ 7 := by
  intro h7
  unfold seesR at h0
  rw [h7] at h0
  simp at h0
theorem nextR_len (s : Pz) : (nextR s).rest.length = s.rest.length - 1 := List.length_drop
theorem Pz.ok.take (h : s.ok L) (ws : List ByteArray) : (takeR ws s).2.ok L := by
  unfold takeR
  split
  · exact h
  · rename_i h0
    exact h.next (seesR_more h h0)
theorem Pz.ok.must (h : s.ok L) (ws : List ByteArray) : (mustR ws s).2.ok L := by
  unfold mustR
  split
  · exact h.wrong
  · rename_i h0
    exact h.next (seesR_more h h0)
theorem Pz.ok.name (h : s.ok L) : (nameR s).2.ok L := by
  unfold nameR
  split
  · rename_i h1
    exact h.next (by omega)
  · exact h.wrong
theorem takeR_len (h : s.ok L) (ws : List ByteArray) : (takeR ws s).2.rest.length + (if (takeR ws s).1 = 0 then 0 else 1) = s.rest.length := by
  have := h.pos
  unfold takeR
  split
  · simp
  · rename_i h0
    show (nextR s).rest.length + 1 = _
    rw [nextR_len]
    omega
theorem mustR_len (h : s.ok L) (ws : List ByteArray) : (mustR ws s).2.rest.length ≤ s.rest.length ∧ 1 ≤ (mustR ws s).2.rest.length := by
  have := h.pos
  refine ⟨?_, (h.must ws).pos⟩
  unfold mustR
  split
  · unfold wrongR; rw [failR_len _ _ h]; exact this
  · rw [nextR_len]; omega
theorem nameR_len (h : s.ok L) : (nameR s).2.rest.length ≤ s.rest.length := by
  have := h.pos
  unfold nameR
  split
  · rw [nextR_len]; omega
  · unfold wrongR; rw [failR_len _ _ h]; exact this
theorem idxW_le (x : ByteArray) : ∀ ws : List ByteArray, idxW x ws ≤ ws.length
  | [] => Nat.le_refl _
  | y :: l => by
    have := idxW_le x l
    unfold idxW
    split
    · simp
    · split
      · omega
      · simp; omega
theorem seesR_le (ws : List ByteArray) (s : Pz) : seesR ws s ≤ ws.length := by
  unfold seesR
  split
  · exact idxW_le _ _
  · omega
theorem takeR_le (ws : List ByteArray) (s : Pz) : (takeR ws s).1 ≤ ws.length := by
  unfold takeR
  split
  · exact Nat.zero_le _
  · exact seesR_le _ _
theorem mustR_le (ws : List ByteArray) (s : Pz) : (mustR ws s).1 ≤ ws.length := by
  unfold mustR
  split
  · exact Nat.zero_le _
  · exact seesR_le _ _
theorem nameR_size (h : s.ok L) : (nameR s).1.size ≤ maxLen := by
  unfold nameR
  split
  · exact h.hd_ok.2.2.2
  · exact Nat.zero_le _
end
end Go.Proofs.Ytadjfkgnoklmiaa
/- The parser, plainly: what is left only shrinks, and what is read is such as Go has. -/
namespace Go.Proofs.Ytadjfkgnoklmiaa
set_option linter.unusedVariables false

def Goes (L : Nat) (s s' : Pz) : Prop := s'.ok L ∧ s'.rest.length ≤ s.rest.length
section
variable {L : Nat} {s s1 s2 : Pz}
theorem Goes.refl (h : s.ok L) : Goes L s s := ⟨h, Nat.le_refl _⟩
theorem Goes.trans (h1 : Goes L s s1) (h2 : s1.ok L → Goes L s1 s2) : Goes L s s2 := ⟨(h2 h1.1).1, Nat.le_trans (h2 h1.1).2 h1.2⟩
theorem fail_go (h : s.ok L) {e p : Int} (he : e = 5 ∨ e = 6) (hp : 0 ≤ p ∧ p ≤ (L : Int)) : Goes L s (failR e p s) := ⟨h.fail he hp, by rw [failR_len e p h]; exact h.pos⟩
theorem wrong_go (h : s.ok L) : Goes L s (wrongR s) := fail_go h (.inl rfl) h.hd_ok.2.1
theorem most_go (h : s.ok L) (n l : Int) : Goes L s (mostR n l s) := ⟨h.most n l, mostR_len h n l⟩
theorem take_go (h : s.ok L) (ws : List ByteArray) : Goes L s (takeR ws s).2 := ⟨h.take ws, by have := takeR_len h ws; omega⟩
theorem must_go (h : s.ok L) (ws : List ByteArray) : Goes L s (mustR ws s).2 := ⟨h.must ws, (mustR_len h ws).1⟩
theorem name_go (h : s.ok L) : Goes L s (nameR s).2 := ⟨h.name, nameR_len h⟩
theorem next_go (h : s.ok L) (hk : s.hd.k ≠ 7) : Goes L s (nextR s) := ⟨h.next hk, by rw [nextR_len]; omega⟩
theorem attr_go (h : s.ok L) (cat : Int) : Goes L s (attrR cat s).2 := by
  have h1 : Goes L s (if cat = 0 then wrongR s else s) := by
    split
    · exact wrong_go h
    · exact .refl h
  exact ((h1.trans fun h => must_go h _).trans fun h => name_go h).trans fun h => take_go h _
theorem value_go (h : s.ok L) : Goes L s (valueR s).2 := by
  unfold valueR
  split
  · exact must_go h _
  · rename_i hk
    exact next_go h (by intro e; rw [e] at hk; exact hk rfl)
theorem match_go (h : s.ok L) : Goes L s (matchR s).2 :=
  (((take_go h _).trans fun h => attr_go h _).trans fun h => must_go h _).trans fun h => value_go h
theorem leaf_go (h : s.ok L) : Goes L s (leafR s).2 := by
  unfold leafR
  split
  · exact (take_go h _).trans fun h => attr_go h _
  · exact (take_go h _).trans fun h => value_go h
theorem row_go {α : Type} {one : Pz → α × Pz} {btw : ByteArray} (ho : ∀ s, s.ok L → Goes L s (one s).2) : ∀ (n : Nat) (l : List α) (s : Pz), s.ok L → Goes L s (rowR one btw n l s).2
  | 0, l, s, h => .refl h
  | n + 1, l, s, h => by
    have h1 := ((ho s h).trans fun h => most_go h ((l ++ [(one s).1]).length : Int) 8).trans fun h => take_go h [btw]
    unfold rowR
    simp only
    split
    · exact h1
    · exact h1.trans fun h => row_go ho n _ _ h
theorem allOf_go (h : s.ok L) : Goes L s (allOfR s).2 := row_go (fun s h => match_go h) _ _ _ h
theorem anyOf_go (h : s.ok L) : Goes L s (anyOfR s).2 :=
  ((must_go h [m_lp]).trans fun h => row_go (fun s h => allOf_go h) _ _ _ h).trans fun h => must_go h _
theorem target_go (h : s.ok L) : Goes L s (targetR s).2 := by
  unfold targetR
  split
  · exact take_go h _
  · exact (take_go h _).trans fun h => row_go (fun s h => anyOf_go h) _ _ _ h
theorem duties_go : ∀ (n : Nat) (l : List Dut) (s : Pz), s.ok L → Goes L s (dutiesR n l s).2
  | 0, l, s, h => .refl h
  | n + 1, l, s, h => by
    unfold dutiesR
    split
    · exact take_go h _
    · exact (((((take_go h _).trans fun h => must_go h _).trans fun h => must_go h _).trans fun h => name_go h).trans fun h => most_go h _ _).trans fun h => duties_go n _ _ h
theorem duts_go (h : s.ok L) : Goes L s (dutsR s).2 := duties_go _ _ _ h
theorem nod_go (h : s.ok L) (bag : Bool) {p : Int} (hp : 0 ≤ p ∧ p ≤ (L : Int)) (l : List Nod) (n : Nod) : Goes L s (nodR bag p l n s).2 := by
  unfold nodR
  simp only
  split
  · exact (most_go h _ _).trans fun h => fail_go h (.inl rfl) hp
  · exact most_go h _ _
theorem expr_go : ∀ (n : Nat) (l : List Nod) (bag : Bool) (s : Pz), s.ok L → s.rest.length ≤ n → Goes L s (exprR n l bag s).2 ∧ (exprR n l bag s).1.length + 2 * (exprR n l bag s).2.rest.length ≤ l.length + 2 * s.rest.length + 1
  | 0, l, bag, s, h, hn => by have := h.pos; omega
  | n + 1, l, bag, s, h, hn => by
    have ht := take_go h [m_lp]
    have hp := h.hd_ok.2.1
    unfold exprR
    split
    · rename_i h0
      have hl := takeR_len h [m_lp]
      rw [if_neg (by omega)] at hl
      simp only [callR]
      generalize (takeR [m_lp] s).2 = s1 at *
      have hm := must_go ht.1 [w_one, w_size, w_has, w_eq, w_less, w_add, w_sub, w_mul, w_not, w_and, w_or]
      generalize mustR [w_one, w_size, w_has, w_eq, w_less, w_add, w_sub, w_mul, w_not, w_and, w_or] s1 = m at *
      obtain ⟨i, s2⟩ := m
      simp only at hm ⊢
      obtain ⟨he, hel⟩ := expr_go n l (isBag (2 + (i : Int))) s2 hm.1 (by have := hm.2; omega)
      generalize exprR n l (isBag (2 + (i : Int))) s2 = e at *
      obtain ⟨l3, s3⟩ := e
      simp only at he hel ⊢
      have key : ∀ f : List Nod × Pz, f = (if isTwo (2 + (i : Int)) = true then exprR n l3 false s3 else (l3, s3)) → Goes L s3 f.2 ∧ f.1.length + 2 * f.2.rest.length ≤ l3.length + 2 * s3.rest.length + 1 := by
        intro f hf
        split at hf
        · subst hf
          exact expr_go n l3 false s3 he.1 (by have := hm.2; have := he.2; omega)
        · subst hf
          exact ⟨.refl he.1, by simp only; omega⟩
      obtain ⟨hf, hfl⟩ := key _ rfl
      generalize (if isTwo (2 + (i : Int)) = true then exprR n l3 false s3 else (l3, s3)) = f at *
      obtain ⟨l4, s4⟩ := f
      simp only at hf hfl ⊢
      have hr := must_go hf.1 [m_rp]
      have hN := nod_go hr.1 bag hp l4 ⟨2 + (i : Int), zeroV, zeroA⟩
      refine ⟨⟨hN.1, ?_⟩, ?_⟩
      · have := hN.2; have := hr.2; have := hf.2; have := he.2; have := hm.2; have := ht.2; omega
      · have e1 : (nodR bag s.hd.p l4 ⟨2 + (i : Int), zeroV, zeroA⟩ (mustR [m_rp] s4).2).1.length = l4.length + 1 := by simp [nodR]
        have := hN.2; have := hr.2; have := hf.2; have := he.2; have := hm.2
        omega
    · have hlf := leaf_go ht.1
      have hN := nod_go hlf.1 bag hp l (leafR (takeR [m_lp] s).2).1
      have hl := takeR_len h [m_lp]
      refine ⟨⟨hN.1, ?_⟩, ?_⟩
      · have := hN.2; have := hlf.2; have := ht.2; omega
      · have e1 : (nodR bag s.hd.p l (leafR (takeR [m_lp] s).2).1 (leafR (takeR [m_lp] s).2).2).1.length = l.length + 1 := by simp [nodR]
        have := hN.2; have := hlf.2
        omega
theorem cond_go (h : s.ok L) : Goes L s (condR s).2 := by
  unfold condR
  split
  · exact take_go h _
  · exact (take_go h _).trans fun h => (expr_go _ [] false _ h (Nat.le_refl _)).1
theorem rule_go (h : s.ok L) : Goes L s (ruleR s).2 := by
  have h1 := must_go h [w_permit, w_deny]
  have h2 := h1.trans fun h => name_go h
  have h3 := h2.trans fun h => target_go h
  have h4 := h3.trans fun h => cond_go h
  have h5 := h4.trans fun h => duts_go h
  have h6 := h5.trans fun h => must_go h [m_semi]
  unfold ruleR
  simp only
  exact h6

/-! ### What is read is such as Go has -/
theorem zeroV_ok : zeroV.ok := by decide
theorem zeroA_ok : zeroA.ok := by decide
theorem attr_ok (h : s.ok L) {cat : Int} (hc : InI cat) : (attrR cat s).1.ok := by
  have h1 : Goes L s (if cat = 0 then wrongR s else s) := by
    split
    · exact wrong_go h
    · exact .refl h
  exact ⟨hc, nameR_size (h1.trans fun h => must_go h [m_dot]).1⟩
theorem in_small {n : Int} (h1 : -100 ≤ n) (h2 : n ≤ 100) : InI n := by unfold InI; omega
theorem kindR_in (k : Int) : InI (kindR k) := by
  unfold kindR
  repeat' split
  all_goals exact in_small (by omega) (by omega)
theorem value_ok (h : s.ok L) : (valueR s).1.ok := by
  unfold valueR
  split
  · have := mustR_le [w_false, w_true] s
    have : (mustR [w_false, w_true] s).1 ≤ 2 := this
    exact ⟨in_small (by show -100 ≤ (1 : Int); omega) (by show (1 : Int) ≤ 100; omega), in_small (by show -100 ≤ ((mustR [w_false, w_true] s).1 : Int) - 1; omega) (by show ((mustR [w_false, w_true] s).1 : Int) - 1 ≤ 100; omega), Nat.zero_le _⟩
  · exact ⟨kindR_in _, h.hd_ok.2.2.1, h.hd_ok.2.2.2⟩
theorem cat_in (s : Pz) : InI ((catR s).1 : Int) := by
  have : (catR s).1 ≤ 4 := takeR_le _ _
  exact in_small (by omega) (by omega)
theorem match_ok (h : s.ok L) : (matchR s).1.ok := by
  have h1 : (catR s).2.ok L := h.take _
  have h2 := attr_go h1 ((catR s).1 : Int)
  have h3 : (mustR [m_eqm, m_lt, m_gt] (attrR ((catR s).1 : Int) (catR s).2).2).1 ≤ 3 := mustR_le _ _
  exact ⟨attr_ok h1 (cat_in s), in_small (by show -100 ≤ ((mustR [m_eqm, m_lt, m_gt] (attrR ((catR s).1 : Int) (catR s).2).2).1 : Int); omega) (by show ((mustR [m_eqm, m_lt, m_gt] (attrR ((catR s).1 : Int) (catR s).2).2).1 : Int) ≤ 100; omega), value_ok (h2.trans fun h => must_go h _).1⟩
theorem leaf_ok (h : s.ok L) : (leafR s).1.ok := by
  have h1 : (catR s).2.ok L := h.take _
  unfold leafR
  split
  · exact ⟨in_small (by show -100 ≤ (2 : Int); omega) (by show (2 : Int) ≤ 100; omega), zeroV_ok, attr_ok h1 (cat_in s)⟩
  · exact ⟨in_small (by show -100 ≤ (1 : Int); omega) (by show (1 : Int) ≤ 100; omega), value_ok h1, zeroA_ok⟩
end
end Go.Proofs.Ytadjfkgnoklmiaa
/- The parser, plainly: who counts rules; what takes a token. -/
namespace Go.Proofs.Ytadjfkgnoklmiaa
set_option linter.unusedVariables false

section
variable {L : Nat} {s s1 s2 : Pz}
theorem failR_met (e p : Int) (s : Pz) : (failR e p s).met = s.met := by unfold failR; split <;> rfl
theorem wrongR_met (s : Pz) : (wrongR s).met = s.met := failR_met _ _ _
theorem mostR_met (n l : Int) (s : Pz) : (mostR n l s).met = s.met := by
  unfold mostR
  split
  · exact failR_met _ _ _
  · rfl
theorem takeR_met (ws : List ByteArray) (s : Pz) : (takeR ws s).2.met = s.met := by unfold takeR; split <;> rfl
theorem mustR_met (ws : List ByteArray) (s : Pz) : (mustR ws s).2.met = s.met := by
  unfold mustR
  split
  · exact wrongR_met _
  · rfl
theorem nameR_met (s : Pz) : (nameR s).2.met = s.met := by
  unfold nameR
  split
  · rfl
  · exact wrongR_met _
theorem attrR_met (cat : Int) (s : Pz) : (attrR cat s).2.met = s.met := by
  unfold attrR
  simp only
  rw [takeR_met, nameR_met, mustR_met]
  split
  · exact wrongR_met _
  · rfl
theorem valueR_met (s : Pz) : (valueR s).2.met = s.met := by
  unfold valueR
  split
  · exact mustR_met _ _
  · rfl
theorem catR_met (s : Pz) : (catR s).2.met = s.met := takeR_met _ _
theorem matchR_met (s : Pz) : (matchR s).2.met = s.met := by
  unfold matchR
  simp only
  rw [valueR_met, mustR_met, attrR_met, catR_met]
theorem leafR_met (s : Pz) : (leafR s).2.met = s.met := by
  unfold leafR
  split
  · simp only; rw [attrR_met, catR_met]
  · simp only; rw [valueR_met, catR_met]
theorem rowR_met {α : Type} {one : Pz → α × Pz} {btw : ByteArray} (ho : ∀ s, (one s).2.met = s.met) : ∀ (n : Nat) (l : List α) (s : Pz), (rowR one btw n l s).2.met = s.met
  | 0, _, _ => rfl
  | n + 1, l, s => by
    unfold rowR
    simp only
    split
    · rw [takeR_met, mostR_met, ho]
    · rw [rowR_met ho n, takeR_met, mostR_met, ho]
theorem allOfR_met (s : Pz) : (allOfR s).2.met = s.met := rowR_met matchR_met _ _ _
theorem anyOfR_met (s : Pz) : (anyOfR s).2.met = s.met := by
  unfold anyOfR
  simp only
  rw [mustR_met, rowR_met allOfR_met, mustR_met]
theorem targetR_met (s : Pz) : (targetR s).2.met = s.met := by
  unfold targetR
  split
  · exact takeR_met _ _
  · rw [rowR_met anyOfR_met, takeR_met]
theorem dutiesR_met : ∀ (n : Nat) (l : List Dut) (s : Pz), (dutiesR n l s).2.met = s.met
  | 0, _, _ => rfl
  | n + 1, l, s => by
    unfold dutiesR
    split
    · exact takeR_met _ _
    · simp only
      rw [dutiesR_met n, mostR_met, nameR_met, mustR_met, mustR_met, takeR_met]
theorem dutsR_met (s : Pz) : (dutsR s).2.met = s.met := dutiesR_met _ _ _
theorem nodR_met (bag : Bool) (p : Int) (l : List Nod) (n : Nod) (s : Pz) : (nodR bag p l n s).2.met = s.met := by
  unfold nodR
  simp only
  split
  · rw [failR_met, mostR_met]
  · rw [mostR_met]
theorem callR_met {ex : List Nod → Bool → Pz → List Nod × Pz} (he : ∀ l b s, (ex l b s).2.met = s.met) (l : List Nod) (s : Pz) : (callR ex l s).2.2.met = s.met := by
  unfold callR
  simp only
  rw [mustR_met]
  split
  · rw [he, he, mustR_met]
  · rw [he, mustR_met]
theorem exprR_met : ∀ (n : Nat) (l : List Nod) (b : Bool) (s : Pz), (exprR n l b s).2.met = s.met
  | 0, _, _, _ => rfl
  | n + 1, l, b, s => by
    unfold exprR
    split
    · simp only
      rw [nodR_met, callR_met (exprR_met n), takeR_met]
    · rw [nodR_met, leafR_met, takeR_met]
theorem condR_met (s : Pz) : (condR s).2.met = s.met := by
  unfold condR
  split
  · exact takeR_met _ _
  · rw [exprR_met, takeR_met]
theorem ruleR_met (s : Pz) : (ruleR s).2.met = s.met := by
  unfold ruleR
  simp only
  rw [mustR_met, dutsR_met, condR_met, targetR_met, nameR_met, mustR_met]

theorem most_or (h : s.ok L) (n l : Int) : mostR n l s = s ∨ (mostR n l s).rest.length = 1 := by
  unfold mostR
  split
  · exact .inr (failR_len _ _ h)
  · exact .inl rfl
theorem sees_more (h : s.ok L) {ws : List ByteArray} (h0 : seesR ws s ≠ 0) : 2 ≤ s.rest.length := h.more (seesR_more h h0)
theorem sees_one (h : s.ok L) (h1 : s.rest.length = 1) (ws : List ByteArray) : seesR ws s = 0 := by
  apply Decidable.byContradiction
  intro h0
  have := sees_more h h0
  omega
theorem must_one (h : s.ok L) (h1 : s.rest.length = 1) (ws : List ByteArray) : (mustR ws s).1 = 0 := by
  unfold mustR
  rw [if_pos (sees_one h h1 ws)]
theorem must_less (h : s.ok L) {ws : List ByteArray} (h0 : seesR ws s ≠ 0) : (mustR ws s).2.rest.length + 1 = s.rest.length := by
  have := sees_more h h0
  unfold mustR
  rw [if_neg h0]
  show (nextR s).rest.length + 1 = _
  rw [nextR_len]
  omega
theorem rule_less (h : s.ok L) (h0 : seesR [w_permit, w_deny] s ≠ 0) : (ruleR s).2.rest.length < s.rest.length := by
  have h1 := must_less h h0
  have h2 := (((((Goes.refl (h.must [w_permit, w_deny])).trans fun h => name_go h).trans fun h => target_go h).trans fun h => cond_go h).trans fun h => duts_go h).trans fun h => must_go h [m_semi]
  have h3 : (ruleR s).2.rest.length ≤ (mustR [w_permit, w_deny] s).2.rest.length := by unfold ruleR; simp only; exact h2.2
  omega
theorem met_ok (h : s.ok L) (hm : s.met + s.rest.length ≤ 5990) : (metR s).ok L := by
  obtain ⟨h1, h2, h3, h4⟩ := h
  exact ⟨h1, h2, ⟨h3.1, by show s.met + 1 + s.rest.length ≤ 6000; omega, h3.2.2⟩, h4⟩
theorem metR_sees (ws : List ByteArray) (s : Pz) : seesR ws (metR s) = seesR ws s := rfl
theorem round_rule (h : s.ok L) (hm : s.met + s.rest.length ≤ 5990) (h0 : seesR [w_permit, w_deny] s ≠ 0) (n : Int) :
    (mostR n 16 (metR s)).ok L ∧ (mostR ((mostR n 16 (metR s)).met : Int) 64 (mostR n 16 (metR s))).ok L ∧ (mostR n 16 (metR s)).met = s.met + 1 ∧
    Goes L s (ruleR (mostR ((mostR n 16 (metR s)).met : Int) 64 (mostR n 16 (metR s)))).2 ∧ (ruleR (mostR ((mostR n 16 (metR s)).met : Int) 64 (mostR n 16 (metR s)))).2.rest.length < s.rest.length ∧
    (ruleR (mostR ((mostR n 16 (metR s)).met : Int) 64 (mostR n 16 (metR s)))).2.met = s.met + 1 := by
  have k0 := met_ok h hm
  have k1 := k0.most n 16
  have e1 : (mostR n 16 (metR s)).met = s.met + 1 := mostR_met _ _ _
  have k2 := k1.most ((mostR n 16 (metR s)).met : Int) 64
  have hr : (metR s).rest.length = s.rest.length := rfl
  have l2 := sees_more h h0
  have lr := rule_go k2
  have key : (ruleR (mostR ((mostR n 16 (metR s)).met : Int) 64 (mostR n 16 (metR s)))).2.rest.length < s.rest.length := by
    rcases most_or k1 ((mostR n 16 (metR s)).met : Int) 64 with e | e
    · rcases most_or k0 n 16 with e' | e'
      · rw [e, e']
        have := rule_less k0 (by rw [metR_sees]; exact h0)
        omega
      · have := lr.2
        rw [e] at this ⊢
        omega
    · have := lr.2
      omega
  refine ⟨k1, k2, e1, ⟨lr.1, by omega⟩, key, ?_⟩
  rw [ruleR_met, mostR_met, e1]
theorem rules_go : ∀ (n : Nat) (l : List Rul) (s : Pz), s.ok L → s.met + s.rest.length ≤ 5990 → Goes L s (rulesR n l s).2 ∧ (rulesR n l s).2.met + (rulesR n l s).2.rest.length ≤ s.met + s.rest.length
  | 0, l, s, h, hm => ⟨.refl h, Nat.le_refl _⟩
  | n + 1, l, s, h, hm => by
    unfold rulesR
    split
    · exact ⟨.refl h, Nat.le_refl _⟩
    · rename_i h0
      obtain ⟨k1, k2, e1, g, hl, hmt⟩ := round_rule h hm h0 ((l.length : Int) + 1)
      simp only
      obtain ⟨a, b⟩ := rules_go n (l ++ [(ruleR (mostR ((mostR ((l.length : Int) + 1) 16 (metR s)).met : Int) 64 (mostR ((l.length : Int) + 1) 16 (metR s)))).1]) _ g.1 (by omega)
      exact ⟨g.trans fun _ => a, by omega⟩
def PoGo (L : Nat) (po : Pz → Pol × Pz) : Prop := ∀ s : Pz, s.ok L → s.met + s.rest.length ≤ 5990 → Goes L s (po s).2 ∧ (po s).2.met + (po s).2.rest.length ≤ s.met + s.rest.length ∧ (seesR [w_policy, w_set] s ≠ 0 → (po s).2.rest.length < s.rest.length)
theorem most_sum (h : s.ok L) (n l : Int) : (mostR n l s).met + (mostR n l s).rest.length ≤ s.met + s.rest.length := by
  have := mostR_len h n l
  rw [mostR_met]
  omega
theorem round_kid {po : Pz → Pol × Pz} (hp : PoGo L po) (h : s.ok L) (hm : s.met + s.rest.length ≤ 5990) (h0 : seesR [w_policy, w_set] s ≠ 0) (n : Int) :
    Goes L s (po (mostR n 16 s)).2 ∧ (po (mostR n 16 s)).2.rest.length < s.rest.length ∧ (po (mostR n 16 s)).2.met + (po (mostR n 16 s)).2.rest.length ≤ s.met + s.rest.length := by
  have k1 := h.most n 16
  have l1 := mostR_len h n 16
  have m1 := most_sum h n 16
  have l2 := sees_more h h0
  obtain ⟨a, b, c⟩ := hp _ k1 (by omega)
  refine ⟨⟨a.1, Nat.le_trans a.2 l1⟩, ?_, by omega⟩
  rcases most_or h n 16 with e | e
  · rw [e] at c ⊢
    exact c h0
  · have := a.2
    omega
theorem kids_go {po : Pz → Pol × Pz} (hp : PoGo L po) : ∀ (n : Nat) (l : List Pol) (s : Pz), s.ok L → s.met + s.rest.length ≤ 5990 → Goes L s (kidsR po n l s).2 ∧ (kidsR po n l s).2.met + (kidsR po n l s).2.rest.length ≤ s.met + s.rest.length
  | 0, l, s, h, hm => ⟨.refl h, Nat.le_refl _⟩
  | n + 1, l, s, h, hm => by
    unfold kidsR
    split
    · exact ⟨.refl h, Nat.le_refl _⟩
    · rename_i h0
      obtain ⟨g, hl, hmt⟩ := round_kid hp h hm h0 ((l.length : Int) + 1)
      simp only
      obtain ⟨a, b⟩ := kids_go hp n (l ++ [(po (mostR ((l.length : Int) + 1) 16 s)).1]) _ g.1 (by omega)
      exact ⟨g.trans fun _ => a, by omega⟩
def Go2 (L : Nat) (s s' : Pz) : Prop := Goes L s s' ∧ s'.met + s'.rest.length ≤ s.met + s.rest.length
theorem Go2.of (g : Goes L s s1) (m : s1.met = s.met) : Go2 L s s1 := ⟨g, by have := g.2; omega⟩
theorem Go2.trans (h1 : Go2 L s s1) (h2 : s1.ok L → Go2 L s1 s2) : Go2 L s s2 := ⟨h1.1.trans fun h => (h2 h).1, Nat.le_trans (h2 h1.1.1).2 h1.2⟩
abbrev w_algs : List ByteArray := [w_denyover, w_permitover, w_first, w_only, w_denyunless, w_permitunless]
def inR (f : Nat) (a : Nat) (s : Pz) : List Rul × List Pol × Pz :=
  if a = 2 then ([], kidsR (polR f) s.rest.length [] s) else ((rulesR s.rest.length [] s).1, [], (rulesR s.rest.length [] s).2)
theorem polR_eq (f : Nat) (s : Pz) {s0 s1 s2 s3 s4 s5 s6 s7 s8 : Pz} {a c d e : Nat} {b : ByteArray} {t : Tgt} {r : List Rul} {k : List Pol} {o : List Dut} (h0 : mostR (5 - (f : Int)) 4 s = s0) (h1 : mustR [w_policy, w_set] s0 = (a, s1)) (h2 : nameR s1 = (b, s2)) (h3 : mustR w_algs s2 = (c, s3))
    (h4 : targetR s3 = (t, s4)) (h5 : mustR [m_lb] s4 = (d, s5)) (h6 : inR f a s5 = (r, k, s6)) (h7 : mustR [m_rb] s6 = (e, s7)) (h8 : dutsR s7 = (o, s8)) :
    polR (f + 1) s = (.mk b (decide (a = 2)) (c : Int) t r k o, s8) := by
  unfold polR
  simp only [h0, h1, h2, h3, h4, h5]
  unfold inR at h6
  split at h6
  · rename_i ha
    have e1 : ((kidsR (polR f) s5.rest.length [] s5).1, (kidsR (polR f) s5.rest.length [] s5).2) = (k, s6) := by injection h6
    have e2 : ([] : List Rul) = r := by injection h6
    injection e1 with e3 e4
    subst e2 e3 e4
    simp only [if_pos ha, h7, h8]
  · rename_i ha
    injection h6 with e1 e2
    injection e2 with e2 e3
    subst e1 e2 e3
    simp only [if_neg ha, h7, h8]
theorem pol_step (f : Nat) (ih : ∀ f', f = f' + 1 → PoGo L (polR f)) : ∀ s : Pz, s.ok L → s.met + s.rest.length ≤ 5990 → ∀ {a : Nat} {s1 : Pz}, mustR [w_policy, w_set] (mostR (5 - (f : Int)) 4 s) = (a, s1) →
    ∀ s5 : Pz, Go2 L s1 s5 → s5.ok L → s5.met + s5.rest.length ≤ 5990 → Go2 L s5 (inR f a s5).2.2 := by
  intro s h hm a s1 h1 s5 g5 k5 m5
  unfold inR
  split
  · rename_i ha
    match f, ih with
    | 0, ih =>
      have h5 : (mostR (5 - ((0 : Nat) : Int)) 4 s).rest.length = 1 := by
        unfold mostR
        rw [if_pos (by omega)]
        exact failR_len _ _ h
      have := must_one (h.most (5 - ((0 : Nat) : Int)) 4) h5 [w_policy, w_set]
      rw [h1] at this
      simp only at this
      omega
    | f' + 1, ih => exact kids_go (ih f' rfl) _ _ _ k5 m5
  · exact rules_go _ _ _ k5 m5
theorem pol_key (f : Nat) (ih : ∀ f', f = f' + 1 → PoGo L (polR f)) : PoGo L (polR (f + 1)) := by
  intro s h hm
  obtain ⟨s0, h0⟩ : ∃ t, mostR (5 - (f : Int)) 4 s = t := ⟨_, rfl⟩
  obtain ⟨a, s1, h1⟩ : ∃ a t, mustR [w_policy, w_set] s0 = (a, t) := ⟨_, _, rfl⟩
  obtain ⟨b, s2, h2⟩ : ∃ a t, nameR s1 = (a, t) := ⟨_, _, rfl⟩
  obtain ⟨c, s3, h3⟩ : ∃ a t, mustR w_algs s2 = (a, t) := ⟨_, _, rfl⟩
  obtain ⟨t, s4, h4⟩ : ∃ a t, targetR s3 = (a, t) := ⟨_, _, rfl⟩
  obtain ⟨d, s5, h5⟩ : ∃ a t, mustR [m_lb] s4 = (a, t) := ⟨_, _, rfl⟩
  obtain ⟨r, k, s6, h6⟩ : ∃ x y z, inR f a s5 = (x, y, z) := ⟨_, _, _, rfl⟩
  obtain ⟨e, s7, h7⟩ : ∃ a t, mustR [m_rb] s6 = (a, t) := ⟨_, _, rfl⟩
  obtain ⟨o, s8, h8⟩ : ∃ a t, dutsR s7 = (a, t) := ⟨_, _, rfl⟩
  have G0 : Go2 L s s0 := .of (h0 ▸ most_go h _ _) (h0 ▸ mostR_met _ _ _)
  have k0 := G0.1.1
  have G1 : Go2 L s0 s1 := .of (by have := must_go k0 [w_policy, w_set]; rwa [h1] at this) (by have := mustR_met [w_policy, w_set] s0; rwa [h1] at this)
  have k1 := G1.1.1
  have G2 : Go2 L s1 s2 := .of (by have := name_go k1; rwa [h2] at this) (by have := nameR_met s1; rwa [h2] at this)
  have k2 := G2.1.1
  have G3 : Go2 L s2 s3 := .of (by have := must_go k2 w_algs; rwa [h3] at this) (by have := mustR_met w_algs s2; rwa [h3] at this)
  have k3 := G3.1.1
  have G4 : Go2 L s3 s4 := .of (by have := target_go k3; rwa [h4] at this) (by have := targetR_met s3; rwa [h4] at this)
  have k4 := G4.1.1
  have G5 : Go2 L s4 s5 := .of (by have := must_go k4 [m_lb]; rwa [h5] at this) (by have := mustR_met [m_lb] s4; rwa [h5] at this)
  have k5 := G5.1.1
  have G15 : Go2 L s1 s5 := ((G2.trans fun _ => G3).trans fun _ => G4).trans fun _ => G5
  have G6 : Go2 L s5 s6 := by
    have := pol_step f ih s h hm (by rw [h0]; exact h1) s5 G15 k5 (by have := G0.2; have := G1.2; have := G15.2; omega)
    rwa [h6] at this
  have k6 := G6.1.1
  have G7 : Go2 L s6 s7 := .of (by have := must_go k6 [m_rb]; rwa [h7] at this) (by have := mustR_met [m_rb] s6; rwa [h7] at this)
  have k7 := G7.1.1
  have G8 : Go2 L s7 s8 := .of (by have := duts_go k7; rwa [h8] at this) (by have := dutsR_met s7; rwa [h8] at this)
  have G18 : Go2 L s1 s8 := ((G15.trans fun _ => G6).trans fun _ => G7).trans fun _ => G8
  have G08 := G0.trans fun _ => G1.trans fun _ => G18
  rw [polR_eq f s h0 h1 h2 h3 h4 h5 h6 h7 h8]
  refine ⟨G08.1, G08.2, fun hs => ?_⟩
  have l2 := sees_more h hs
  have := G18.1.2
  rcases most_or h (5 - (f : Int)) 4 with e | e
  · rw [h0] at e
    subst e
    have := must_less k0 hs
    rw [h1] at this
    simp only at this ⊢
    omega
  · rw [h0] at e
    have := G1.1.2
    simp only
    omega
theorem pol_go : ∀ f : Nat, PoGo L (polR (f + 1))
  | 0 => pol_key 0 (fun f' e => by omega)
  | f + 1 => pol_key (f + 1) (fun f' e => by obtain rfl : f = f' := by omega
                                             exact pol_go f)
end
end Go.Proofs.Ytadjfkgnoklmiaa
/- The parser, plainly: the tokens it begins with; what it answers. -/
namespace Go.Proofs.Ytadjfkgnoklmiaa
set_option linter.unusedVariables false

theorem decD_le {most : Nat} {d : List UInt8} {x : Nat} (h : decD most d = some x) : x ≤ most := by
  unfold decD at h
  split at h
  · cases h
  · rename_i hn
    cases h
    exact Nat.le_of_not_lt fun h => hn (.inr (.inr h))
theorem tokB_in {l : List UInt8} {k n : Int} {s : List UInt8} {m : Nat} (h : tokB l = some (k, n, s, m)) : (1 ≤ k ∧ k ≤ 6) ∧ InI n := by
  cases l with
  | nil => cases h
  | cons c r =>
    rw [tokB] at h
    have z : InI 0 := by unfold InI; omega
    split at h
    · split at h
      · cases h; exact ⟨by omega, z⟩
      · cases h
    · split at h
      · cases hq : decD 9223372036854775807 ((c :: r).takeWhile dgt) with
        | none => rw [hq] at h; cases h
        | some x =>
          have := decD_le hq
          rw [hq] at h
          cases h
          exact ⟨by omega, by unfold InI; omega⟩
      · split at h
        · cases hq : decD 9223372036854775808 (r.takeWhile dgt) with
          | none => rw [hq] at h; cases h
          | some x =>
            have := decD_le hq
            rw [hq] at h
            simp only [Option.bind_some] at h
            split at h
            · cases h
            · cases h; exact ⟨by omega, by unfold InI; omega⟩
        · split at h
          · cases hq : decD 1099511627776 (r.takeWhile dgt) with
            | none => rw [hq] at h; cases h
            | some x =>
              have := decD_le hq
              rw [hq] at h; cases h; exact ⟨by omega, by unfold InI; omega⟩
          · split at h
            · split at h
              · cases h; exact ⟨by omega, z⟩
              · cases h
            · split at h
              · cases hq : qtB r with
                | none => rw [hq] at h; cases h
                | some q =>
                  rw [hq] at h
                  simp only [Option.bind_some] at h
                  split at h
                  · cases h; exact ⟨by omega, z⟩
                  · cases h
              · split at h
                · cases h; exact ⟨by omega, z⟩
                · cases h
theorem lexB_in : ∀ (n : Nat) (l : List UInt8) (p : Nat) (ts : List Tk), l.length ≤ n → lexB l p = .ok ts → ∀ t ∈ ts, InI t.k ∧ InI t.n ∧ t.s.size ≤ l.length
  | n, [], p, ts, _, h => by
    rw [lexB_nil] at h
    cases h
    intro t ht
    simp at ht
    subst ht
    refine ⟨by unfold InI; simp, by unfold InI; simp, Nat.zero_le _⟩
  | 0, c :: r, p, ts, hl, h => by simp at hl
  | n + 1, c :: r, p, ts, hl, h => by
    cases hb : blk c with
    | true =>
      rw [lexB_blank hb] at h
      intro t ht
      obtain ⟨a, b, c⟩ := lexB_in n r (p + 1) ts (by simpa using hl) h t ht
      exact ⟨a, b, by simp only [List.length_cons]; omega⟩
    | false =>
      cases hq : tokB (c :: r) with
      | none => rw [lexB_bad hb hq] at h; cases h
      | some q =>
        obtain ⟨k, m, s, j⟩ := q
        rw [lexB_tok hb hq] at h
        obtain ⟨j1, j2, j3⟩ := tokB_pos hq
        obtain ⟨⟨k1, k2⟩, hn⟩ := tokB_in hq
        cases hr : lexB ((c :: r).drop j) (p + j) with
        | error e => rw [hr] at h; cases h
        | ok us =>
          rw [hr] at h
          simp only [cat, Except.ok.injEq] at h
          subst h
          intro t ht
          rcases List.mem_append.1 ht with ht | ht
          · simp at ht
            subst ht
            exact ⟨in_small (by show -100 ≤ k; omega) (by show k ≤ 100; omega), hn, by show s.toArray.size ≤ _; simp only [List.size_toArray]; omega⟩
          · obtain ⟨a, b, d⟩ := lexB_in n _ _ us (by simp only [List.length_drop]; simp only [List.length_cons] at hl ⊢; omega) hr t ht
            exact ⟨a, b, by simp only [List.length_drop] at d; omega⟩
theorem start_ok {s : ByteArray} {ts : List Tk} (hs : s.size ≤ 4096) (h : lexB s.data.toList 0 = .ok ts) : (⟨ts, 0, 0, 0⟩ : Pz).ok s.size ∧ ts.length ≤ 4097 := by
  have hl : s.data.toList.length = s.size := rfl
  obtain ⟨us, e, hu⟩ := lexB_ne _ _ 0 ts (Nat.le_refl _) h
  have hp := lexB_places _ _ 0 ts (Nat.le_refl _) h
  have hi := lexB_in _ _ 0 ts (Nat.le_refl _) h
  rw [hl] at hu hp hi
  have hlen : ts.length ≤ 4097 := by rw [e]; simp; omega
  refine ⟨⟨⟨_, by rw [e]; exact List.getLast?_concat, rfl⟩, fun t ht => ?_, ⟨by show ts.length ≤ 5000; omega, by show 0 + ts.length ≤ 6000; omega, hs⟩, .inl rfl, Int.le_refl _, by show (0 : Int) ≤ (s.size : Int); omega⟩, hlen⟩
  obtain ⟨a, b, c⟩ := hi t ht
  obtain ⟨d, f⟩ := hp t ht
  exact ⟨a, ⟨by omega, by omega⟩, b, by unfold maxLen; omega⟩
theorem pair_eq {α β : Type} (x : α × β) : ∃ a b, x = (a, b) := ⟨x.1, x.2, rfl⟩
theorem parseR_big {s : ByteArray} (h : 4096 < s.size) : parseR s = (noPol, 6, 4096) := by unfold parseR; rw [if_pos h]
theorem parseR_bad {s : ByteArray} {p : Nat} (h : s.size ≤ 4096) (hl : lexB s.data.toList 0 = .error p) : parseR s = (noPol, 5, (p : Int)) := by unfold parseR; rw [if_neg (by omega), hl]
theorem parseR_ok {s : ByteArray} {ts : List Tk} {p : Pol} {s1 z : Pz} (h : s.size ≤ 4096) (hl : lexB s.data.toList 0 = .ok ts) (hp : polR 5 ⟨ts, 0, 0, 0⟩ = (p, s1)) (hz : endR s1 = z) :
    parseR s = if z.err = 0 then (if rightE p = 0 then (p, 0, 0) else (noPol, 5, (s.size : Int))) else (noPol, z.err, z.at_) := by
  unfold parseR
  rw [if_neg (by omega), hl]
  simp only [hp, hz]
end Go.Proofs.Ytadjfkgnoklmiaa
/- The parser, plainly: closed texts are read by reckoning. -/
namespace Go.Proofs.Ytadjfkgnoklmiaa
set_option linter.unusedVariables false

def lexF : Nat → List UInt8 → Nat → Except Nat (List Tk)
  | 0, _, _ => .error 0
  | n + 1, [], p => .ok [⟨7, p, 0, ⟨#[]⟩⟩]
  | n + 1, c :: r, p => if blk c = true then lexF n r (p + 1) else
      match tokB (c :: r) with
      | none => .error p
      | some (k, m, s, j) => cat [⟨k, p, m, ⟨s.toArray⟩⟩] (lexF n ((c :: r).drop j) (p + j))
theorem lexF_eq : ∀ (n : Nat) (l : List UInt8) (p : Nat), l.length < n → lexF n l p = lexB l p
  | 0, _, _, h => by omega
  | n + 1, [], p, h => by rw [lexB_nil]; rfl
  | n + 1, c :: r, p, h => by
    simp only [List.length_cons] at h
    unfold lexF
    cases hb : blk c with
    | true => rw [if_pos rfl, lexB_blank hb, lexF_eq n r (p + 1) (by omega)]
    | false =>
      rw [if_neg (by simp)]
      cases hq : tokB (c :: r) with
      | none => rw [lexB_bad hb hq]
      | some q =>
        obtain ⟨k, m, s, j⟩ := q
        have := (tokB_pos hq).1
        rw [lexB_tok hb hq]
        simp only
        rw [lexF_eq n _ (p + j) (by simp only [List.length_drop, List.length_cons]; omega)]
def parseF (n : Nat) (l : List UInt8) : Pol × Int × Int :=
  if 4096 < l.length then (noPol, 6, 4096) else
  match lexF n l 0 with
  | .error p => (noPol, 5, (p : Int))
  | .ok ts =>
    let u := polR 5 ⟨ts, 0, 0, 0⟩
    let z := endR u.2
    if z.err = 0 then (if rightE u.1 = 0 then (u.1, 0, 0) else (noPol, 5, (l.length : Int))) else (noPol, z.err, z.at_)
theorem parseF_eq (s : ByteArray) : parseR s = parseF (s.data.toList.length + 1) s.data.toList := by
  unfold parseR parseF
  rw [lexF_eq _ _ 0 (Nat.lt_succ_self _)]
  rfl
theorem parse_eval {s : ByteArray} {n : Nat} {x : Pol × Int × Int} (h : parseF (n + 1) s.data.toList = x) (hn : s.data.toList.length = n) : parseR s = x := by
  rw [parseF_eq, hn, h]
end Go.Proofs.Ytadjfkgnoklmiaa
/- Chapter 15's runs, plainly. -/
namespace Go.Proofs.Ytadjfkgnoklmiaa
set_option linter.unusedVariables false

def vrM : Mat := ⟨⟨3, ⟨#[120]⟩, false⟩, 1, ⟨2, 1, ⟨#[]⟩⟩⟩
def vrN : Nod := ⟨1, ⟨1, 1, ⟨#[]⟩⟩, ⟨0, ⟨#[]⟩, false⟩⟩
def vrP : Pol := .mk ⟨#[112]⟩ false 3 [[[vrM]]] [⟨⟨#[114]⟩, false, [[[vrM]]], [vrN], []⟩, ⟨⟨#[100]⟩, true, [], [vrN], []⟩] [] []
theorem vr_run : parseR ⟨#[112, 111, 108, 105, 99, 121, 32, 112, 32, 102, 105, 114, 115, 116, 32, 119, 104, 101, 110, 32, 40, 99, 97, 115, 101, 46, 120, 32, 61, 32, 49, 41, 32, 123, 32, 112, 101, 114, 109, 105, 116, 32, 114, 32, 119, 104, 101, 110, 32, 40, 99, 97, 115, 101, 46, 120, 32, 61, 32, 49, 41, 32, 105, 102, 32, 116, 114, 117, 101, 59, 32, 100, 101, 110, 121, 32, 100, 32, 105, 102, 32, 116, 114, 117, 101, 59, 32, 125]⟩ = (vrP, 0, 0) := parse_eval (n := 88) (by kernel_rfl) (by kernel_rfl)
theorem vr_right : rightE vrP = 0 := by kernel_rfl
theorem vr_atoms : atomsP vrP = [matA vrM, conA [vrN]] := by kernel_rfl
end Go.Proofs.Ytadjfkgnoklmiaa
/- The parser's reader in memory; its smallest functions. -/
namespace Go.Proofs.Ytadjfkgnoklmiaa
set_option linter.unusedVariables false
open Go.RowKit

def Rd (L : Nat) (w : World) (g : Nat) (s : Pz) : Prop :=
  ∃ b o n c, Ob w g 74 #[.slice (some ⟨b, o, none⟩) n c, .int .i64 (s.met : Int), .int .i64 s.err, .int .i64 s.at_] ∧ s.ok L ∧ (s.rest.length = n ∧ n ≤ c ∧ c ≤ maxLen) ∧ b < g ∧
    ∀ j v, s.rest[j]? = some v → w.cell? ⟨b, o + j * 4, none⟩ = some (.int .i64 v.k) ∧ w.cell? ⟨b, o + j * 4 + 1, none⟩ = some (.int .i64 v.p) ∧ w.cell? ⟨b, o + j * 4 + 2, none⟩ = some (.int .i64 v.n) ∧ w.cell? ⟨b, o + j * 4 + 3, none⟩ = some (.string v.s)
section
variable {L g : Nat} {w w' w'' : World} {s : Pz}
theorem Rd.ok (h : Rd L w g s) : s.ok L := by obtain ⟨b, o, n, c, _, h, _⟩ := h; exact h
theorem Rd.lt (h : Rd L w g s) : g < w.heap.size := by obtain ⟨b, o, n, c, h, _⟩ := h; exact h.lt
theorem Rd.keep (h : Rd L w g s) (hk : ∀ k, k ≤ g → w'.heap[k]? = w.heap[k]?) : Rd L w' g s := by
  obtain ⟨b, o, n, c, h1, h2, h3, h4, h5⟩ := h
  refine ⟨b, o, n, c, h1.keep (hk g (Nat.le_refl _)), h2, h3, h4, fun j v hv => ?_⟩
  obtain ⟨a1, a2, a3, a4⟩ := h5 j v hv
  have e := fun x : Nat => World.cell?_of_block (w := w) (w' := w') (a := ⟨b, x, none⟩) (hk b (Nat.le_of_lt h4))
  exact ⟨(e _).trans a1, (e _).trans a2, (e _).trans a3, (e _).trans a4⟩
theorem Rd.then_ (h : Rd L w g s) (hb : Below w.heap.size w w') : Rd L w' g s := h.keep fun k hk => hb.block k (Nat.lt_of_le_of_lt hk h.lt)
theorem Rd.alloc (h : Rd L w g s) (o : Obj) : Rd L (w.alloc o) g s := h.then_ ((Below.refl _ _).alloc (Nat.le_refl _) _)
theorem Rd.other (h : Rd L w g s) {r : Nat} (ho : Only r w w') (hr : g < r) : Rd L w' g s := h.keep fun k hk => ho.heap (Nat.lt_of_le_of_lt hk h.lt) (by omega)
theorem Rd.set (h : Rd L w g s) {r : Nat} (hr : g < r) (i : Nat) (u : Value) : Rd L (w.setCell ⟨r, i, none⟩ u) g s := h.other (Only.refl.setCell (p := ⟨r, i, none⟩) rfl u) hr
theorem Only.then_ (h : Only g w w') (k : Below w'.heap.size w' w'') : Only g w w'' := h.trans (.of_below k)
theorem Only.al (h : Only g w w') (o : Obj) : Only g w (w'.alloc o) := h.then_ ((Below.refl _ _).alloc (Nat.le_refl _) _)
theorem Only.new (h : Only g w w') {r : Nat} (hr : w.heap.size ≤ r) (i : Nat) (u : Value) : Only g w (w'.setCell ⟨r, i, none⟩ u) :=
  ⟨h.os, h.tape, h.output, by simpa [World.setCell] using h.size, fun k hk hne => (Below.heap_setCell w' ⟨r, i, none⟩ u k (show k ≠ r by omega)).trans (h.block k hk hne)⟩
theorem Only.at_g (h : Only g w w') (i : Nat) (u : Value) : Only g w (w'.setCell ⟨g, i, none⟩ u) := h.setCell (p := ⟨g, i, none⟩) rfl u
theorem Rd.at_ (h : Rd L w g s) : ∃ b o n c, Ob w g 74 #[.slice (some ⟨b, o, none⟩) n c, .int .i64 (s.met : Int), .int .i64 s.err, .int .i64 s.at_] ∧ s.ok L ∧ (s.rest.length = n ∧ 1 ≤ n ∧ n ≤ c ∧ c ≤ maxLen) ∧ b < g ∧
    (w.cell? ⟨b, o, none⟩ = some (.int .i64 s.hd.k) ∧ w.cell? ⟨b, o + 1, none⟩ = some (.int .i64 s.hd.p) ∧ w.cell? ⟨b, o + 2, none⟩ = some (.int .i64 s.hd.n) ∧ w.cell? ⟨b, o + 3, none⟩ = some (.string s.hd.s)) ∧
    ∀ (k : Nat) (m e a : Int) (s' : Pz), k < n → s'.rest = s.rest.drop k → (s'.met : Int) = m → s'.err = e → s'.at_ = a → s'.ok L →
      ∀ w', (∀ j, j < g → w'.heap[j]? = w.heap[j]?) → Ob w' g 74 #[.slice (some ⟨b, o + k * 4, none⟩) (n - k) (c - k), .int .i64 m, .int .i64 e, .int .i64 a] → Rd L w' g s' := by
  obtain ⟨b, o, n, c, h1, h2, ⟨h3, h3a, h3b⟩, h4, h5⟩ := h
  have hp := h2.pos
  refine ⟨b, o, n, c, h1, h2, ⟨h3, by omega, h3a, h3b⟩, h4, by simpa using h5 0 _ h2.get0, fun k m e a s' hk hr hm he ha hok w' hw hob => ?_⟩
  subst hm he ha
  refine ⟨b, o + k * 4, n - k, c - k, hob, hok, ⟨by rw [hr, List.length_drop]; omega, by omega, by omega⟩, h4, fun j v hv => ?_⟩
  rw [hr, List.getElem?_drop] at hv
  obtain ⟨a1, a2, a3, a4⟩ := h5 _ v hv
  have e := fun x : Nat => World.cell?_of_block (w := w) (w' := w') (a := ⟨b, x, none⟩) (hw b h4)
  have ex : o + k * 4 + j * 4 = o + (k + j) * 4 := by omega
  rw [ex]
  exact ⟨(e _).trans a1, (e _).trans a2, (e _).trans a3, (e _).trans a4⟩
end

theorem str_self (s : ByteArray) : (s.toList == s.toList) = true := by simp
theorem str_other {s t : ByteArray} (h : s ≠ t) : (s.toList == t.toList) = false := by
  rw [beq_eq_false_iff_ne]
  intro e
  exact h (text_eq (by show s.data.toList = t.data.toList; rw [← ByteArray.toList_eq, ← ByteArray.toList_eq, e]))
theorem idxW_step {x : ByteArray} : ∀ {ws : List ByteArray} {k : Nat} {y : ByteArray}, (∀ j z, ws[j]? = some z → j < k → x ≠ z) → ws[k]? = some y → x = y → idxW x ws = k + 1
  | [], _, _, _, h, _ => by simp at h
  | z :: l, 0, y, _, h, e => by
    simp at h
    subst h
    simp [idxW, e]
  | z :: l, k + 1, y, hn, h, e => by
    have h0 := hn 0 z rfl (by omega)
    have := idxW_step (x := x) (ws := l) (k := k) (y := y) (fun j v hv hj => hn (j + 1) v (by simpa using hv) (by omega)) (by simpa using h) e
    unfold idxW
    rw [if_neg h0, this, if_neg (by omega)]
theorem idxW_none {x : ByteArray} : ∀ {ws : List ByteArray}, (∀ (j : Nat) z, ws[j]? = some z → x ≠ z) → idxW x ws = 0
  | [], _ => rfl
  | z :: l, h => by
    have := idxW_none (x := x) (ws := l) fun j v hv => h (j + 1) v (by simpa using hv)
    unfold idxW
    rw [if_neg (h 0 z rfl), this, if_pos rfl]

set_option maxHeartbeats 800000 in
theorem index_any {w : World} {B : Nat} {A : Option Addr} {n c : Nat} {ws : List ByteArray} (x : ByteArray) (h : Sl w B A n c (ws.map Value.string)) :
    Calls Try.prog 81 #[.slice A n c, .string x] w fun e w' => e = .returned (.int .i64 ((idxW x ws : Int) - 1)) ∧ w = w' := by
  have hle := h.le
  have hcap := h.cap
  have HL : Hid (ws.length = n) := by show _ = _; rw [← h.len, List.length_map]
  unfold maxLen at hcap
  have H := Lib.hid h
  clear h
  go_enter Try.func81, Try.ntmps81
  go_wp2
  go_loop [8] (fun i => ∃ k : Nat, k ≤ n ∧ i = .int .i64 k ∧ ∀ j z, ws[j]? = some z → j < k → x ≠ z) (fun i => n - (intOf i).toNat)
  case atStart => exact ⟨0, Nat.zero_le _, rfl, fun j z _ h => by omega⟩
  case round =>
    obtain ⟨k, hk, rfl, hf⟩ := hrel
    have HF := Lib.hid hf
    clear hf
    by_cases hlt : k < n
    · obtain ⟨b, o, u, rfl, hb, hu, hc⟩ := H.out.at_ hlt
      rw [List.getElem?_map] at hu
      obtain ⟨y, hy, rfl⟩ := Option.map_eq_some_iff.1 hu
      have HY := Lib.hid hy
      clear hu hy
      by_cases hxy : x = y
      · have hq : (x.toList == y.toList) = true := by rw [hxy]; exact str_self y
        have HXY := Lib.hid hxy
        clear hxy
        go_wp2
        go_ret
        exact ⟨ret_int (by rw [idxW_step HF.out HY.out HXY.out]; omega), rfl⟩
      · have hq := str_other hxy
        have HXY := Lib.hid hxy
        clear hxy
        go_wp2
        go_round
        case rel => exact ⟨k + 1, by omega, by go_num, fun j z hz hj => by
          by_cases e : j = k
          · subst e
            obtain rfl := Option.some.inj (HY.out.symm.trans hz)
            exact HXY.out
          · exact HF.out j z hz (by omega)⟩
        case measure => simp [intOf]; omega
    · obtain rfl : k = n := by omega
      go_wp2
      go_ret
      exact ⟨ret_int (by rw [idxW_none (fun j z hz => HF.out j z hz (by have := HL.out; have := (List.getElem?_eq_some_iff.1 hz).1; omega))]; rfl), rfl⟩
end Go.Proofs.Ytadjfkgnoklmiaa
/- The parser's smallest functions: here, fail, wrong, most, sees, take, must, end, name. -/
namespace Go.Proofs.Ytadjfkgnoklmiaa
set_option linter.unusedVariables false
open Go.RowKit

section
variable {L g : Nat} {w : World} {s : Pz}
set_option maxHeartbeats 800000 in
theorem phere_any (h : Rd L w g s) : Calls Try.prog 65 #[.pointer (some ⟨g, 0, none⟩)] w fun e w' => e = .returned (.int .i64 s.hd.p) ∧ w = w' := by
  obtain ⟨b, o, n, c, hob, hok, ⟨hn, h1, h2, h3⟩, hbg, ⟨c0, c1, c2, c3⟩, _⟩ := h.at_
  have q0 := hob.cell 0
  clear hob hok h
  go_enter Try.func65, Try.ntmps65
  go_wp2_with fail
  go_ret
  exact ⟨rfl, rfl⟩

set_option maxRecDepth 100000 in
set_option maxHeartbeats 1600000 in
theorem pfail_any (h : Rd L w g s) {e p : Int} (he : e = 5 ∨ e = 6) (hp : 0 ≤ p ∧ p ≤ (L : Int)) :
    Calls Try.prog 64 #[.pointer (some ⟨g, 0, none⟩), .int .i64 e, .int .i64 p] w fun x w' => x = .returned (.tuple #[]) ∧ Only g w w' ∧ Rd L w' g (failR e p s) := by
  have HOK := Lib.hid (h.ok.fail he hp)
  obtain ⟨b, o, n, c, hob, hok, ⟨hn, h1, h2, h3⟩, hbg, _, hmk⟩ := h.at_
  have q0 := hob.cell 0
  have q1 := hob.cell 1
  have q2 := hob.cell 2
  have q3 := hob.cell 3
  have f0 := hob.frozen 0
  have f2 := hob.frozen 2
  have f3 := (hob.put 2 (.int .i64 e)).frozen 3
  have HOB := Lib.hid hob
  have HMK := Lib.hid hmk
  have HN := Lib.hid hn
  clear hob hok hmk h hn
  unfold maxLen at h3
  by_cases h0 : s.err = 0
  · have he0 : (s.err == 0) = true := by simpa using h0
    have HE : Hid (failR e p s = ⟨s.rest.drop (s.rest.length - 1), s.met, e, p⟩) := by show _ = _; unfold failR; rw [if_pos h0]
    clear h0
    go_enter Try.func64, Try.ntmps64
    go_wp2_with fail
    have O2 : Hid (Ob ((w.setCell ⟨g, 2, none⟩ (.int .i64 e)).setCell ⟨g, 3, none⟩ (.int .i64 p)) g 74 #[.slice (some ⟨b, o, none⟩) n c, .int .i64 (s.met : Int), .int .i64 e, .int .i64 p]) := Lib.hid (by have := (HOB.out.put 2 (.int .i64 e)).put 3 (.int .i64 p); simpa using this)
    have on2 := Lib.hid (((Only.refl (w := w)).at_g (g := g) 2 (.int .i64 e)).at_g 3 (.int .i64 p))
    generalize (w.setCell ⟨g, 2, none⟩ (.int .i64 e)).setCell ⟨g, 3, none⟩ (.int .i64 p) = w2 at *
    clear q0 q1 q2 q3 f0 f2 f3
    have q0 : w2.cell? ⟨g, 0, none⟩ = some (.slice (some ⟨b, o, none⟩) n c) := O2.out.cell 0
    have hw : IntKind.i64.wrap ((n : Int) - 1) = (n : Int) - 1 := IntWalk.i64_in _ (by omega)
    have hs1 : (0 : Int) ≤ (n : Int) - 1 := by omega
    have hs2 : (n : Int) - 1 ≤ (n : Int) := by omega
    have hs3 : ((n : Int) - 1).toNat = n - 1 := by omega
    have hs4 : ¬ c = n - 1 := by omega
    have hs5 : (1 : Int) ≤ (n : Int) := by omega
    go_still_tail 14, (by kernel_rfl)
    clear q0 hw hs1 hs2 hs3 hs4 hs5
    change wpList _ _ _ _ _ (w2.drewN 1)
    have O3 := Lib.hid (O2.out.keep (w' := w2.drewN 1) rfl)
    have ON3 := Lib.hid (on2.out.drewN 1)
    generalize w2.drewN 1 = w3 at *
    have f0 := O3.out.frozen 0
    have q0 := O3.out.cell 0
    go_wp2_with fail
    go_end0
    refine ⟨rfl, ON3.out.at_g 0 _, ?_⟩
    have he := HE.out
    rw [he] at HOK ⊢
    refine HMK.out (n - 1) _ _ _ _ (by omega) (by rw [HN.out]) rfl rfl rfl HOK.out _ (fun j hj => (ON3.out.at_g 0 _).heap (Nat.lt_trans hj HOB.out.lt) (by omega)) ?_
    have := O3.out.put 0 (.slice (some ⟨b, o + (n - 1) * 4, none⟩) (n - (n - 1)) (c - (n - 1)))
    simpa using this
  · have he0 : (s.err == 0) = false := by simpa using h0
    have HE : Hid (failR e p s = ⟨s.rest.drop (s.rest.length - 1), s.met, s.err, s.at_⟩) := by show _ = _; unfold failR; rw [if_neg h0]
    clear h0
    go_enter Try.func64, Try.ntmps64
    go_wp2_with fail
    have O2 := HOB
    have on2 := Lib.hid (Only.refl (w := w) (r := g))
    clear q0 q1 q2 q3 f0 f2 f3
    have q0 : w.cell? ⟨g, 0, none⟩ = some (.slice (some ⟨b, o, none⟩) n c) := O2.out.cell 0
    have hw : IntKind.i64.wrap ((n : Int) - 1) = (n : Int) - 1 := IntWalk.i64_in _ (by omega)
    have hs1 : (0 : Int) ≤ (n : Int) - 1 := by omega
    have hs2 : (n : Int) - 1 ≤ (n : Int) := by omega
    have hs3 : ((n : Int) - 1).toNat = n - 1 := by omega
    have hs4 : ¬ c = n - 1 := by omega
    have hs5 : (1 : Int) ≤ (n : Int) := by omega
    go_still_tail 14, (by kernel_rfl)
    clear q0 hw hs1 hs2 hs3 hs4 hs5
    change wpList _ _ _ _ _ (w.drewN 1)
    have O3 := Lib.hid (O2.out.keep (w' := w.drewN 1) rfl)
    have ON3 := Lib.hid (on2.out.drewN 1)
    generalize w.drewN 1 = w3 at *
    have f0 := O3.out.frozen 0
    have q0 := O3.out.cell 0
    go_wp2_with fail
    go_end0
    refine ⟨rfl, ON3.out.at_g 0 _, ?_⟩
    have he := HE.out
    rw [he] at HOK ⊢
    refine HMK.out (n - 1) _ _ _ _ (by omega) (by rw [HN.out]) rfl rfl rfl HOK.out _ (fun j hj => (ON3.out.at_g 0 _).heap (Nat.lt_trans hj HOB.out.lt) (by omega)) ?_
    have := O3.out.put 0 (.slice (some ⟨b, o + (n - 1) * 4, none⟩) (n - (n - 1)) (c - (n - 1)))
    simpa using this
theorem pwrong_any (h : Rd L w g s) : Calls Try.prog 49 #[.pointer (some ⟨g, 0, none⟩)] w fun x w' => x = .returned (.tuple #[]) ∧ Only g w w' ∧ Rd L w' g (wrongR s) := by
  have HC := Lib.hid (phere_any h)
  have HF := Lib.hid (pfail_any h (e := 5) (.inl rfl) h.ok.hd_ok.2.1)
  clear h
  go_enter Try.func49, Try.ntmps49
  go_wp2_with (first
    | (go_at_call 65; refine HC.out.mono ?_; rintro x w1 ⟨rfl, rfl⟩)
    | (go_at_call 64; refine HF.out.mono ?_; rintro x w1 ⟨rfl, ho, hr⟩; have HO := Lib.hid ho; have HR := Lib.hid hr; clear ho hr))
  go_end0
  exact ⟨rfl, HO.out, HR.out⟩
theorem pmost_any (h : Rd L w g s) (n l : Int) : Calls Try.prog 42 #[.pointer (some ⟨g, 0, none⟩), .int .i64 n, .int .i64 l] w fun x w' => x = .returned (.tuple #[]) ∧ Only g w w' ∧ Rd L w' g (mostR n l s) := by
  have HC := Lib.hid (phere_any h)
  have HF := Lib.hid (pfail_any h (e := 6) (.inr rfl) h.ok.hd_ok.2.1)
  have HH := Lib.hid h
  clear h
  by_cases hl : l < n
  · have HE : Hid (mostR n l s = failR 6 s.hd.p s) := by show _ = _; unfold mostR; rw [if_pos hl]
    have hl2 : decide (l < n) = true := decide_eq_true hl
    go_enter Try.func42, Try.ntmps42
    go_wp2_with (first
      | (go_at_call 65; refine HC.out.mono ?_; rintro x w1 ⟨rfl, rfl⟩)
      | (go_at_call 64; refine HF.out.mono ?_; rintro x w1 ⟨rfl, ho, hr⟩; have HO := Lib.hid ho; have HR := Lib.hid hr; clear ho hr))
    go_end0
    exact ⟨rfl, HO.out, by rw [HE.out]; exact HR.out⟩
  · have HE : Hid (mostR n l s = s) := by show _ = _; unfold mostR; rw [if_neg hl]
    have hl2 : decide (l < n) = false := decide_eq_false hl
    go_enter Try.func42, Try.ntmps42
    go_wp2_with fail
    go_end0
    exact ⟨rfl, Only.refl, by rw [HE.out]; exact HH.out⟩
set_option maxHeartbeats 1600000 in
theorem psees_any (h : Rd L w g s) {B n c : Nat} {A : Option Addr} {ws : List ByteArray} (hs : Sl w B A n c (ws.map Value.string)) (hB : B ≤ w.heap.size) :
    Calls Try.prog 69 #[.pointer (some ⟨g, 0, none⟩), .slice A n c] w fun x w' => x = .returned (.int .i64 (seesR ws s : Int)) ∧ Below w.heap.size w w' := by
  obtain ⟨b, o, m, d, hob, hok, ⟨hn, h1, h2, h3⟩, hbg, ⟨c0, c1, c2, c3⟩, _⟩ := h.at_
  have q0 := hob.cell 0
  have HI := Lib.hid (index_any s.hd.s (hs.lit_keep hB (.cells #[.int .i64 s.hd.k, .int .i64 s.hd.p, .int .i64 s.hd.n, .string s.hd.s] 85)))
  have hbw : Below w.heap.size w (w.alloc (.cells #[.int .i64 s.hd.k, .int .i64 s.hd.p, .int .i64 s.hd.n, .string s.hd.s] 85)) := (Below.refl _ _).alloc (Nat.le_refl _) _
  have HB := Lib.hid hbw
  have HX := Lib.hid (idxW_le s.hd.s ws)
  have HL : Hid (ws.length = n ∧ n ≤ maxLen) := ⟨by rw [← hs.len, List.length_map], Nat.le_trans hs.le hs.cap⟩
  unfold maxLen at HL
  clear hob hok h hs hbw
  by_cases hk : s.hd.k = 1 ∨ s.hd.k = 6
  · have HE : Hid (seesR ws s = idxW s.hd.s ws) := by show _ = _; unfold seesR; rw [if_pos hk]
    have hlt : (idxW s.hd.s ws : Int) ≤ 9223372036854775807 := by have := HX.out; have := HL.out; omega
    generalize idxW s.hd.s ws = i at *
    rcases hk with hk | hk
    all_goals
      have hk1 : (s.hd.k != 1) = decide (s.hd.k ≠ 1) := by rw [Bool.eq_iff_iff]; simp
      have hk6 : (s.hd.k != 6) = decide (s.hd.k ≠ 6) := by rw [Bool.eq_iff_iff]; simp
      rw [hk] at hk1 hk6
      simp only [hk] at *
      go_enter Try.func69, Try.ntmps69
      go_wp2_with (first
        | (go_at_call 81; refine HI.out.mono ?_; rintro x w1 ⟨rfl, rfl⟩))
      go_ret
      exact ⟨ret_int (by rw [HE.out]; try omega), HB.out⟩
  · have HE : Hid (seesR ws s = 0) := by show _ = _; unfold seesR; rw [if_neg hk]
    have hk1 : (s.hd.k != 1) = true := by rw [bne_iff_ne]; omega
    have hk6 : (s.hd.k != 6) = true := by rw [bne_iff_ne]; omega
    clear hk
    go_enter Try.func69, Try.ntmps69
    go_wp2_with fail
    go_ret
    exact ⟨ret_int (by rw [HE.out]; rfl), HB.out⟩
end
end Go.Proofs.Ytadjfkgnoklmiaa
/- The parser: take, must, end, name. -/
namespace Go.Proofs.Ytadjfkgnoklmiaa
set_option linter.unusedVariables false
open Go.RowKit

section
variable {L g : Nat} {w : World} {s : Pz}
theorem takeR_no {ws : List ByteArray} (h : seesR ws s = 0) : takeR ws s = (0, s) := by unfold takeR; rw [if_pos h]
theorem takeR_yes {ws : List ByteArray} (h : seesR ws s ≠ 0) : takeR ws s = (seesR ws s, nextR s) := by unfold takeR; rw [if_neg h]
theorem mustR_no {ws : List ByteArray} (h : seesR ws s = 0) : mustR ws s = (0, wrongR s) := by unfold mustR; rw [if_pos h]
theorem mustR_yes {ws : List ByteArray} (h : seesR ws s ≠ 0) : mustR ws s = (seesR ws s, nextR s) := by unfold mustR; rw [if_neg h]
theorem Rd.goes (h : Rd L w g s) (hk : s.hd.k ≠ 7) : ∃ b o n c, Ob w g 74 #[.slice (some ⟨b, o, none⟩) n c, .int .i64 (s.met : Int), .int .i64 s.err, .int .i64 s.at_] ∧ (2 ≤ n ∧ n ≤ c ∧ c ≤ maxLen) ∧ b < g ∧
    (w.cell? ⟨b, o, none⟩ = some (.int .i64 s.hd.k) ∧ w.cell? ⟨b, o + 1, none⟩ = some (.int .i64 s.hd.p) ∧ w.cell? ⟨b, o + 2, none⟩ = some (.int .i64 s.hd.n) ∧ w.cell? ⟨b, o + 3, none⟩ = some (.string s.hd.s)) ∧
    ∀ w1, Below w.heap.size w w1 → Rd L (w1.setCell ⟨g, 0, none⟩ (.slice (some ⟨b, o + 4, none⟩) (n - 1) (c - 1))) g (nextR s) ∧ Only g w (w1.setCell ⟨g, 0, none⟩ (.slice (some ⟨b, o + 4, none⟩) (n - 1) (c - 1))) := by
  have hm := h.ok.more hk
  have hlt := h.lt
  obtain ⟨b, o, n, c, hob, hok, ⟨hn, h1, h2, h3⟩, hbg, hc, hmk⟩ := h.at_
  refine ⟨b, o, n, c, hob, ⟨by omega, h2, h3⟩, hbg, hc, fun w1 hb => ?_⟩
  have ho : Only g w (w1.setCell ⟨g, 0, none⟩ (.slice (some ⟨b, o + 4, none⟩) (n - 1) (c - 1))) := (Only.of_below hb).at_g 0 _
  refine ⟨hmk 1 (s.met : Int) s.err s.at_ (nextR s) (by omega) rfl rfl rfl rfl (hok.next hk) _ (fun j hj => ho.heap (Nat.lt_trans hj hlt) (by omega)) ?_, ho⟩
  have := (hob.below hb hlt).put 0 (.slice (some ⟨b, o + 4, none⟩) (n - 1) (c - 1))
  simpa using this

set_option maxHeartbeats 1600000 in
theorem ptake_any (h : Rd L w g s) {B n c : Nat} {A : Option Addr} {ws : List ByteArray} (hs : Sl w B A n c (ws.map Value.string)) (hB : B ≤ w.heap.size) :
    Calls Try.prog 66 #[.pointer (some ⟨g, 0, none⟩), .slice A n c] w fun x w' => x = .returned (.int .i64 ((takeR ws s).1 : Int)) ∧ Only g w w' ∧ Rd L w' g (takeR ws s).2 := by
  have HC := Lib.hid (psees_any h hs hB)
  have HH := Lib.hid h
  by_cases h0 : seesR ws s = 0
  · rw [takeR_no h0]
    rw [h0] at HC
    clear hs h h0
    go_enter Try.func66, Try.ntmps66
    go_wp2_with (first
      | (go_at_call 69; refine HC.out.mono ?_; rintro x w1 ⟨rfl, hb⟩; have HB := Lib.hid hb; clear hb))
    go_ret
    exact ⟨rfl, .of_below HB.out, HH.out.then_ HB.out⟩
  · rw [takeR_yes h0]
    obtain ⟨b, o, m, d, hob, ⟨h1, h2, h3⟩, hbg, _, hgo⟩ := h.goes (seesR_more h.ok h0)
    have HOB := Lib.hid hob
    have HGO := Lib.hid hgo
    have h4 : 0 < seesR ws s := by omega
    generalize seesR ws s = i at *
    have h5 : ¬ d = 1 := by omega
    have h6 : (1 : Int) ≤ (m : Int) := by omega
    unfold maxLen at h3
    have h7 : decide (0 < (i : Int)) = true := decide_eq_true (by omega)
    clear hs h h0 hob hgo
    go_enter Try.func66, Try.ntmps66
    go_wp2_with (first
      | (go_at_call 69; refine HC.out.mono ?_; rintro x w1 ⟨rfl, hb⟩; have HB := Lib.hid hb; have O1 := Lib.hid (HOB.out.below hb HOB.out.lt); have q0 := O1.out.cell 0; have f0 := O1.out.frozen 0; clear hb))
    go_ret
    exact ⟨rfl, (HGO.out _ HB.out).2, (HGO.out _ HB.out).1⟩
set_option maxHeartbeats 1600000 in
theorem pmust_any (h : Rd L w g s) {B n c : Nat} {A : Option Addr} {ws : List ByteArray} (hs : Sl w B A n c (ws.map Value.string)) (hB : B ≤ w.heap.size) :
    Calls Try.prog 43 #[.pointer (some ⟨g, 0, none⟩), .slice A n c] w fun x w' => x = .returned (.int .i64 ((mustR ws s).1 : Int)) ∧ Only g w w' ∧ Rd L w' g (mustR ws s).2 := by
  have HC := Lib.hid (ptake_any h hs hB)
  by_cases h0 : seesR ws s = 0
  · rw [mustR_no h0]
    rw [takeR_no h0] at HC
    clear hs h h0
    go_enter Try.func43, Try.ntmps43
    go_wp2_with (first
      | (go_at_call 66; refine HC.out.mono ?_; rintro x w1 ⟨rfl, ho, hr⟩; have HO := Lib.hid ho; have HR := Lib.hid (pwrong_any hr); clear ho hr)
      | (go_at_call 49; refine HR.out.mono ?_; rintro x w2 ⟨rfl, ho, hr⟩; have HO2 := Lib.hid (HO.out.trans ho); have HR2 := Lib.hid hr; clear ho hr))
    go_ret
    exact ⟨rfl, HO2.out, HR2.out⟩
  · rw [mustR_yes h0]
    rw [takeR_yes h0] at HC
    generalize seesR ws s = i at *
    have h7 : ((i : Int) == 0) = false := by rw [beq_eq_false_iff_ne]; omega
    clear hs h h0
    go_enter Try.func43, Try.ntmps43
    go_wp2_with (first
      | (go_at_call 66; refine HC.out.mono ?_; rintro x w1 ⟨rfl, ho, hr⟩; have HO := Lib.hid ho; have HR := Lib.hid hr; clear ho hr))
    go_ret
    exact ⟨rfl, HO.out, HR.out⟩
theorem ptake_lit (h : Rd L w g s) (ws : List ByteArray) (cs : Array Value) (n : Nat) (hcs : (ws.map Value.string).toArray = cs) (hn : ws.length = n) (h63 : n ≤ 100) {b : Nat} (hb : w.heap.size = b) :
    Calls Try.prog 66 #[.pointer (some ⟨g, 0, none⟩), .slice (some ⟨b, 0, none⟩) n n] (w.alloc (.cells cs 9)) fun x w' => x = .returned (.int .i64 ((takeR ws s).1 : Int)) ∧ Only g w w' ∧ Rd L w' g (takeR ws s).2 := by
  subst hcs hb
  have := Sl.lit w 9 (ws.map Value.string) n (by rw [List.length_map]; exact hn) (by unfold maxLen; omega)
  exact (ptake_any (h.alloc _) this (by rw [size_al]; omega)).mono fun x w' ⟨h1, h2, h3⟩ => ⟨h1, (Only.refl.al _).trans h2, h3⟩
theorem pmust_lit (h : Rd L w g s) (ws : List ByteArray) (cs : Array Value) (n : Nat) (hcs : (ws.map Value.string).toArray = cs) (hn : ws.length = n) (h63 : n ≤ 100) {b : Nat} (hb : w.heap.size = b) :
    Calls Try.prog 43 #[.pointer (some ⟨g, 0, none⟩), .slice (some ⟨b, 0, none⟩) n n] (w.alloc (.cells cs 9)) fun x w' => x = .returned (.int .i64 ((mustR ws s).1 : Int)) ∧ Only g w w' ∧ Rd L w' g (mustR ws s).2 := by
  subst hcs hb
  have := Sl.lit w 9 (ws.map Value.string) n (by rw [List.length_map]; exact hn) (by unfold maxLen; omega)
  exact (pmust_any (h.alloc _) this (by rw [size_al]; omega)).mono fun x w' ⟨h1, h2, h3⟩ => ⟨h1, (Only.refl.al _).trans h2, h3⟩
theorem psees_lit (h : Rd L w g s) (ws : List ByteArray) (cs : Array Value) (n : Nat) (hcs : (ws.map Value.string).toArray = cs) (hn : ws.length = n) (h63 : n ≤ 100) {b : Nat} (hb : w.heap.size = b) :
    Calls Try.prog 69 #[.pointer (some ⟨g, 0, none⟩), .slice (some ⟨b, 0, none⟩) n n] (w.alloc (.cells cs 9)) fun x w' => x = .returned (.int .i64 (seesR ws s : Int)) ∧ Below w.heap.size w w' := by
  subst hcs hb
  have := Sl.lit w 9 (ws.map Value.string) n (by rw [List.length_map]; exact hn) (by unfold maxLen; omega)
  exact (psees_any (h.alloc _) this (by rw [size_al]; omega)).mono fun x w' ⟨h1, h2⟩ => ⟨h1, Below.lit h2⟩
set_option maxHeartbeats 1600000 in
theorem pend_any (h : Rd L w g s) : Calls Try.prog 25 #[.pointer (some ⟨g, 0, none⟩)] w fun x w' => x = .returned (.tuple #[]) ∧ Only g w w' ∧ Rd L w' g (endR s) := by
  have HC := Lib.hid (pwrong_any h)
  have HH := Lib.hid h
  obtain ⟨b, o, n, c, hob, hok, ⟨hn, h1, h2, h3⟩, hbg, ⟨c0, c1, c2, c3⟩, _⟩ := h.at_
  have q0 := hob.cell 0
  clear hob hok h
  by_cases h7 : s.hd.k = 7
  · have HE : Hid (endR s = s) := by show _ = _; unfold endR; rw [if_pos h7]
    rw [h7] at c0
    go_enter Try.func25, Try.ntmps25
    go_wp2_with fail
    go_end0
    exact ⟨rfl, Only.refl, by rw [HE.out]; exact HH.out⟩
  · have HE : Hid (endR s = wrongR s) := by show _ = _; unfold endR; rw [if_neg h7]
    have hk7 : (s.hd.k != 7) = true := by rw [bne_iff_ne]; exact h7
    go_enter Try.func25, Try.ntmps25
    go_wp2_with (first
      | (go_at_call 49; refine HC.out.mono ?_; rintro x w2 ⟨rfl, ho, hr⟩; have HO2 := Lib.hid ho; have HR2 := Lib.hid hr; clear ho hr))
    go_end0
    exact ⟨rfl, HO2.out, by rw [HE.out]; exact HR2.out⟩
set_option maxHeartbeats 1600000 in
theorem pname_any (h : Rd L w g s) : Calls Try.prog 44 #[.pointer (some ⟨g, 0, none⟩)] w fun x w' => x = .returned (.string (nameR s).1) ∧ Only g w w' ∧ Rd L w' g (nameR s).2 := by
  have hbw : Below w.heap.size w (w.alloc (.cells #[.int .i64 s.hd.k, .int .i64 s.hd.p, .int .i64 s.hd.n, .string s.hd.s] 85)) := (Below.refl _ _).alloc (Nat.le_refl _) _
  have HB := Lib.hid hbw
  have HC := Lib.hid (pwrong_any (h.then_ hbw))
  by_cases h1 : s.hd.k = 1
  · have HE : Hid (nameR s = (s.hd.s, nextR s)) := by show _ = _; unfold nameR; rw [if_pos h1]
    obtain ⟨b, o, m, d, hob, ⟨h1', h2, h3⟩, hbg, ⟨c0, c1, c2, c3⟩, hgo⟩ := h.goes (by omega)
    have q0 := hob.cell 0
    have HGO := Lib.hid (hgo _ hbw)
    have ho2 := hob.below hbw hob.lt
    have q0' := ho2.cell 0
    have f0 := ho2.frozen 0
    have xne : w.heap.size ≠ g := by have := hob.lt; omega
    have h5 : ¬ d = 1 := by omega
    have h6 : (1 : Int) ≤ (m : Int) := by omega
    have hx : ((w.alloc (.cells #[.int .i64 s.hd.k, .int .i64 s.hd.p, .int .i64 s.hd.n, .string s.hd.s] 85)).setCell ⟨g, 0, none⟩ (.slice (some ⟨b, o + 4, none⟩) (m - 1) (d - 1))).cell? ⟨w.heap.size, 3, none⟩ = some (.string s.hd.s) :=
      ((Ob.made w 85 #[.int .i64 s.hd.k, .int .i64 s.hd.p, .int .i64 s.hd.n, .string s.hd.s]).keep (Below.heap_setCell _ ⟨g, 0, none⟩ _ _ xne)).cell 3
    rw [HE.out]
    rw [h1] at *
    unfold maxLen at h3
    clear h hob hgo ho2 hbw
    go_enter Try.func44, Try.ntmps44
    go_wp2_with fail
    go_ret
    exact ⟨rfl, HGO.out.2, HGO.out.1⟩
  · have HE : Hid (nameR s = (⟨#[]⟩, wrongR s)) := by show _ = _; unfold nameR; rw [if_neg h1]
    obtain ⟨b, o, n, c, hob, hok, ⟨hn, h1', h2, h3⟩, hbg, ⟨c0, c1, c2, c3⟩, _⟩ := h.at_
    have q0 := hob.cell 0
    have hk1 : (s.hd.k != 1) = true := by rw [bne_iff_ne]; exact h1
    rw [HE.out]
    unfold maxLen at h3
    clear h hob hok hbw
    go_enter Try.func44, Try.ntmps44
    go_wp2_with (first
      | (go_at_call 49; refine HC.out.mono ?_; rintro x w2 ⟨rfl, ho, hr⟩; have HO2 := Lib.hid ((Only.refl.then_ HB.out).trans ho); have HR2 := Lib.hid hr; clear ho hr))
    go_ret
    exact ⟨rfl, HO2.out, HR2.out⟩
end
end Go.Proofs.Ytadjfkgnoklmiaa
/- The parser: categories, attributes, values, matches, leaves. -/
namespace Go.Proofs.Ytadjfkgnoklmiaa
set_option linter.unusedVariables false
open Go.RowKit

theorem eq2 (i : Nat) : ((i : Int) == 2) = decide (i = 2) := by rw [Bool.eq_iff_iff]; simp; omega
theorem attr_ret {fn : Func} {t : Tmp} {tmps : Array Value} {w : World} {g : Nat} {cs : Array Value} (h : fn.results = #[.cell t 35]) (hp : tmps.getD t undef = .pointer (some ⟨g, 0, none⟩)) (hg : Ob w g 35 cs) (h3 : cs.size = 3) :
    (results fn tmps).run Try.prog w = .ok (.agg cs) w := results_cell_row h tmps w g _ _ (0, 0) _ hp hg Try.underlying35 rfl (by rw [h3]; kernel_rfl)
theorem value_ret {fn : Func} {t : Tmp} {tmps : Array Value} {w : World} {g : Nat} {cs : Array Value} (h : fn.results = #[.cell t 37]) (hp : tmps.getD t undef = .pointer (some ⟨g, 0, none⟩)) (hg : Ob w g 37 cs) (h3 : cs.size = 3) :
    (results fn tmps).run Try.prog w = .ok (.agg cs) w := results_cell_row h tmps w g _ _ (0, 0) _ hp hg Try.underlying37 rfl (by rw [h3]; kernel_rfl)
theorem match_ret {fn : Func} {t : Tmp} {tmps : Array Value} {w : World} {g : Nat} {cs : Array Value} (h : fn.results = #[.cell t 39]) (hp : tmps.getD t undef = .pointer (some ⟨g, 0, none⟩)) (hg : Ob w g 39 cs) (h3 : cs.size = 7) :
    (results fn tmps).run Try.prog w = .ok (.agg cs) w := results_cell_row h tmps w g _ _ (0, 0) _ hp hg Try.underlying39 rfl (by rw [h3]; kernel_rfl)
theorem node_ret {fn : Func} {t : Tmp} {tmps : Array Value} {w : World} {g : Nat} {cs : Array Value} (h : fn.results = #[.cell t 41]) (hp : tmps.getD t undef = .pointer (some ⟨g, 0, none⟩)) (hg : Ob w g 41 cs) (h3 : cs.size = 7) :
    (results fn tmps).run Try.prog w = .ok (.agg cs) w := results_cell_row h tmps w g _ _ (0, 0) _ hp hg Try.underlying41 rfl (by rw [h3]; kernel_rfl)

section
variable {L g : Nat} {w : World} {s : Pz}
set_option maxHeartbeats 800000 in
theorem pcat_any (h : Rd L w g s) : Calls Try.prog 98 #[.pointer (some ⟨g, 0, none⟩)] w fun x w' => x = .returned (.int .i64 ((catR s).1 : Int)) ∧ Only g w w' ∧ Rd L w' g (catR s).2 := by
  have HR0 := Lib.hid h
  have HO0 := Lib.hid (Only.refl (r := g) (w := w))
  show Calls _ _ _ _ fun x w' => x = .returned (.int .i64 ((takeR [w_subject, w_action, w_case, w_env] s).1 : Int)) ∧ Only g w w' ∧ Rd L w' g (takeR [w_subject, w_action, w_case, w_env] s).2
  clear h
  go_enter Try.func98, Try.ntmps98
  go_wp2_with fail
  go_at_call 66
  refine (ptake_lit HR0.out [w_subject, w_action, w_case, w_env] #[.string ⟨#[115, 117, 98, 106, 101, 99, 116]⟩, .string ⟨#[97, 99, 116, 105, 111, 110]⟩, .string ⟨#[99, 97, 115, 101]⟩, .string ⟨#[101, 110, 118]⟩] 4 rfl rfl (by omega) (by first | rfl | (simp; done) | (simp [World.setCell]; done))).mono ?_
  rintro x u1 ⟨rfl, ho, hr⟩
  have HO1 := Lib.hid (HO0.out.trans ho)
  have HR1 := Lib.hid hr
  clear ho hr
  go_wp2_with fail
  go_ret
  exact ⟨rfl, HO1.out, HR1.out⟩
theorem attrR_eq {cat : Int} {s s0 s1 s2 s3 : Pz} {i j : Nat} {nm : ByteArray} (h0 : (if cat = 0 then wrongR s else s) = s0) (h1 : mustR [m_dot] s0 = (i, s1)) (h2 : nameR s1 = (nm, s2)) (h3 : takeR [m_bang] s2 = (j, s3)) : attrR cat s = (⟨cat, nm, decide (0 < j)⟩, s3) := by
  unfold attrR
  simp only [h0, h1, h2, h3]
set_option maxHeartbeats 1600000 in
theorem pattr_any (h : Rd L w g s) (cat : Int) : Calls Try.prog 97 #[.pointer (some ⟨g, 0, none⟩), .int .i64 cat] w fun x w' => x = .returned (attrR cat s).1.val ∧ Only g w w' ∧ Rd L w' g (attrR cat s).2 := by
  by_cases hc : cat = 0
  · have HE := Lib.hid (fun (s1 s2 s3 : Pz) (i j : Nat) (nm : ByteArray) => attrR_eq (cat := cat) (s := s) (s0 := wrongR s) (s1 := s1) (s2 := s2) (s3 := s3) (i := i) (j := j) (nm := nm) (by rw [if_pos hc]))
    obtain ⟨i, s1, e1⟩ : ∃ i t, mustR [m_dot] (wrongR s) = (i, t) := ⟨_, _, rfl⟩
    obtain ⟨nm, s2, e2⟩ : ∃ i t, nameR s1 = (i, t) := ⟨_, _, rfl⟩
    obtain ⟨j, s3, e3⟩ : ∃ i t, takeR [m_bang] s2 = (i, t) := ⟨_, _, rfl⟩
    have HEE := Lib.hid (HE.out _ _ _ _ _ _ e1 e2 e3)
    have E1 := Lib.hid e1
    have E2 := Lib.hid e2
    have E3 := Lib.hid e3
    subst hc
    rw [HEE.out]
    have HG : Hid (g < w.heap.size) := h.lt
    have HBr_1 : Hid (Ob (w.alloc (.cells #[.int .i64 0, .string ⟨#[]⟩, .bool false] 35)) (w.heap.size) 35 #[.int .i64 0, .string ⟨#[]⟩, .bool false]) := Lib.hid (by have := Ob.made w 35 #[.int .i64 0, .string ⟨#[]⟩, .bool false]; simpa using this)
    have HR0 := Lib.hid (h.alloc (.cells #[.int .i64 0, .string ⟨#[]⟩, .bool false] 35))
    have HO0 := Lib.hid ((Only.refl (r := g) (w := w)).al (.cells #[.int .i64 0, .string ⟨#[]⟩, .bool false] 35))
    clear h e1 e2 e3 HE
    go_enter Try.func97, Try.ntmps97
    go_wp2_with fail
    go_at_call 49
    refine (pwrong_any HR0.out).mono ?_
    rintro x u2 ⟨rfl, ho, hr⟩
    have HO2 := Lib.hid (HO0.out.trans ho)
    have HR2 := Lib.hid hr
    have HBr_2 := Lib.hid (HBr_1.out.keep (ho.heap HBr_1.out.lt (by have := HG.out; omega)))
    clear ho hr
    have HSa : Hid (g < u2.heap.size ∧ w.heap.size < u2.heap.size) := ⟨by have := HG.out; have := HBr_2.out.lt; omega, HBr_2.out.lt⟩
    have HO3 := Lib.hid (HO2.out.al (.cells #[.int .i64 0, .string ⟨#[]⟩, .bool false] 35))
    have HR3 := Lib.hid (HR2.out.alloc (.cells #[.int .i64 0, .string ⟨#[]⟩, .bool false] 35))
    have HBr_3 := Lib.hid (HBr_2.out.keep (Below.heap_alloc u2 (.cells #[.int .i64 0, .string ⟨#[]⟩, .bool false] 35) _ HBr_2.out.lt))
    have HBa_3 := Lib.hid (Ob.made (u2) 35 #[.int .i64 0, .string ⟨#[]⟩, .bool false])
    go_wp2_with fail
    go_at_call 43
    refine (pmust_lit HR3.out [m_dot] #[.string ⟨#[46]⟩] 1 rfl rfl (by omega) (by first | rfl | (simp; done) | (simp [World.setCell]; done))).mono ?_
    rintro x u4 ⟨rfl, ho, hr⟩
    rw [E1.out] at hr
    have HO4 := Lib.hid (HO3.out.trans ho)
    have HR4 := Lib.hid hr
    have HBr_4 := Lib.hid (HBr_3.out.keep (ho.heap HBr_3.out.lt (by have := HG.out; have := HSa.out; omega)))
    have HBa_4 := Lib.hid (HBa_3.out.keep (ho.heap HBa_3.out.lt (by have := HG.out; have := HSa.out; omega)))
    clear ho hr
    go_wp2_with fail
    go_at_call 44
    refine (pname_any HR4.out).mono ?_
    rintro x u5 ⟨rfl, ho, hr⟩
    rw [E2.out] at hr ⊢
    have HO5 := Lib.hid (HO4.out.trans ho)
    have HR5 := Lib.hid hr
    have HBr_5 := Lib.hid (HBr_4.out.keep (ho.heap HBr_4.out.lt (by have := HG.out; have := HSa.out; omega)))
    have HBa_5 := Lib.hid (HBa_4.out.keep (ho.heap HBa_4.out.lt (by have := HG.out; have := HSa.out; omega)))
    clear ho hr
    have c6 := HBa_5.out.cell 1
    have f6 := HBa_5.out.frozen 1
    have HO6 := Lib.hid (HO5.out.new (r := u2.heap.size) (by have := HG.out; have := HSa.out; omega) 1 (.string nm))
    have HR6 := Lib.hid (HR5.out.set (r := u2.heap.size) (by have := HG.out; have := HSa.out; omega) 1 (.string nm))
    have HBr_6 := Lib.hid (HBr_5.out.keep (Below.heap_setCell u5 ⟨u2.heap.size, 1, none⟩ (.string nm) _ (by show w.heap.size ≠ u2.heap.size; have := HG.out; have := HSa.out; omega)))
    have HBa_6 : Hid (Ob (u5.setCell ⟨u2.heap.size, 1, none⟩ (.string nm)) (u2.heap.size) 35 #[.int .i64 0, .string nm, .bool false]) := Lib.hid (by have := HBa_5.out.put 1 (.string nm); simpa using this)
    go_wp2_with fail
    go_at_call 66
    refine (ptake_lit HR6.out [m_bang] #[.string ⟨#[33]⟩] 1 rfl rfl (by omega) (by first | rfl | (simp; done) | (simp [World.setCell]; done))).mono ?_
    rintro x u7 ⟨rfl, ho, hr⟩
    rw [E3.out] at hr ⊢
    have HO7 := Lib.hid (HO6.out.trans ho)
    have HR7 := Lib.hid hr
    have HBr_7 := Lib.hid (HBr_6.out.keep (ho.heap HBr_6.out.lt (by have := HG.out; have := HSa.out; omega)))
    have HBa_7 := Lib.hid (HBa_6.out.keep (ho.heap HBa_6.out.lt (by have := HG.out; have := HSa.out; omega)))
    clear ho hr
    have c8 := HBa_7.out.cell 2
    have f8 := HBa_7.out.frozen 2
    have HO8 := Lib.hid (HO7.out.new (r := u2.heap.size) (by have := HG.out; have := HSa.out; omega) 2 (.bool (decide (0 < j))))
    have HR8 := Lib.hid (HR7.out.set (r := u2.heap.size) (by have := HG.out; have := HSa.out; omega) 2 (.bool (decide (0 < j))))
    have HBr_8 := Lib.hid (HBr_7.out.keep (Below.heap_setCell u7 ⟨u2.heap.size, 2, none⟩ (.bool (decide (0 < j))) _ (by show w.heap.size ≠ u2.heap.size; have := HG.out; have := HSa.out; omega)))
    have HBa_8 : Hid (Ob (u7.setCell ⟨u2.heap.size, 2, none⟩ (.bool (decide (0 < j)))) (u2.heap.size) 35 #[.int .i64 0, .string nm, .bool (decide (0 < j))]) := Lib.hid (by have := HBa_7.out.put 2 (.bool (decide (0 < j))); simpa using this)
    have c9_0 := HBa_8.out.cell 0
    have c9_1 := HBa_8.out.cell 1
    have c9_2 := HBa_8.out.cell 2
    have c10 := HBr_8.out.cell 0
    have f10 := HBr_8.out.frozen 0
    have HO10 := Lib.hid (HO8.out.new (r := w.heap.size) (by have := HG.out; have := HSa.out; omega) 0 (.int .i64 0))
    have HR10 := Lib.hid (HR8.out.set (r := w.heap.size) (by have := HG.out; have := HSa.out; omega) 0 (.int .i64 0))
    have HBr_10 : Hid (Ob ((u7.setCell ⟨u2.heap.size, 2, none⟩ (.bool (decide (0 < j)))).setCell ⟨w.heap.size, 0, none⟩ (.int .i64 0)) (w.heap.size) 35 #[.int .i64 0, .string ⟨#[]⟩, .bool false]) := Lib.hid (by have := HBr_8.out.put 0 (.int .i64 0); simpa using this)
    have HBa_10 := Lib.hid (HBa_8.out.keep (Below.heap_setCell (u7.setCell ⟨u2.heap.size, 2, none⟩ (.bool (decide (0 < j)))) ⟨w.heap.size, 0, none⟩ (.int .i64 0) _ (by show u2.heap.size ≠ w.heap.size; have := HG.out; have := HSa.out; omega)))
    have c11 := HBr_10.out.cell 1
    have f11 := HBr_10.out.frozen 1
    have HO11 := Lib.hid (HO10.out.new (r := w.heap.size) (by have := HG.out; have := HSa.out; omega) 1 (.string nm))
    have HR11 := Lib.hid (HR10.out.set (r := w.heap.size) (by have := HG.out; have := HSa.out; omega) 1 (.string nm))
    have HBr_11 : Hid (Ob (((u7.setCell ⟨u2.heap.size, 2, none⟩ (.bool (decide (0 < j)))).setCell ⟨w.heap.size, 0, none⟩ (.int .i64 0)).setCell ⟨w.heap.size, 1, none⟩ (.string nm)) (w.heap.size) 35 #[.int .i64 0, .string nm, .bool false]) := Lib.hid (by have := HBr_10.out.put 1 (.string nm); simpa using this)
    have HBa_11 := Lib.hid (HBa_10.out.keep (Below.heap_setCell ((u7.setCell ⟨u2.heap.size, 2, none⟩ (.bool (decide (0 < j)))).setCell ⟨w.heap.size, 0, none⟩ (.int .i64 0)) ⟨w.heap.size, 1, none⟩ (.string nm) _ (by show u2.heap.size ≠ w.heap.size; have := HG.out; have := HSa.out; omega)))
    have c12 := HBr_11.out.cell 2
    have f12 := HBr_11.out.frozen 2
    have HO12 := Lib.hid (HO11.out.new (r := w.heap.size) (by have := HG.out; have := HSa.out; omega) 2 (.bool (decide (0 < j))))
    have HR12 := Lib.hid (HR11.out.set (r := w.heap.size) (by have := HG.out; have := HSa.out; omega) 2 (.bool (decide (0 < j))))
    have HBr_12 : Hid (Ob ((((u7.setCell ⟨u2.heap.size, 2, none⟩ (.bool (decide (0 < j)))).setCell ⟨w.heap.size, 0, none⟩ (.int .i64 0)).setCell ⟨w.heap.size, 1, none⟩ (.string nm)).setCell ⟨w.heap.size, 2, none⟩ (.bool (decide (0 < j)))) (w.heap.size) 35 #[.int .i64 0, .string nm, .bool (decide (0 < j))]) := Lib.hid (by have := HBr_11.out.put 2 (.bool (decide (0 < j))); simpa using this)
    have HBa_12 := Lib.hid (HBa_11.out.keep (Below.heap_setCell (((u7.setCell ⟨u2.heap.size, 2, none⟩ (.bool (decide (0 < j)))).setCell ⟨w.heap.size, 0, none⟩ (.int .i64 0)).setCell ⟨w.heap.size, 1, none⟩ (.string nm)) ⟨w.heap.size, 2, none⟩ (.bool (decide (0 < j))) _ (by show u2.heap.size ≠ w.heap.size; have := HG.out; have := HSa.out; omega)))
    go_wp2_with fail
    refine bodyPost_ret (attr_ret rfl rfl HBr_12.out rfl) rfl ?_
    exact ⟨rfl, HO12.out, HR12.out⟩
  · have HE := Lib.hid (fun (s1 s2 s3 : Pz) (i j : Nat) (nm : ByteArray) => attrR_eq (cat := cat) (s := s) (s0 := s) (s1 := s1) (s2 := s2) (s3 := s3) (i := i) (j := j) (nm := nm) (by rw [if_neg hc]))
    obtain ⟨i, s1, e1⟩ : ∃ i t, mustR [m_dot] s = (i, t) := ⟨_, _, rfl⟩
    obtain ⟨nm, s2, e2⟩ : ∃ i t, nameR s1 = (i, t) := ⟨_, _, rfl⟩
    obtain ⟨j, s3, e3⟩ : ∃ i t, takeR [m_bang] s2 = (i, t) := ⟨_, _, rfl⟩
    have HEE := Lib.hid (HE.out _ _ _ _ _ _ e1 e2 e3)
    have E1 := Lib.hid e1
    have E2 := Lib.hid e2
    have E3 := Lib.hid e3
    have hc2 : (cat == 0) = false := by rw [beq_eq_false_iff_ne]; exact hc
    clear hc
    rw [HEE.out]
    have HG : Hid (g < w.heap.size) := h.lt
    have HBr_1 : Hid (Ob (w.alloc (.cells #[.int .i64 0, .string ⟨#[]⟩, .bool false] 35)) (w.heap.size) 35 #[.int .i64 0, .string ⟨#[]⟩, .bool false]) := Lib.hid (by have := Ob.made w 35 #[.int .i64 0, .string ⟨#[]⟩, .bool false]; simpa using this)
    have HR0 := Lib.hid (h.alloc (.cells #[.int .i64 0, .string ⟨#[]⟩, .bool false] 35))
    have HO0 := Lib.hid ((Only.refl (r := g) (w := w)).al (.cells #[.int .i64 0, .string ⟨#[]⟩, .bool false] 35))
    clear h e1 e2 e3 HE
    have HO2 := Lib.hid (HO0.out.al (.cells #[.int .i64 cat, .string ⟨#[]⟩, .bool false] 35))
    have HR2 := Lib.hid (HR0.out.alloc (.cells #[.int .i64 cat, .string ⟨#[]⟩, .bool false] 35))
    have HBr_2 := Lib.hid (HBr_1.out.keep (Below.heap_alloc (w.alloc (.cells #[.int .i64 0, .string ⟨#[]⟩, .bool false] 35)) (.cells #[.int .i64 cat, .string ⟨#[]⟩, .bool false] 35) _ HBr_1.out.lt))
    have HBa_2 : Hid (Ob ((w.alloc (.cells #[.int .i64 0, .string ⟨#[]⟩, .bool false] 35)).alloc (.cells #[.int .i64 cat, .string ⟨#[]⟩, .bool false] 35)) (w.heap.size + 1) 35 #[.int .i64 cat, .string ⟨#[]⟩, .bool false]) := Lib.hid (by have := Ob.made (w.alloc (.cells #[.int .i64 0, .string ⟨#[]⟩, .bool false] 35)) 35 #[.int .i64 cat, .string ⟨#[]⟩, .bool false]; simpa using this)
    go_enter Try.func97, Try.ntmps97
    go_wp2_with fail
    go_at_call 43
    refine (pmust_lit HR2.out [m_dot] #[.string ⟨#[46]⟩] 1 rfl rfl (by omega) (by first | rfl | (simp; done) | (simp [World.setCell]; done))).mono ?_
    rintro x u3 ⟨rfl, ho, hr⟩
    rw [E1.out] at hr
    have HO3 := Lib.hid (HO2.out.trans ho)
    have HR3 := Lib.hid hr
    have HBr_3 := Lib.hid (HBr_2.out.keep (ho.heap HBr_2.out.lt (by have := HG.out; omega)))
    have HBa_3 := Lib.hid (HBa_2.out.keep (ho.heap HBa_2.out.lt (by have := HG.out; omega)))
    clear ho hr
    go_wp2_with fail
    go_at_call 44
    refine (pname_any HR3.out).mono ?_
    rintro x u4 ⟨rfl, ho, hr⟩
    rw [E2.out] at hr ⊢
    have HO4 := Lib.hid (HO3.out.trans ho)
    have HR4 := Lib.hid hr
    have HBr_4 := Lib.hid (HBr_3.out.keep (ho.heap HBr_3.out.lt (by have := HG.out; omega)))
    have HBa_4 := Lib.hid (HBa_3.out.keep (ho.heap HBa_3.out.lt (by have := HG.out; omega)))
    clear ho hr
    have c5 := HBa_4.out.cell 1
    have f5 := HBa_4.out.frozen 1
    have HO5 := Lib.hid (HO4.out.new (r := (w.heap.size + 1)) (by have := HG.out; omega) 1 (.string nm))
    have HR5 := Lib.hid (HR4.out.set (r := (w.heap.size + 1)) (by have := HG.out; omega) 1 (.string nm))
    have HBr_5 := Lib.hid (HBr_4.out.keep (Below.heap_setCell u4 ⟨(w.heap.size + 1), 1, none⟩ (.string nm) _ (by show w.heap.size ≠ (w.heap.size + 1); have := HG.out; omega)))
    have HBa_5 : Hid (Ob (u4.setCell ⟨(w.heap.size + 1), 1, none⟩ (.string nm)) ((w.heap.size + 1)) 35 #[.int .i64 cat, .string nm, .bool false]) := Lib.hid (by have := HBa_4.out.put 1 (.string nm); simpa using this)
    go_wp2_with fail
    go_at_call 66
    refine (ptake_lit HR5.out [m_bang] #[.string ⟨#[33]⟩] 1 rfl rfl (by omega) (by first | rfl | (simp; done) | (simp [World.setCell]; done))).mono ?_
    rintro x u6 ⟨rfl, ho, hr⟩
    rw [E3.out] at hr ⊢
    have HO6 := Lib.hid (HO5.out.trans ho)
    have HR6 := Lib.hid hr
    have HBr_6 := Lib.hid (HBr_5.out.keep (ho.heap HBr_5.out.lt (by have := HG.out; omega)))
    have HBa_6 := Lib.hid (HBa_5.out.keep (ho.heap HBa_5.out.lt (by have := HG.out; omega)))
    clear ho hr
    have c7 := HBa_6.out.cell 2
    have f7 := HBa_6.out.frozen 2
    have HO7 := Lib.hid (HO6.out.new (r := (w.heap.size + 1)) (by have := HG.out; omega) 2 (.bool (decide (0 < j))))
    have HR7 := Lib.hid (HR6.out.set (r := (w.heap.size + 1)) (by have := HG.out; omega) 2 (.bool (decide (0 < j))))
    have HBr_7 := Lib.hid (HBr_6.out.keep (Below.heap_setCell u6 ⟨(w.heap.size + 1), 2, none⟩ (.bool (decide (0 < j))) _ (by show w.heap.size ≠ (w.heap.size + 1); have := HG.out; omega)))
    have HBa_7 : Hid (Ob (u6.setCell ⟨(w.heap.size + 1), 2, none⟩ (.bool (decide (0 < j)))) ((w.heap.size + 1)) 35 #[.int .i64 cat, .string nm, .bool (decide (0 < j))]) := Lib.hid (by have := HBa_6.out.put 2 (.bool (decide (0 < j))); simpa using this)
    have c8_0 := HBa_7.out.cell 0
    have c8_1 := HBa_7.out.cell 1
    have c8_2 := HBa_7.out.cell 2
    have c9 := HBr_7.out.cell 0
    have f9 := HBr_7.out.frozen 0
    have HO9 := Lib.hid (HO7.out.new (r := w.heap.size) (by have := HG.out; omega) 0 (.int .i64 cat))
    have HR9 := Lib.hid (HR7.out.set (r := w.heap.size) (by have := HG.out; omega) 0 (.int .i64 cat))
    have HBr_9 : Hid (Ob ((u6.setCell ⟨(w.heap.size + 1), 2, none⟩ (.bool (decide (0 < j)))).setCell ⟨w.heap.size, 0, none⟩ (.int .i64 cat)) (w.heap.size) 35 #[.int .i64 cat, .string ⟨#[]⟩, .bool false]) := Lib.hid (by have := HBr_7.out.put 0 (.int .i64 cat); simpa using this)
    have HBa_9 := Lib.hid (HBa_7.out.keep (Below.heap_setCell (u6.setCell ⟨(w.heap.size + 1), 2, none⟩ (.bool (decide (0 < j)))) ⟨w.heap.size, 0, none⟩ (.int .i64 cat) _ (by show (w.heap.size + 1) ≠ w.heap.size; have := HG.out; omega)))
    have c10 := HBr_9.out.cell 1
    have f10 := HBr_9.out.frozen 1
    have HO10 := Lib.hid (HO9.out.new (r := w.heap.size) (by have := HG.out; omega) 1 (.string nm))
    have HR10 := Lib.hid (HR9.out.set (r := w.heap.size) (by have := HG.out; omega) 1 (.string nm))
    have HBr_10 : Hid (Ob (((u6.setCell ⟨(w.heap.size + 1), 2, none⟩ (.bool (decide (0 < j)))).setCell ⟨w.heap.size, 0, none⟩ (.int .i64 cat)).setCell ⟨w.heap.size, 1, none⟩ (.string nm)) (w.heap.size) 35 #[.int .i64 cat, .string nm, .bool false]) := Lib.hid (by have := HBr_9.out.put 1 (.string nm); simpa using this)
    have HBa_10 := Lib.hid (HBa_9.out.keep (Below.heap_setCell ((u6.setCell ⟨(w.heap.size + 1), 2, none⟩ (.bool (decide (0 < j)))).setCell ⟨w.heap.size, 0, none⟩ (.int .i64 cat)) ⟨w.heap.size, 1, none⟩ (.string nm) _ (by show (w.heap.size + 1) ≠ w.heap.size; have := HG.out; omega)))
    have c11 := HBr_10.out.cell 2
    have f11 := HBr_10.out.frozen 2
    have HO11 := Lib.hid (HO10.out.new (r := w.heap.size) (by have := HG.out; omega) 2 (.bool (decide (0 < j))))
    have HR11 := Lib.hid (HR10.out.set (r := w.heap.size) (by have := HG.out; omega) 2 (.bool (decide (0 < j))))
    have HBr_11 : Hid (Ob ((((u6.setCell ⟨(w.heap.size + 1), 2, none⟩ (.bool (decide (0 < j)))).setCell ⟨w.heap.size, 0, none⟩ (.int .i64 cat)).setCell ⟨w.heap.size, 1, none⟩ (.string nm)).setCell ⟨w.heap.size, 2, none⟩ (.bool (decide (0 < j)))) (w.heap.size) 35 #[.int .i64 cat, .string nm, .bool (decide (0 < j))]) := Lib.hid (by have := HBr_10.out.put 2 (.bool (decide (0 < j))); simpa using this)
    have HBa_11 := Lib.hid (HBa_10.out.keep (Below.heap_setCell (((u6.setCell ⟨(w.heap.size + 1), 2, none⟩ (.bool (decide (0 < j)))).setCell ⟨w.heap.size, 0, none⟩ (.int .i64 cat)).setCell ⟨w.heap.size, 1, none⟩ (.string nm)) ⟨w.heap.size, 2, none⟩ (.bool (decide (0 < j))) _ (by show (w.heap.size + 1) ≠ w.heap.size; have := HG.out; omega)))
    go_wp2_with fail
    refine bodyPost_ret (attr_ret rfl rfl HBr_11.out rfl) rfl ?_
    exact ⟨rfl, HO11.out, HR11.out⟩
set_option maxHeartbeats 800000 in
theorem pkind_any (k p n : Int) (t : ByteArray) : Calls Try.prog 103 #[.agg #[.int .i64 k, .int .i64 p, .int .i64 n, .string t]] w fun x w' => x = .returned (.int .i64 (kindR k)) ∧ Below w.heap.size w w' := by
  have HB : Hid (Below w.heap.size w (w.alloc (.cells #[.int .i64 k, .int .i64 p, .int .i64 n, .string t] 85))) := (Below.refl _ _).alloc (Nat.le_refl _) _
  by_cases h2 : k = 2
  · subst h2
    go_enter Try.func103, Try.ntmps103
    go_wp2_with fail
    go_ret
    exact ⟨rfl, HB.out⟩
  by_cases h3 : k = 3
  · subst h3
    go_enter Try.func103, Try.ntmps103
    go_wp2_with fail
    go_ret
    exact ⟨rfl, HB.out⟩
  by_cases h4 : k = 4
  · subst h4
    go_enter Try.func103, Try.ntmps103
    go_wp2_with fail
    go_ret
    exact ⟨rfl, HB.out⟩
  by_cases h5 : k = 5
  · subst h5
    go_enter Try.func103, Try.ntmps103
    go_wp2_with fail
    go_ret
    exact ⟨rfl, HB.out⟩
  have HE : Hid (kindR k = 1) := by show _ = _; unfold kindR; rw [if_neg h2, if_neg h3, if_neg h4, if_neg h5]
  have g2 : (k == 2) = false := by rw [beq_eq_false_iff_ne]; exact h2
  have g3 : (k == 3) = false := by rw [beq_eq_false_iff_ne]; exact h3
  have g4 : (k == 4) = false := by rw [beq_eq_false_iff_ne]; exact h4
  have g5 : (k == 5) = false := by rw [beq_eq_false_iff_ne]; exact h5
  clear h2 h3 h4 h5
  go_enter Try.func103, Try.ntmps103
  go_wp2_with fail
  go_ret
  exact ⟨ret_int HE.out.symm, HB.out⟩
theorem kindR_7 {k : Int} (h : kindR k ≠ 1) : k ≠ 7 := by rintro rfl; exact h rfl
set_option maxHeartbeats 1600000 in
theorem pvalue_any (h : Rd L w g s) : Calls Try.prog 99 #[.pointer (some ⟨g, 0, none⟩)] w fun x w' => x = .returned (valueR s).1.val ∧ Only g w w' ∧ Rd L w' g (valueR s).2 := by
  by_cases hc : kindR s.hd.k = 1
  · obtain ⟨i, s1, e1⟩ : ∃ i t, mustR [w_false, w_true] s = (i, t) := ⟨_, _, rfl⟩
    have HE : Hid (valueR s = (⟨1, (i : Int) - 1, ⟨#[]⟩⟩, s1)) := by show _ = _; unfold valueR; rw [if_pos hc, e1]
    have E1 := Lib.hid e1
    have hi : i ≤ 2 := by have := mustR_le [w_false, w_true] s; rw [e1] at this; exact this
    rw [HE.out]
    have HG : Hid (g < w.heap.size) := h.lt
    have HBr_1 : Hid (Ob (w.alloc (.cells #[.int .i64 0, .int .i64 0, .string ⟨#[]⟩] 37)) (w.heap.size) 37 #[.int .i64 0, .int .i64 0, .string ⟨#[]⟩]) := Lib.hid (by have := Ob.made w 37 #[.int .i64 0, .int .i64 0, .string ⟨#[]⟩]; simpa using this)
    have HR0 := Lib.hid (h.alloc (.cells #[.int .i64 0, .int .i64 0, .string ⟨#[]⟩] 37))
    have HO0 := Lib.hid ((Only.refl (r := g) (w := w)).al (.cells #[.int .i64 0, .int .i64 0, .string ⟨#[]⟩] 37))
    obtain ⟨b, o, n, c, hob, hok, ⟨hn, h1, h2, h3⟩, hbg, ⟨t0, t1, t2, t3⟩, hmk⟩ := HR0.out.at_
    have q0 := hob.cell 0
    unfold maxLen at h3
    have HO2 := Lib.hid (HO0.out.al (.cells #[.int .i64 s.hd.k, .int .i64 s.hd.p, .int .i64 s.hd.n, .string s.hd.s] 85))
    have HR2 := Lib.hid (HR0.out.alloc (.cells #[.int .i64 s.hd.k, .int .i64 s.hd.p, .int .i64 s.hd.n, .string s.hd.s] 85))
    have HBr_2 := Lib.hid (HBr_1.out.keep (Below.heap_alloc (w.alloc (.cells #[.int .i64 0, .int .i64 0, .string ⟨#[]⟩] 37)) (.cells #[.int .i64 s.hd.k, .int .i64 s.hd.p, .int .i64 s.hd.n, .string s.hd.s] 85) _ HBr_1.out.lt))
    have HBt_2 : Hid (Ob ((w.alloc (.cells #[.int .i64 0, .int .i64 0, .string ⟨#[]⟩] 37)).alloc (.cells #[.int .i64 s.hd.k, .int .i64 s.hd.p, .int .i64 s.hd.n, .string s.hd.s] 85)) (w.heap.size + 1) 85 #[.int .i64 s.hd.k, .int .i64 s.hd.p, .int .i64 s.hd.n, .string s.hd.s]) := Lib.hid (by have := Ob.made (w.alloc (.cells #[.int .i64 0, .int .i64 0, .string ⟨#[]⟩] 37)) 85 #[.int .i64 s.hd.k, .int .i64 s.hd.p, .int .i64 s.hd.n, .string s.hd.s]; simpa using this)
    have HK := Lib.hid (fun V : World => pkind_any (w := V) s.hd.k s.hd.p s.hd.n s.hd.s)
    rw [hc] at HK
    clear hc e1 hmk hob h
    go_enter Try.func99, Try.ntmps99
    go_wp2_with fail
    go_at_call 103
    refine (HK.out _).mono ?_
    rintro x u1 ⟨rfl, hb⟩
    have HO3 := Lib.hid (HO2.out.then_ hb)
    have HR3 := Lib.hid (HR2.out.then_ hb)
    have HBr_3 := Lib.hid (HBr_2.out.below hb HBr_2.out.lt)
    have HBt_3 := Lib.hid (HBt_2.out.below hb HBt_2.out.lt)
    clear hb
    go_wp2_with fail
    go_at_call 43
    refine (pmust_lit HR3.out [w_false, w_true] #[.string ⟨#[102, 97, 108, 115, 101]⟩, .string ⟨#[116, 114, 117, 101]⟩] 2 rfl rfl (by omega) (by first | rfl | (simp; done) | (simp [World.setCell]; done))).mono ?_
    rintro x u4 ⟨hx, ho, hr⟩
    obtain rfl : x = .returned (.int .i64 (i : Int)) := by rw [hx, E1.out] <;> rfl
    rw [E1.out] at hr
    clear hx
    have HO4 := Lib.hid (HO3.out.trans ho)
    have HR4 := Lib.hid hr
    have HBr_4 := Lib.hid (HBr_3.out.keep (ho.heap HBr_3.out.lt (by have := HG.out; omega)))
    have HBt_4 := Lib.hid (HBt_3.out.keep (ho.heap HBt_3.out.lt (by have := HG.out; omega)))
    clear ho hr
    have c5 := HBr_4.out.cell 0
    have f5 := HBr_4.out.frozen 0
    have HO5 := Lib.hid (HO4.out.new (r := w.heap.size) (by have := HG.out; omega) 0 (.int .i64 1))
    have HR5 := Lib.hid (HR4.out.set (r := w.heap.size) (by have := HG.out; omega) 0 (.int .i64 1))
    have HBr_5 : Hid (Ob (u4.setCell ⟨w.heap.size, 0, none⟩ (.int .i64 1)) (w.heap.size) 37 #[.int .i64 1, .int .i64 0, .string ⟨#[]⟩]) := Lib.hid (by have := HBr_4.out.put 0 (.int .i64 1); simpa using this)
    have HBt_5 := Lib.hid (HBt_4.out.keep (Below.heap_setCell u4 ⟨w.heap.size, 0, none⟩ (.int .i64 1) _ (by show (w.heap.size + 1) ≠ w.heap.size; have := HG.out; omega)))
    have c6 := HBr_5.out.cell 1
    have f6 := HBr_5.out.frozen 1
    have HO6 := Lib.hid (HO5.out.new (r := w.heap.size) (by have := HG.out; omega) 1 (.int .i64 ((i : Int) - 1)))
    have HR6 := Lib.hid (HR5.out.set (r := w.heap.size) (by have := HG.out; omega) 1 (.int .i64 ((i : Int) - 1)))
    have HBr_6 : Hid (Ob ((u4.setCell ⟨w.heap.size, 0, none⟩ (.int .i64 1)).setCell ⟨w.heap.size, 1, none⟩ (.int .i64 ((i : Int) - 1))) (w.heap.size) 37 #[.int .i64 1, .int .i64 ((i : Int) - 1), .string ⟨#[]⟩]) := Lib.hid (by have := HBr_5.out.put 1 (.int .i64 ((i : Int) - 1)); simpa using this)
    have HBt_6 := Lib.hid (HBt_5.out.keep (Below.heap_setCell (u4.setCell ⟨w.heap.size, 0, none⟩ (.int .i64 1)) ⟨w.heap.size, 1, none⟩ (.int .i64 ((i : Int) - 1)) _ (by show (w.heap.size + 1) ≠ w.heap.size; have := HG.out; omega)))
    have c7 := HBr_6.out.cell 2
    have f7 := HBr_6.out.frozen 2
    have HO7 := Lib.hid (HO6.out.new (r := w.heap.size) (by have := HG.out; omega) 2 (.string ⟨#[]⟩))
    have HR7 := Lib.hid (HR6.out.set (r := w.heap.size) (by have := HG.out; omega) 2 (.string ⟨#[]⟩))
    have HBr_7 : Hid (Ob (((u4.setCell ⟨w.heap.size, 0, none⟩ (.int .i64 1)).setCell ⟨w.heap.size, 1, none⟩ (.int .i64 ((i : Int) - 1))).setCell ⟨w.heap.size, 2, none⟩ (.string ⟨#[]⟩)) (w.heap.size) 37 #[.int .i64 1, .int .i64 ((i : Int) - 1), .string ⟨#[]⟩]) := Lib.hid (by have := HBr_6.out.put 2 (.string ⟨#[]⟩); simpa using this)
    have HBt_7 := Lib.hid (HBt_6.out.keep (Below.heap_setCell ((u4.setCell ⟨w.heap.size, 0, none⟩ (.int .i64 1)).setCell ⟨w.heap.size, 1, none⟩ (.int .i64 ((i : Int) - 1))) ⟨w.heap.size, 2, none⟩ (.string ⟨#[]⟩) _ (by show (w.heap.size + 1) ≠ w.heap.size; have := HG.out; omega)))
    go_wp2_with fail
    refine bodyPost_ret (value_ret rfl rfl HBr_7.out rfl) rfl ?_
    exact ⟨rfl, HO7.out, HR7.out⟩
  · have HE : Hid (valueR s = (⟨kindR s.hd.k, s.hd.n, s.hd.s⟩, nextR s)) := by show _ = _; unfold valueR; rw [if_neg hc]
    have hc2 : (kindR s.hd.k == 1) = false := by rw [beq_eq_false_iff_ne]; exact hc
    rw [HE.out]
    have HG : Hid (g < w.heap.size) := h.lt
    have HBr_1 : Hid (Ob (w.alloc (.cells #[.int .i64 0, .int .i64 0, .string ⟨#[]⟩] 37)) (w.heap.size) 37 #[.int .i64 0, .int .i64 0, .string ⟨#[]⟩]) := Lib.hid (by have := Ob.made w 37 #[.int .i64 0, .int .i64 0, .string ⟨#[]⟩]; simpa using this)
    have HR0 := Lib.hid (h.alloc (.cells #[.int .i64 0, .int .i64 0, .string ⟨#[]⟩] 37))
    have HO0 := Lib.hid ((Only.refl (r := g) (w := w)).al (.cells #[.int .i64 0, .int .i64 0, .string ⟨#[]⟩] 37))
    obtain ⟨b, o, n, c, hob, ⟨h1, h2, h3⟩, hbg, ⟨t0, t1, t2, t3⟩, hgo⟩ := HR0.out.goes (kindR_7 hc)
    have q0 := hob.cell 0
    unfold maxLen at h3
    have HO2 := Lib.hid (HO0.out.al (.cells #[.int .i64 s.hd.k, .int .i64 s.hd.p, .int .i64 s.hd.n, .string s.hd.s] 85))
    have HR2 := Lib.hid (HR0.out.alloc (.cells #[.int .i64 s.hd.k, .int .i64 s.hd.p, .int .i64 s.hd.n, .string s.hd.s] 85))
    have HBr_2 := Lib.hid (HBr_1.out.keep (Below.heap_alloc (w.alloc (.cells #[.int .i64 0, .int .i64 0, .string ⟨#[]⟩] 37)) (.cells #[.int .i64 s.hd.k, .int .i64 s.hd.p, .int .i64 s.hd.n, .string s.hd.s] 85) _ HBr_1.out.lt))
    have HBt_2 : Hid (Ob ((w.alloc (.cells #[.int .i64 0, .int .i64 0, .string ⟨#[]⟩] 37)).alloc (.cells #[.int .i64 s.hd.k, .int .i64 s.hd.p, .int .i64 s.hd.n, .string s.hd.s] 85)) (w.heap.size + 1) 85 #[.int .i64 s.hd.k, .int .i64 s.hd.p, .int .i64 s.hd.n, .string s.hd.s]) := Lib.hid (by have := Ob.made (w.alloc (.cells #[.int .i64 0, .int .i64 0, .string ⟨#[]⟩] 37)) 85 #[.int .i64 s.hd.k, .int .i64 s.hd.p, .int .i64 s.hd.n, .string s.hd.s]; simpa using this)
    have HOBg := Lib.hid hob
    have HGO := Lib.hid hgo
    have HK := Lib.hid (fun V : World => pkind_any (w := V) s.hd.k s.hd.p s.hd.n s.hd.s)
    have h5 : ¬ c = 1 := by omega
    have h6 : (1 : Int) ≤ (n : Int) := by omega
    have HCC := Lib.hid hc
    generalize kindR s.hd.k = kd at *
    clear hob hgo h hc
    go_enter Try.func99, Try.ntmps99
    go_wp2_with fail
    go_at_call 103
    refine (HK.out _).mono ?_
    rintro x u1 ⟨rfl, hb⟩
    have HO3 := Lib.hid (HO2.out.then_ hb)
    have HR3 := Lib.hid (HR2.out.then_ hb)
    have HBr_3 := Lib.hid (HBr_2.out.below hb HBr_2.out.lt)
    have HBt_3 := Lib.hid (HBt_2.out.below hb HBt_2.out.lt)
    have HQ := Lib.hid (HGO.out u1 ((Below.refl _ _).alloc (Nat.le_refl _) (.cells #[.int .i64 s.hd.k, .int .i64 s.hd.p, .int .i64 s.hd.n, .string s.hd.s] 85) |>.trans (hb.mono (by simp))))
    have OQ := Lib.hid (HOBg.out.keep ((Below.heap_alloc (w.alloc (.cells #[.int .i64 0, .int .i64 0, .string ⟨#[]⟩] 37)) (.cells #[.int .i64 s.hd.k, .int .i64 s.hd.p, .int .i64 s.hd.n, .string s.hd.s] 85) _ HOBg.out.lt) |> fun e => (hb.block g (by have := HG.out; simp; omega)).trans e))
    have q0 := OQ.out.cell 0
    have f0 := OQ.out.frozen 0
    clear hb
    have HO4 := Lib.hid (HO3.out.at_g 0 (.slice (some ⟨b, o + 4, none⟩) (n - 1) (c - 1)))
    have HR4 := Lib.hid HQ.out.1
    have HBr_4 := Lib.hid (HBr_3.out.keep (Below.heap_setCell u1 ⟨g, 0, none⟩ (.slice (some ⟨b, o + 4, none⟩) (n - 1) (c - 1)) _ (by show w.heap.size ≠ g; have := HG.out; omega)))
    have HBt_4 := Lib.hid (HBt_3.out.keep (Below.heap_setCell u1 ⟨g, 0, none⟩ (.slice (some ⟨b, o + 4, none⟩) (n - 1) (c - 1)) _ (by show (w.heap.size + 1) ≠ g; have := HG.out; omega)))
    have c5_0 := HBt_4.out.cell 0
    have c5_1 := HBt_4.out.cell 1
    have c5_2 := HBt_4.out.cell 2
    have c5_3 := HBt_4.out.cell 3
    have c6 := HBr_4.out.cell 0
    have f6 := HBr_4.out.frozen 0
    have HO6 := Lib.hid (HO4.out.new (r := w.heap.size) (by have := HG.out; omega) 0 (.int .i64 kd))
    have HR6 := Lib.hid (HR4.out.set (r := w.heap.size) (by have := HG.out; omega) 0 (.int .i64 kd))
    have HBr_6 : Hid (Ob ((u1.setCell ⟨g, 0, none⟩ (.slice (some ⟨b, o + 4, none⟩) (n - 1) (c - 1))).setCell ⟨w.heap.size, 0, none⟩ (.int .i64 kd)) (w.heap.size) 37 #[.int .i64 kd, .int .i64 0, .string ⟨#[]⟩]) := Lib.hid (by have := HBr_4.out.put 0 (.int .i64 kd); simpa using this)
    have HBt_6 := Lib.hid (HBt_4.out.keep (Below.heap_setCell (u1.setCell ⟨g, 0, none⟩ (.slice (some ⟨b, o + 4, none⟩) (n - 1) (c - 1))) ⟨w.heap.size, 0, none⟩ (.int .i64 kd) _ (by show (w.heap.size + 1) ≠ w.heap.size; have := HG.out; omega)))
    have c7 := HBr_6.out.cell 1
    have f7 := HBr_6.out.frozen 1
    have HO7 := Lib.hid (HO6.out.new (r := w.heap.size) (by have := HG.out; omega) 1 (.int .i64 s.hd.n))
    have HR7 := Lib.hid (HR6.out.set (r := w.heap.size) (by have := HG.out; omega) 1 (.int .i64 s.hd.n))
    have HBr_7 : Hid (Ob (((u1.setCell ⟨g, 0, none⟩ (.slice (some ⟨b, o + 4, none⟩) (n - 1) (c - 1))).setCell ⟨w.heap.size, 0, none⟩ (.int .i64 kd)).setCell ⟨w.heap.size, 1, none⟩ (.int .i64 s.hd.n)) (w.heap.size) 37 #[.int .i64 kd, .int .i64 s.hd.n, .string ⟨#[]⟩]) := Lib.hid (by have := HBr_6.out.put 1 (.int .i64 s.hd.n); simpa using this)
    have HBt_7 := Lib.hid (HBt_6.out.keep (Below.heap_setCell ((u1.setCell ⟨g, 0, none⟩ (.slice (some ⟨b, o + 4, none⟩) (n - 1) (c - 1))).setCell ⟨w.heap.size, 0, none⟩ (.int .i64 kd)) ⟨w.heap.size, 1, none⟩ (.int .i64 s.hd.n) _ (by show (w.heap.size + 1) ≠ w.heap.size; have := HG.out; omega)))
    have c8 := HBr_7.out.cell 2
    have f8 := HBr_7.out.frozen 2
    have HO8 := Lib.hid (HO7.out.new (r := w.heap.size) (by have := HG.out; omega) 2 (.string s.hd.s))
    have HR8 := Lib.hid (HR7.out.set (r := w.heap.size) (by have := HG.out; omega) 2 (.string s.hd.s))
    have HBr_8 : Hid (Ob ((((u1.setCell ⟨g, 0, none⟩ (.slice (some ⟨b, o + 4, none⟩) (n - 1) (c - 1))).setCell ⟨w.heap.size, 0, none⟩ (.int .i64 kd)).setCell ⟨w.heap.size, 1, none⟩ (.int .i64 s.hd.n)).setCell ⟨w.heap.size, 2, none⟩ (.string s.hd.s)) (w.heap.size) 37 #[.int .i64 kd, .int .i64 s.hd.n, .string s.hd.s]) := Lib.hid (by have := HBr_7.out.put 2 (.string s.hd.s); simpa using this)
    have HBt_8 := Lib.hid (HBt_7.out.keep (Below.heap_setCell (((u1.setCell ⟨g, 0, none⟩ (.slice (some ⟨b, o + 4, none⟩) (n - 1) (c - 1))).setCell ⟨w.heap.size, 0, none⟩ (.int .i64 kd)).setCell ⟨w.heap.size, 1, none⟩ (.int .i64 s.hd.n)) ⟨w.heap.size, 2, none⟩ (.string s.hd.s) _ (by show (w.heap.size + 1) ≠ w.heap.size; have := HG.out; omega)))
    go_wp2_with fail
    refine bodyPost_ret (value_ret rfl rfl HBr_8.out rfl) rfl ?_
    exact ⟨rfl, HO8.out, HR8.out⟩
set_option maxHeartbeats 3200000 in
theorem pmatch_any (h : Rd L w g s) : Calls Try.prog 90 #[.pointer (some ⟨g, 0, none⟩)] w fun x w' => x = .returned (matchR s).1.val ∧ Only g w w' ∧ Rd L w' g (matchR s).2 := by
  obtain ⟨i, s1, e1⟩ : ∃ i t, catR s = (i, t) := ⟨_, _, rfl⟩
  obtain ⟨⟨ac, an, am⟩, s2, e2⟩ : ∃ a t, attrR (i : Int) s1 = (a, t) := ⟨_, _, rfl⟩
  obtain ⟨j, s3, e3⟩ : ∃ i t, mustR [m_eqm, m_lt, m_gt] s2 = (i, t) := ⟨_, _, rfl⟩
  obtain ⟨⟨vk, vn, vs⟩, s4, e4⟩ : ∃ a t, valueR s3 = (a, t) := ⟨_, _, rfl⟩
  have HE : Hid (matchR s = (⟨⟨ac, an, am⟩, (j : Int), ⟨vk, vn, vs⟩⟩, s4)) := by show _ = _; unfold matchR; simp only [e1, e2, e3, e4]
  rw [HE.out]
  have E1 := Lib.hid e1
  have E2 := Lib.hid e2
  have E3 := Lib.hid e3
  have E4 := Lib.hid e4
  have HG : Hid (g < w.heap.size) := h.lt
  have HBr_1 : Hid (Ob (w.alloc (.cells #[.int .i64 0, .string ⟨#[]⟩, .bool false, .int .i64 0, .int .i64 0, .int .i64 0, .string ⟨#[]⟩] 39)) (w.heap.size) 39 #[.int .i64 0, .string ⟨#[]⟩, .bool false, .int .i64 0, .int .i64 0, .int .i64 0, .string ⟨#[]⟩]) := Lib.hid (by have := Ob.made w 39 #[.int .i64 0, .string ⟨#[]⟩, .bool false, .int .i64 0, .int .i64 0, .int .i64 0, .string ⟨#[]⟩]; simpa using this)
  have HBr_2 := Lib.hid (HBr_1.out.keep (Below.heap_alloc (w.alloc (.cells #[.int .i64 0, .string ⟨#[]⟩, .bool false, .int .i64 0, .int .i64 0, .int .i64 0, .string ⟨#[]⟩] 39)) (.cells #[.int .i64 0, .string ⟨#[]⟩, .bool false, .int .i64 0, .int .i64 0, .int .i64 0, .string ⟨#[]⟩] 39) _ HBr_1.out.lt))
  have HBm_2 : Hid (Ob ((w.alloc (.cells #[.int .i64 0, .string ⟨#[]⟩, .bool false, .int .i64 0, .int .i64 0, .int .i64 0, .string ⟨#[]⟩] 39)).alloc (.cells #[.int .i64 0, .string ⟨#[]⟩, .bool false, .int .i64 0, .int .i64 0, .int .i64 0, .string ⟨#[]⟩] 39)) (w.heap.size + 1) 39 #[.int .i64 0, .string ⟨#[]⟩, .bool false, .int .i64 0, .int .i64 0, .int .i64 0, .string ⟨#[]⟩]) := Lib.hid (by have := Ob.made (w.alloc (.cells #[.int .i64 0, .string ⟨#[]⟩, .bool false, .int .i64 0, .int .i64 0, .int .i64 0, .string ⟨#[]⟩] 39)) 39 #[.int .i64 0, .string ⟨#[]⟩, .bool false, .int .i64 0, .int .i64 0, .int .i64 0, .string ⟨#[]⟩]; simpa using this)
  have HR0 := Lib.hid ((h.alloc (.cells #[.int .i64 0, .string ⟨#[]⟩, .bool false, .int .i64 0, .int .i64 0, .int .i64 0, .string ⟨#[]⟩] 39)).alloc (.cells #[.int .i64 0, .string ⟨#[]⟩, .bool false, .int .i64 0, .int .i64 0, .int .i64 0, .string ⟨#[]⟩] 39))
  have HO0 := Lib.hid (((Only.refl (r := g) (w := w)).al (.cells #[.int .i64 0, .string ⟨#[]⟩, .bool false, .int .i64 0, .int .i64 0, .int .i64 0, .string ⟨#[]⟩] 39)).al (.cells #[.int .i64 0, .string ⟨#[]⟩, .bool false, .int .i64 0, .int .i64 0, .int .i64 0, .string ⟨#[]⟩] 39))
  clear h e1 e2 e3 e4
  go_enter Try.func90, Try.ntmps90
  go_wp2_with fail
  go_at_call 98
  refine (pcat_any HR0.out).mono ?_
  rintro x u3 ⟨hx, ho, hr⟩
  obtain rfl : x = .returned (.int .i64 (i : Int)) := by rw [hx, E1.out] <;> rfl
  rw [E1.out] at hr
  clear hx
  have HO3 := Lib.hid (HO0.out.trans ho)
  have HR3 := Lib.hid hr
  have HBr_3 := Lib.hid (HBr_2.out.keep (ho.heap HBr_2.out.lt (by have := HG.out; omega)))
  have HBm_3 := Lib.hid (HBm_2.out.keep (ho.heap HBm_2.out.lt (by have := HG.out; omega)))
  clear ho hr
  go_wp2_with fail
  go_at_call 97
  refine (pattr_any HR3.out (i : Int)).mono ?_
  rintro x u4 ⟨hx, ho, hr⟩
  obtain rfl : x = .returned (.agg #[.int .i64 ac, .string an, .bool am]) := by rw [hx, E2.out] <;> rfl
  rw [E2.out] at hr
  clear hx
  have HO4 := Lib.hid (HO3.out.trans ho)
  have HR4 := Lib.hid hr
  have HBr_4 := Lib.hid (HBr_3.out.keep (ho.heap HBr_3.out.lt (by have := HG.out; omega)))
  have HBm_4 := Lib.hid (HBm_3.out.keep (ho.heap HBm_3.out.lt (by have := HG.out; omega)))
  clear ho hr
  have c5 := HBm_4.out.cell 0
  have f5 := HBm_4.out.frozen 0
  have HO5 := Lib.hid (HO4.out.new (r := w.heap.size + 1) (by have := HG.out; omega) 0 (.int .i64 ac))
  have HR5 := Lib.hid (HR4.out.set (r := w.heap.size + 1) (by have := HG.out; omega) 0 (.int .i64 ac))
  have HBr_5 := Lib.hid (HBr_4.out.keep (Below.heap_setCell u4 ⟨w.heap.size + 1, 0, none⟩ (.int .i64 ac) _ (by show w.heap.size ≠ w.heap.size + 1; have := HG.out; omega)))
  have HBm_5 : Hid (Ob (u4.setCell ⟨w.heap.size + 1, 0, none⟩ (.int .i64 ac)) (w.heap.size + 1) 39 #[.int .i64 ac, .string ⟨#[]⟩, .bool false, .int .i64 0, .int .i64 0, .int .i64 0, .string ⟨#[]⟩]) := Lib.hid (by have := HBm_4.out.put 0 (.int .i64 ac); simpa using this)
  have c6 := HBm_5.out.cell 1
  have f6 := HBm_5.out.frozen 1
  have HO6 := Lib.hid (HO5.out.new (r := w.heap.size + 1) (by have := HG.out; omega) 1 (.string an))
  have HR6 := Lib.hid (HR5.out.set (r := w.heap.size + 1) (by have := HG.out; omega) 1 (.string an))
  have HBr_6 := Lib.hid (HBr_5.out.keep (Below.heap_setCell (u4.setCell ⟨w.heap.size + 1, 0, none⟩ (.int .i64 ac)) ⟨w.heap.size + 1, 1, none⟩ (.string an) _ (by show w.heap.size ≠ w.heap.size + 1; have := HG.out; omega)))
  have HBm_6 : Hid (Ob ((u4.setCell ⟨w.heap.size + 1, 0, none⟩ (.int .i64 ac)).setCell ⟨w.heap.size + 1, 1, none⟩ (.string an)) (w.heap.size + 1) 39 #[.int .i64 ac, .string an, .bool false, .int .i64 0, .int .i64 0, .int .i64 0, .string ⟨#[]⟩]) := Lib.hid (by have := HBm_5.out.put 1 (.string an); simpa using this)
  have c7 := HBm_6.out.cell 2
  have f7 := HBm_6.out.frozen 2
  have HO7 := Lib.hid (HO6.out.new (r := w.heap.size + 1) (by have := HG.out; omega) 2 (.bool am))
  have HR7 := Lib.hid (HR6.out.set (r := w.heap.size + 1) (by have := HG.out; omega) 2 (.bool am))
  have HBr_7 := Lib.hid (HBr_6.out.keep (Below.heap_setCell ((u4.setCell ⟨w.heap.size + 1, 0, none⟩ (.int .i64 ac)).setCell ⟨w.heap.size + 1, 1, none⟩ (.string an)) ⟨w.heap.size + 1, 2, none⟩ (.bool am) _ (by show w.heap.size ≠ w.heap.size + 1; have := HG.out; omega)))
  have HBm_7 : Hid (Ob (((u4.setCell ⟨w.heap.size + 1, 0, none⟩ (.int .i64 ac)).setCell ⟨w.heap.size + 1, 1, none⟩ (.string an)).setCell ⟨w.heap.size + 1, 2, none⟩ (.bool am)) (w.heap.size + 1) 39 #[.int .i64 ac, .string an, .bool am, .int .i64 0, .int .i64 0, .int .i64 0, .string ⟨#[]⟩]) := Lib.hid (by have := HBm_6.out.put 2 (.bool am); simpa using this)
  go_wp2_with fail
  go_at_call 43
  refine (pmust_lit HR7.out [m_eqm, m_lt, m_gt] #[.string ⟨#[61]⟩, .string ⟨#[60]⟩, .string ⟨#[62]⟩] 3 rfl rfl (by omega) (by first | rfl | (simp; done) | (simp [World.setCell]; done))).mono ?_
  rintro x u8 ⟨hx, ho, hr⟩
  obtain rfl : x = .returned (.int .i64 (j : Int)) := by rw [hx, E3.out] <;> rfl
  rw [E3.out] at hr
  clear hx
  have HO8 := Lib.hid (HO7.out.trans ho)
  have HR8 := Lib.hid hr
  have HBr_8 := Lib.hid (HBr_7.out.keep (ho.heap HBr_7.out.lt (by have := HG.out; omega)))
  have HBm_8 := Lib.hid (HBm_7.out.keep (ho.heap HBm_7.out.lt (by have := HG.out; omega)))
  clear ho hr
  have c9 := HBm_8.out.cell 3
  have f9 := HBm_8.out.frozen 3
  have HO9 := Lib.hid (HO8.out.new (r := w.heap.size + 1) (by have := HG.out; omega) 3 (.int .i64 (j : Int)))
  have HR9 := Lib.hid (HR8.out.set (r := w.heap.size + 1) (by have := HG.out; omega) 3 (.int .i64 (j : Int)))
  have HBr_9 := Lib.hid (HBr_8.out.keep (Below.heap_setCell u8 ⟨w.heap.size + 1, 3, none⟩ (.int .i64 (j : Int)) _ (by show w.heap.size ≠ w.heap.size + 1; have := HG.out; omega)))
  have HBm_9 : Hid (Ob (u8.setCell ⟨w.heap.size + 1, 3, none⟩ (.int .i64 (j : Int))) (w.heap.size + 1) 39 #[.int .i64 ac, .string an, .bool am, .int .i64 (j : Int), .int .i64 0, .int .i64 0, .string ⟨#[]⟩]) := Lib.hid (by have := HBm_8.out.put 3 (.int .i64 (j : Int)); simpa using this)
  go_wp2_with fail
  go_at_call 99
  refine (pvalue_any HR9.out).mono ?_
  rintro x u10 ⟨hx, ho, hr⟩
  obtain rfl : x = .returned (.agg #[.int .i64 vk, .int .i64 vn, .string vs]) := by rw [hx, E4.out] <;> rfl
  rw [E4.out] at hr
  clear hx
  have HO10 := Lib.hid (HO9.out.trans ho)
  have HR10 := Lib.hid hr
  have HBr_10 := Lib.hid (HBr_9.out.keep (ho.heap HBr_9.out.lt (by have := HG.out; omega)))
  have HBm_10 := Lib.hid (HBm_9.out.keep (ho.heap HBm_9.out.lt (by have := HG.out; omega)))
  clear ho hr
  have c11 := HBm_10.out.cell 4
  have f11 := HBm_10.out.frozen 4
  have HO11 := Lib.hid (HO10.out.new (r := w.heap.size + 1) (by have := HG.out; omega) 4 (.int .i64 vk))
  have HR11 := Lib.hid (HR10.out.set (r := w.heap.size + 1) (by have := HG.out; omega) 4 (.int .i64 vk))
  have HBr_11 := Lib.hid (HBr_10.out.keep (Below.heap_setCell u10 ⟨w.heap.size + 1, 4, none⟩ (.int .i64 vk) _ (by show w.heap.size ≠ w.heap.size + 1; have := HG.out; omega)))
  have HBm_11 : Hid (Ob (u10.setCell ⟨w.heap.size + 1, 4, none⟩ (.int .i64 vk)) (w.heap.size + 1) 39 #[.int .i64 ac, .string an, .bool am, .int .i64 (j : Int), .int .i64 vk, .int .i64 0, .string ⟨#[]⟩]) := Lib.hid (by have := HBm_10.out.put 4 (.int .i64 vk); simpa using this)
  have c12 := HBm_11.out.cell 5
  have f12 := HBm_11.out.frozen 5
  have HO12 := Lib.hid (HO11.out.new (r := w.heap.size + 1) (by have := HG.out; omega) 5 (.int .i64 vn))
  have HR12 := Lib.hid (HR11.out.set (r := w.heap.size + 1) (by have := HG.out; omega) 5 (.int .i64 vn))
  have HBr_12 := Lib.hid (HBr_11.out.keep (Below.heap_setCell (u10.setCell ⟨w.heap.size + 1, 4, none⟩ (.int .i64 vk)) ⟨w.heap.size + 1, 5, none⟩ (.int .i64 vn) _ (by show w.heap.size ≠ w.heap.size + 1; have := HG.out; omega)))
  have HBm_12 : Hid (Ob ((u10.setCell ⟨w.heap.size + 1, 4, none⟩ (.int .i64 vk)).setCell ⟨w.heap.size + 1, 5, none⟩ (.int .i64 vn)) (w.heap.size + 1) 39 #[.int .i64 ac, .string an, .bool am, .int .i64 (j : Int), .int .i64 vk, .int .i64 vn, .string ⟨#[]⟩]) := Lib.hid (by have := HBm_11.out.put 5 (.int .i64 vn); simpa using this)
  have c13 := HBm_12.out.cell 6
  have f13 := HBm_12.out.frozen 6
  have HO13 := Lib.hid (HO12.out.new (r := w.heap.size + 1) (by have := HG.out; omega) 6 (.string vs))
  have HR13 := Lib.hid (HR12.out.set (r := w.heap.size + 1) (by have := HG.out; omega) 6 (.string vs))
  have HBr_13 := Lib.hid (HBr_12.out.keep (Below.heap_setCell ((u10.setCell ⟨w.heap.size + 1, 4, none⟩ (.int .i64 vk)).setCell ⟨w.heap.size + 1, 5, none⟩ (.int .i64 vn)) ⟨w.heap.size + 1, 6, none⟩ (.string vs) _ (by show w.heap.size ≠ w.heap.size + 1; have := HG.out; omega)))
  have HBm_13 : Hid (Ob (((u10.setCell ⟨w.heap.size + 1, 4, none⟩ (.int .i64 vk)).setCell ⟨w.heap.size + 1, 5, none⟩ (.int .i64 vn)).setCell ⟨w.heap.size + 1, 6, none⟩ (.string vs)) (w.heap.size + 1) 39 #[.int .i64 ac, .string an, .bool am, .int .i64 (j : Int), .int .i64 vk, .int .i64 vn, .string vs]) := Lib.hid (by have := HBm_12.out.put 6 (.string vs); simpa using this)
  have c14_0 := HBm_13.out.cell 0
  have c14_1 := HBm_13.out.cell 1
  have c14_2 := HBm_13.out.cell 2
  have c14_3 := HBm_13.out.cell 3
  have c14_4 := HBm_13.out.cell 4
  have c14_5 := HBm_13.out.cell 5
  have c14_6 := HBm_13.out.cell 6
  have c15 := HBr_13.out.cell 0
  have f15 := HBr_13.out.frozen 0
  have HO15 := Lib.hid (HO13.out.new (r := w.heap.size) (by have := HG.out; omega) 0 (.int .i64 ac))
  have HR15 := Lib.hid (HR13.out.set (r := w.heap.size) (by have := HG.out; omega) 0 (.int .i64 ac))
  have HBr_15 : Hid (Ob ((((u10.setCell ⟨w.heap.size + 1, 4, none⟩ (.int .i64 vk)).setCell ⟨w.heap.size + 1, 5, none⟩ (.int .i64 vn)).setCell ⟨w.heap.size + 1, 6, none⟩ (.string vs)).setCell ⟨w.heap.size, 0, none⟩ (.int .i64 ac)) (w.heap.size) 39 #[.int .i64 ac, .string ⟨#[]⟩, .bool false, .int .i64 0, .int .i64 0, .int .i64 0, .string ⟨#[]⟩]) := Lib.hid (by have := HBr_13.out.put 0 (.int .i64 ac); simpa using this)
  have HBm_15 := Lib.hid (HBm_13.out.keep (Below.heap_setCell (((u10.setCell ⟨w.heap.size + 1, 4, none⟩ (.int .i64 vk)).setCell ⟨w.heap.size + 1, 5, none⟩ (.int .i64 vn)).setCell ⟨w.heap.size + 1, 6, none⟩ (.string vs)) ⟨w.heap.size, 0, none⟩ (.int .i64 ac) _ (by show w.heap.size + 1 ≠ w.heap.size; have := HG.out; omega)))
  have c16 := HBr_15.out.cell 1
  have f16 := HBr_15.out.frozen 1
  have HO16 := Lib.hid (HO15.out.new (r := w.heap.size) (by have := HG.out; omega) 1 (.string an))
  have HR16 := Lib.hid (HR15.out.set (r := w.heap.size) (by have := HG.out; omega) 1 (.string an))
  have HBr_16 : Hid (Ob (((((u10.setCell ⟨w.heap.size + 1, 4, none⟩ (.int .i64 vk)).setCell ⟨w.heap.size + 1, 5, none⟩ (.int .i64 vn)).setCell ⟨w.heap.size + 1, 6, none⟩ (.string vs)).setCell ⟨w.heap.size, 0, none⟩ (.int .i64 ac)).setCell ⟨w.heap.size, 1, none⟩ (.string an)) (w.heap.size) 39 #[.int .i64 ac, .string an, .bool false, .int .i64 0, .int .i64 0, .int .i64 0, .string ⟨#[]⟩]) := Lib.hid (by have := HBr_15.out.put 1 (.string an); simpa using this)
  have HBm_16 := Lib.hid (HBm_15.out.keep (Below.heap_setCell ((((u10.setCell ⟨w.heap.size + 1, 4, none⟩ (.int .i64 vk)).setCell ⟨w.heap.size + 1, 5, none⟩ (.int .i64 vn)).setCell ⟨w.heap.size + 1, 6, none⟩ (.string vs)).setCell ⟨w.heap.size, 0, none⟩ (.int .i64 ac)) ⟨w.heap.size, 1, none⟩ (.string an) _ (by show w.heap.size + 1 ≠ w.heap.size; have := HG.out; omega)))
  have c17 := HBr_16.out.cell 2
  have f17 := HBr_16.out.frozen 2
  have HO17 := Lib.hid (HO16.out.new (r := w.heap.size) (by have := HG.out; omega) 2 (.bool am))
  have HR17 := Lib.hid (HR16.out.set (r := w.heap.size) (by have := HG.out; omega) 2 (.bool am))
  have HBr_17 : Hid (Ob ((((((u10.setCell ⟨w.heap.size + 1, 4, none⟩ (.int .i64 vk)).setCell ⟨w.heap.size + 1, 5, none⟩ (.int .i64 vn)).setCell ⟨w.heap.size + 1, 6, none⟩ (.string vs)).setCell ⟨w.heap.size, 0, none⟩ (.int .i64 ac)).setCell ⟨w.heap.size, 1, none⟩ (.string an)).setCell ⟨w.heap.size, 2, none⟩ (.bool am)) (w.heap.size) 39 #[.int .i64 ac, .string an, .bool am, .int .i64 0, .int .i64 0, .int .i64 0, .string ⟨#[]⟩]) := Lib.hid (by have := HBr_16.out.put 2 (.bool am); simpa using this)
  have HBm_17 := Lib.hid (HBm_16.out.keep (Below.heap_setCell (((((u10.setCell ⟨w.heap.size + 1, 4, none⟩ (.int .i64 vk)).setCell ⟨w.heap.size + 1, 5, none⟩ (.int .i64 vn)).setCell ⟨w.heap.size + 1, 6, none⟩ (.string vs)).setCell ⟨w.heap.size, 0, none⟩ (.int .i64 ac)).setCell ⟨w.heap.size, 1, none⟩ (.string an)) ⟨w.heap.size, 2, none⟩ (.bool am) _ (by show w.heap.size + 1 ≠ w.heap.size; have := HG.out; omega)))
  have c18 := HBr_17.out.cell 3
  have f18 := HBr_17.out.frozen 3
  have HO18 := Lib.hid (HO17.out.new (r := w.heap.size) (by have := HG.out; omega) 3 (.int .i64 (j : Int)))
  have HR18 := Lib.hid (HR17.out.set (r := w.heap.size) (by have := HG.out; omega) 3 (.int .i64 (j : Int)))
  have HBr_18 : Hid (Ob (((((((u10.setCell ⟨w.heap.size + 1, 4, none⟩ (.int .i64 vk)).setCell ⟨w.heap.size + 1, 5, none⟩ (.int .i64 vn)).setCell ⟨w.heap.size + 1, 6, none⟩ (.string vs)).setCell ⟨w.heap.size, 0, none⟩ (.int .i64 ac)).setCell ⟨w.heap.size, 1, none⟩ (.string an)).setCell ⟨w.heap.size, 2, none⟩ (.bool am)).setCell ⟨w.heap.size, 3, none⟩ (.int .i64 (j : Int))) (w.heap.size) 39 #[.int .i64 ac, .string an, .bool am, .int .i64 (j : Int), .int .i64 0, .int .i64 0, .string ⟨#[]⟩]) := Lib.hid (by have := HBr_17.out.put 3 (.int .i64 (j : Int)); simpa using this)
  have HBm_18 := Lib.hid (HBm_17.out.keep (Below.heap_setCell ((((((u10.setCell ⟨w.heap.size + 1, 4, none⟩ (.int .i64 vk)).setCell ⟨w.heap.size + 1, 5, none⟩ (.int .i64 vn)).setCell ⟨w.heap.size + 1, 6, none⟩ (.string vs)).setCell ⟨w.heap.size, 0, none⟩ (.int .i64 ac)).setCell ⟨w.heap.size, 1, none⟩ (.string an)).setCell ⟨w.heap.size, 2, none⟩ (.bool am)) ⟨w.heap.size, 3, none⟩ (.int .i64 (j : Int)) _ (by show w.heap.size + 1 ≠ w.heap.size; have := HG.out; omega)))
  have c19 := HBr_18.out.cell 4
  have f19 := HBr_18.out.frozen 4
  have HO19 := Lib.hid (HO18.out.new (r := w.heap.size) (by have := HG.out; omega) 4 (.int .i64 vk))
  have HR19 := Lib.hid (HR18.out.set (r := w.heap.size) (by have := HG.out; omega) 4 (.int .i64 vk))
  have HBr_19 : Hid (Ob ((((((((u10.setCell ⟨w.heap.size + 1, 4, none⟩ (.int .i64 vk)).setCell ⟨w.heap.size + 1, 5, none⟩ (.int .i64 vn)).setCell ⟨w.heap.size + 1, 6, none⟩ (.string vs)).setCell ⟨w.heap.size, 0, none⟩ (.int .i64 ac)).setCell ⟨w.heap.size, 1, none⟩ (.string an)).setCell ⟨w.heap.size, 2, none⟩ (.bool am)).setCell ⟨w.heap.size, 3, none⟩ (.int .i64 (j : Int))).setCell ⟨w.heap.size, 4, none⟩ (.int .i64 vk)) (w.heap.size) 39 #[.int .i64 ac, .string an, .bool am, .int .i64 (j : Int), .int .i64 vk, .int .i64 0, .string ⟨#[]⟩]) := Lib.hid (by have := HBr_18.out.put 4 (.int .i64 vk); simpa using this)
  have HBm_19 := Lib.hid (HBm_18.out.keep (Below.heap_setCell (((((((u10.setCell ⟨w.heap.size + 1, 4, none⟩ (.int .i64 vk)).setCell ⟨w.heap.size + 1, 5, none⟩ (.int .i64 vn)).setCell ⟨w.heap.size + 1, 6, none⟩ (.string vs)).setCell ⟨w.heap.size, 0, none⟩ (.int .i64 ac)).setCell ⟨w.heap.size, 1, none⟩ (.string an)).setCell ⟨w.heap.size, 2, none⟩ (.bool am)).setCell ⟨w.heap.size, 3, none⟩ (.int .i64 (j : Int))) ⟨w.heap.size, 4, none⟩ (.int .i64 vk) _ (by show w.heap.size + 1 ≠ w.heap.size; have := HG.out; omega)))
  have c20 := HBr_19.out.cell 5
  have f20 := HBr_19.out.frozen 5
  have HO20 := Lib.hid (HO19.out.new (r := w.heap.size) (by have := HG.out; omega) 5 (.int .i64 vn))
  have HR20 := Lib.hid (HR19.out.set (r := w.heap.size) (by have := HG.out; omega) 5 (.int .i64 vn))
  have HBr_20 : Hid (Ob (((((((((u10.setCell ⟨w.heap.size + 1, 4, none⟩ (.int .i64 vk)).setCell ⟨w.heap.size + 1, 5, none⟩ (.int .i64 vn)).setCell ⟨w.heap.size + 1, 6, none⟩ (.string vs)).setCell ⟨w.heap.size, 0, none⟩ (.int .i64 ac)).setCell ⟨w.heap.size, 1, none⟩ (.string an)).setCell ⟨w.heap.size, 2, none⟩ (.bool am)).setCell ⟨w.heap.size, 3, none⟩ (.int .i64 (j : Int))).setCell ⟨w.heap.size, 4, none⟩ (.int .i64 vk)).setCell ⟨w.heap.size, 5, none⟩ (.int .i64 vn)) (w.heap.size) 39 #[.int .i64 ac, .string an, .bool am, .int .i64 (j : Int), .int .i64 vk, .int .i64 vn, .string ⟨#[]⟩]) := Lib.hid (by have := HBr_19.out.put 5 (.int .i64 vn); simpa using this)
  have HBm_20 := Lib.hid (HBm_19.out.keep (Below.heap_setCell ((((((((u10.setCell ⟨w.heap.size + 1, 4, none⟩ (.int .i64 vk)).setCell ⟨w.heap.size + 1, 5, none⟩ (.int .i64 vn)).setCell ⟨w.heap.size + 1, 6, none⟩ (.string vs)).setCell ⟨w.heap.size, 0, none⟩ (.int .i64 ac)).setCell ⟨w.heap.size, 1, none⟩ (.string an)).setCell ⟨w.heap.size, 2, none⟩ (.bool am)).setCell ⟨w.heap.size, 3, none⟩ (.int .i64 (j : Int))).setCell ⟨w.heap.size, 4, none⟩ (.int .i64 vk)) ⟨w.heap.size, 5, none⟩ (.int .i64 vn) _ (by show w.heap.size + 1 ≠ w.heap.size; have := HG.out; omega)))
  have c21 := HBr_20.out.cell 6
  have f21 := HBr_20.out.frozen 6
  have HO21 := Lib.hid (HO20.out.new (r := w.heap.size) (by have := HG.out; omega) 6 (.string vs))
  have HR21 := Lib.hid (HR20.out.set (r := w.heap.size) (by have := HG.out; omega) 6 (.string vs))
  have HBr_21 : Hid (Ob ((((((((((u10.setCell ⟨w.heap.size + 1, 4, none⟩ (.int .i64 vk)).setCell ⟨w.heap.size + 1, 5, none⟩ (.int .i64 vn)).setCell ⟨w.heap.size + 1, 6, none⟩ (.string vs)).setCell ⟨w.heap.size, 0, none⟩ (.int .i64 ac)).setCell ⟨w.heap.size, 1, none⟩ (.string an)).setCell ⟨w.heap.size, 2, none⟩ (.bool am)).setCell ⟨w.heap.size, 3, none⟩ (.int .i64 (j : Int))).setCell ⟨w.heap.size, 4, none⟩ (.int .i64 vk)).setCell ⟨w.heap.size, 5, none⟩ (.int .i64 vn)).setCell ⟨w.heap.size, 6, none⟩ (.string vs)) (w.heap.size) 39 #[.int .i64 ac, .string an, .bool am, .int .i64 (j : Int), .int .i64 vk, .int .i64 vn, .string vs]) := Lib.hid (by have := HBr_20.out.put 6 (.string vs); simpa using this)
  have HBm_21 := Lib.hid (HBm_20.out.keep (Below.heap_setCell (((((((((u10.setCell ⟨w.heap.size + 1, 4, none⟩ (.int .i64 vk)).setCell ⟨w.heap.size + 1, 5, none⟩ (.int .i64 vn)).setCell ⟨w.heap.size + 1, 6, none⟩ (.string vs)).setCell ⟨w.heap.size, 0, none⟩ (.int .i64 ac)).setCell ⟨w.heap.size, 1, none⟩ (.string an)).setCell ⟨w.heap.size, 2, none⟩ (.bool am)).setCell ⟨w.heap.size, 3, none⟩ (.int .i64 (j : Int))).setCell ⟨w.heap.size, 4, none⟩ (.int .i64 vk)).setCell ⟨w.heap.size, 5, none⟩ (.int .i64 vn)) ⟨w.heap.size, 6, none⟩ (.string vs) _ (by show w.heap.size + 1 ≠ w.heap.size; have := HG.out; omega)))
  go_wp2_with fail
  refine bodyPost_ret (match_ret rfl rfl HBr_21.out rfl) rfl ?_
  exact ⟨rfl, HO21.out, HR21.out⟩
set_option maxHeartbeats 3200000 in
theorem pleaf_any (h : Rd L w g s) : Calls Try.prog 101 #[.pointer (some ⟨g, 0, none⟩)] w fun x w' => x = .returned (leafR s).1.val ∧ Only g w w' ∧ Rd L w' g (leafR s).2 := by
  obtain ⟨i, s1, e1⟩ : ∃ i t, catR s = (i, t) := ⟨_, _, rfl⟩
  by_cases hc : 0 < i
  · obtain ⟨⟨ac, an, am⟩, s2, e2⟩ : ∃ a t, attrR (i : Int) s1 = (a, t) := ⟨_, _, rfl⟩
    have HE : Hid (leafR s = (⟨2, zeroV, ⟨ac, an, am⟩⟩, s2)) := by show _ = _; unfold leafR; simp only [e1, e2, if_pos hc]
    rw [HE.out]
    have E1 := Lib.hid e1
    have E2 := Lib.hid e2
    have HG : Hid (g < w.heap.size) := h.lt
    have HBr_1 : Hid (Ob (w.alloc (.cells #[.int .i64 0, .int .i64 0, .int .i64 0, .string ⟨#[]⟩, .int .i64 0, .string ⟨#[]⟩, .bool false] 41)) (w.heap.size) 41 #[.int .i64 0, .int .i64 0, .int .i64 0, .string ⟨#[]⟩, .int .i64 0, .string ⟨#[]⟩, .bool false]) := Lib.hid (by have := Ob.made w 41 #[.int .i64 0, .int .i64 0, .int .i64 0, .string ⟨#[]⟩, .int .i64 0, .string ⟨#[]⟩, .bool false]; simpa using this)
    have HR0 := Lib.hid (h.alloc (.cells #[.int .i64 0, .int .i64 0, .int .i64 0, .string ⟨#[]⟩, .int .i64 0, .string ⟨#[]⟩, .bool false] 41))
    have HO0 := Lib.hid ((Only.refl (r := g) (w := w)).al (.cells #[.int .i64 0, .int .i64 0, .int .i64 0, .string ⟨#[]⟩, .int .i64 0, .string ⟨#[]⟩, .bool false] 41))
    clear h e1 e2
    go_enter Try.func101, Try.ntmps101
    go_wp2_with fail
    go_at_call 98
    refine (pcat_any HR0.out).mono ?_
    rintro x u2 ⟨hx, ho, hr⟩
    obtain rfl : x = .returned (.int .i64 (i : Int)) := by rw [hx, E1.out] <;> rfl
    rw [E1.out] at hr
    clear hx
    have HO2 := Lib.hid (HO0.out.trans ho)
    have HR2 := Lib.hid hr
    have HBr_2 := Lib.hid (HBr_1.out.keep (ho.heap HBr_1.out.lt (by have := HG.out; omega)))
    clear ho hr
    go_wp2_with fail
    go_at_call 97
    refine (pattr_any HR2.out (i : Int)).mono ?_
    rintro x u3 ⟨hx, ho, hr⟩
    obtain rfl : x = .returned (.agg #[.int .i64 ac, .string an, .bool am]) := by rw [hx, E2.out] <;> rfl
    rw [E2.out] at hr
    clear hx
    have HO3 := Lib.hid (HO2.out.trans ho)
    have HR3 := Lib.hid hr
    have HBr_3 := Lib.hid (HBr_2.out.keep (ho.heap HBr_2.out.lt (by have := HG.out; omega)))
    clear ho hr
    have c4 := HBr_3.out.cell 0
    have f4 := HBr_3.out.frozen 0
    have HO4 := Lib.hid (HO3.out.new (r := w.heap.size) (by have := HG.out; omega) 0 (.int .i64 2))
    have HR4 := Lib.hid (HR3.out.set (r := w.heap.size) (by have := HG.out; omega) 0 (.int .i64 2))
    have HBr_4 : Hid (Ob (u3.setCell ⟨w.heap.size, 0, none⟩ (.int .i64 2)) (w.heap.size) 41 #[.int .i64 2, .int .i64 0, .int .i64 0, .string ⟨#[]⟩, .int .i64 0, .string ⟨#[]⟩, .bool false]) := Lib.hid (by have := HBr_3.out.put 0 (.int .i64 2); simpa using this)
    have c5 := HBr_4.out.cell 1
    have f5 := HBr_4.out.frozen 1
    have HO5 := Lib.hid (HO4.out.new (r := w.heap.size) (by have := HG.out; omega) 1 (.int .i64 0))
    have HR5 := Lib.hid (HR4.out.set (r := w.heap.size) (by have := HG.out; omega) 1 (.int .i64 0))
    have HBr_5 : Hid (Ob ((u3.setCell ⟨w.heap.size, 0, none⟩ (.int .i64 2)).setCell ⟨w.heap.size, 1, none⟩ (.int .i64 0)) (w.heap.size) 41 #[.int .i64 2, .int .i64 0, .int .i64 0, .string ⟨#[]⟩, .int .i64 0, .string ⟨#[]⟩, .bool false]) := Lib.hid (by have := HBr_4.out.put 1 (.int .i64 0); simpa using this)
    have c6 := HBr_5.out.cell 2
    have f6 := HBr_5.out.frozen 2
    have HO6 := Lib.hid (HO5.out.new (r := w.heap.size) (by have := HG.out; omega) 2 (.int .i64 0))
    have HR6 := Lib.hid (HR5.out.set (r := w.heap.size) (by have := HG.out; omega) 2 (.int .i64 0))
    have HBr_6 : Hid (Ob (((u3.setCell ⟨w.heap.size, 0, none⟩ (.int .i64 2)).setCell ⟨w.heap.size, 1, none⟩ (.int .i64 0)).setCell ⟨w.heap.size, 2, none⟩ (.int .i64 0)) (w.heap.size) 41 #[.int .i64 2, .int .i64 0, .int .i64 0, .string ⟨#[]⟩, .int .i64 0, .string ⟨#[]⟩, .bool false]) := Lib.hid (by have := HBr_5.out.put 2 (.int .i64 0); simpa using this)
    have c7 := HBr_6.out.cell 3
    have f7 := HBr_6.out.frozen 3
    have HO7 := Lib.hid (HO6.out.new (r := w.heap.size) (by have := HG.out; omega) 3 (.string ⟨#[]⟩))
    have HR7 := Lib.hid (HR6.out.set (r := w.heap.size) (by have := HG.out; omega) 3 (.string ⟨#[]⟩))
    have HBr_7 : Hid (Ob ((((u3.setCell ⟨w.heap.size, 0, none⟩ (.int .i64 2)).setCell ⟨w.heap.size, 1, none⟩ (.int .i64 0)).setCell ⟨w.heap.size, 2, none⟩ (.int .i64 0)).setCell ⟨w.heap.size, 3, none⟩ (.string ⟨#[]⟩)) (w.heap.size) 41 #[.int .i64 2, .int .i64 0, .int .i64 0, .string ⟨#[]⟩, .int .i64 0, .string ⟨#[]⟩, .bool false]) := Lib.hid (by have := HBr_6.out.put 3 (.string ⟨#[]⟩); simpa using this)
    have c8 := HBr_7.out.cell 4
    have f8 := HBr_7.out.frozen 4
    have HO8 := Lib.hid (HO7.out.new (r := w.heap.size) (by have := HG.out; omega) 4 (.int .i64 ac))
    have HR8 := Lib.hid (HR7.out.set (r := w.heap.size) (by have := HG.out; omega) 4 (.int .i64 ac))
    have HBr_8 : Hid (Ob (((((u3.setCell ⟨w.heap.size, 0, none⟩ (.int .i64 2)).setCell ⟨w.heap.size, 1, none⟩ (.int .i64 0)).setCell ⟨w.heap.size, 2, none⟩ (.int .i64 0)).setCell ⟨w.heap.size, 3, none⟩ (.string ⟨#[]⟩)).setCell ⟨w.heap.size, 4, none⟩ (.int .i64 ac)) (w.heap.size) 41 #[.int .i64 2, .int .i64 0, .int .i64 0, .string ⟨#[]⟩, .int .i64 ac, .string ⟨#[]⟩, .bool false]) := Lib.hid (by have := HBr_7.out.put 4 (.int .i64 ac); simpa using this)
    have c9 := HBr_8.out.cell 5
    have f9 := HBr_8.out.frozen 5
    have HO9 := Lib.hid (HO8.out.new (r := w.heap.size) (by have := HG.out; omega) 5 (.string an))
    have HR9 := Lib.hid (HR8.out.set (r := w.heap.size) (by have := HG.out; omega) 5 (.string an))
    have HBr_9 : Hid (Ob ((((((u3.setCell ⟨w.heap.size, 0, none⟩ (.int .i64 2)).setCell ⟨w.heap.size, 1, none⟩ (.int .i64 0)).setCell ⟨w.heap.size, 2, none⟩ (.int .i64 0)).setCell ⟨w.heap.size, 3, none⟩ (.string ⟨#[]⟩)).setCell ⟨w.heap.size, 4, none⟩ (.int .i64 ac)).setCell ⟨w.heap.size, 5, none⟩ (.string an)) (w.heap.size) 41 #[.int .i64 2, .int .i64 0, .int .i64 0, .string ⟨#[]⟩, .int .i64 ac, .string an, .bool false]) := Lib.hid (by have := HBr_8.out.put 5 (.string an); simpa using this)
    have c10 := HBr_9.out.cell 6
    have f10 := HBr_9.out.frozen 6
    have HO10 := Lib.hid (HO9.out.new (r := w.heap.size) (by have := HG.out; omega) 6 (.bool am))
    have HR10 := Lib.hid (HR9.out.set (r := w.heap.size) (by have := HG.out; omega) 6 (.bool am))
    have HBr_10 : Hid (Ob (((((((u3.setCell ⟨w.heap.size, 0, none⟩ (.int .i64 2)).setCell ⟨w.heap.size, 1, none⟩ (.int .i64 0)).setCell ⟨w.heap.size, 2, none⟩ (.int .i64 0)).setCell ⟨w.heap.size, 3, none⟩ (.string ⟨#[]⟩)).setCell ⟨w.heap.size, 4, none⟩ (.int .i64 ac)).setCell ⟨w.heap.size, 5, none⟩ (.string an)).setCell ⟨w.heap.size, 6, none⟩ (.bool am)) (w.heap.size) 41 #[.int .i64 2, .int .i64 0, .int .i64 0, .string ⟨#[]⟩, .int .i64 ac, .string an, .bool am]) := Lib.hid (by have := HBr_9.out.put 6 (.bool am); simpa using this)
    go_wp2_with fail
    refine bodyPost_ret (node_ret rfl rfl HBr_10.out rfl) rfl ?_
    exact ⟨rfl, HO10.out, HR10.out⟩
  · obtain ⟨⟨vk, vn, vs⟩, s2, e2⟩ : ∃ a t, valueR s1 = (a, t) := ⟨_, _, rfl⟩
    have HE : Hid (leafR s = (⟨1, ⟨vk, vn, vs⟩, zeroA⟩, s2)) := by show _ = _; unfold leafR; simp only [e1, e2, if_neg hc]
    obtain rfl : i = 0 := by omega
    rw [HE.out]
    have E1 := Lib.hid e1
    have E2 := Lib.hid e2
    have HG : Hid (g < w.heap.size) := h.lt
    have HBr_1 : Hid (Ob (w.alloc (.cells #[.int .i64 0, .int .i64 0, .int .i64 0, .string ⟨#[]⟩, .int .i64 0, .string ⟨#[]⟩, .bool false] 41)) (w.heap.size) 41 #[.int .i64 0, .int .i64 0, .int .i64 0, .string ⟨#[]⟩, .int .i64 0, .string ⟨#[]⟩, .bool false]) := Lib.hid (by have := Ob.made w 41 #[.int .i64 0, .int .i64 0, .int .i64 0, .string ⟨#[]⟩, .int .i64 0, .string ⟨#[]⟩, .bool false]; simpa using this)
    have HR0 := Lib.hid (h.alloc (.cells #[.int .i64 0, .int .i64 0, .int .i64 0, .string ⟨#[]⟩, .int .i64 0, .string ⟨#[]⟩, .bool false] 41))
    have HO0 := Lib.hid ((Only.refl (r := g) (w := w)).al (.cells #[.int .i64 0, .int .i64 0, .int .i64 0, .string ⟨#[]⟩, .int .i64 0, .string ⟨#[]⟩, .bool false] 41))
    clear h e1 e2
    go_enter Try.func101, Try.ntmps101
    go_wp2_with fail
    go_at_call 98
    refine (pcat_any HR0.out).mono ?_
    rintro x u2 ⟨hx, ho, hr⟩
    obtain rfl : x = .returned (.int .i64 ((0 : Nat) : Int)) := by rw [hx, E1.out] <;> rfl
    rw [E1.out] at hr
    clear hx
    have HO2 := Lib.hid (HO0.out.trans ho)
    have HR2 := Lib.hid hr
    have HBr_2 := Lib.hid (HBr_1.out.keep (ho.heap HBr_1.out.lt (by have := HG.out; omega)))
    clear ho hr
    go_wp2_with fail
    go_at_call 99
    refine (pvalue_any HR2.out).mono ?_
    rintro x u3 ⟨hx, ho, hr⟩
    obtain rfl : x = .returned (.agg #[.int .i64 vk, .int .i64 vn, .string vs]) := by rw [hx, E2.out] <;> rfl
    rw [E2.out] at hr
    clear hx
    have HO3 := Lib.hid (HO2.out.trans ho)
    have HR3 := Lib.hid hr
    have HBr_3 := Lib.hid (HBr_2.out.keep (ho.heap HBr_2.out.lt (by have := HG.out; omega)))
    clear ho hr
    have c4 := HBr_3.out.cell 0
    have f4 := HBr_3.out.frozen 0
    have HO4 := Lib.hid (HO3.out.new (r := w.heap.size) (by have := HG.out; omega) 0 (.int .i64 1))
    have HR4 := Lib.hid (HR3.out.set (r := w.heap.size) (by have := HG.out; omega) 0 (.int .i64 1))
    have HBr_4 : Hid (Ob (u3.setCell ⟨w.heap.size, 0, none⟩ (.int .i64 1)) (w.heap.size) 41 #[.int .i64 1, .int .i64 0, .int .i64 0, .string ⟨#[]⟩, .int .i64 0, .string ⟨#[]⟩, .bool false]) := Lib.hid (by have := HBr_3.out.put 0 (.int .i64 1); simpa using this)
    have c5 := HBr_4.out.cell 1
    have f5 := HBr_4.out.frozen 1
    have HO5 := Lib.hid (HO4.out.new (r := w.heap.size) (by have := HG.out; omega) 1 (.int .i64 vk))
    have HR5 := Lib.hid (HR4.out.set (r := w.heap.size) (by have := HG.out; omega) 1 (.int .i64 vk))
    have HBr_5 : Hid (Ob ((u3.setCell ⟨w.heap.size, 0, none⟩ (.int .i64 1)).setCell ⟨w.heap.size, 1, none⟩ (.int .i64 vk)) (w.heap.size) 41 #[.int .i64 1, .int .i64 vk, .int .i64 0, .string ⟨#[]⟩, .int .i64 0, .string ⟨#[]⟩, .bool false]) := Lib.hid (by have := HBr_4.out.put 1 (.int .i64 vk); simpa using this)
    have c6 := HBr_5.out.cell 2
    have f6 := HBr_5.out.frozen 2
    have HO6 := Lib.hid (HO5.out.new (r := w.heap.size) (by have := HG.out; omega) 2 (.int .i64 vn))
    have HR6 := Lib.hid (HR5.out.set (r := w.heap.size) (by have := HG.out; omega) 2 (.int .i64 vn))
    have HBr_6 : Hid (Ob (((u3.setCell ⟨w.heap.size, 0, none⟩ (.int .i64 1)).setCell ⟨w.heap.size, 1, none⟩ (.int .i64 vk)).setCell ⟨w.heap.size, 2, none⟩ (.int .i64 vn)) (w.heap.size) 41 #[.int .i64 1, .int .i64 vk, .int .i64 vn, .string ⟨#[]⟩, .int .i64 0, .string ⟨#[]⟩, .bool false]) := Lib.hid (by have := HBr_5.out.put 2 (.int .i64 vn); simpa using this)
    have c7 := HBr_6.out.cell 3
    have f7 := HBr_6.out.frozen 3
    have HO7 := Lib.hid (HO6.out.new (r := w.heap.size) (by have := HG.out; omega) 3 (.string vs))
    have HR7 := Lib.hid (HR6.out.set (r := w.heap.size) (by have := HG.out; omega) 3 (.string vs))
    have HBr_7 : Hid (Ob ((((u3.setCell ⟨w.heap.size, 0, none⟩ (.int .i64 1)).setCell ⟨w.heap.size, 1, none⟩ (.int .i64 vk)).setCell ⟨w.heap.size, 2, none⟩ (.int .i64 vn)).setCell ⟨w.heap.size, 3, none⟩ (.string vs)) (w.heap.size) 41 #[.int .i64 1, .int .i64 vk, .int .i64 vn, .string vs, .int .i64 0, .string ⟨#[]⟩, .bool false]) := Lib.hid (by have := HBr_6.out.put 3 (.string vs); simpa using this)
    have c8 := HBr_7.out.cell 4
    have f8 := HBr_7.out.frozen 4
    have HO8 := Lib.hid (HO7.out.new (r := w.heap.size) (by have := HG.out; omega) 4 (.int .i64 0))
    have HR8 := Lib.hid (HR7.out.set (r := w.heap.size) (by have := HG.out; omega) 4 (.int .i64 0))
    have HBr_8 : Hid (Ob (((((u3.setCell ⟨w.heap.size, 0, none⟩ (.int .i64 1)).setCell ⟨w.heap.size, 1, none⟩ (.int .i64 vk)).setCell ⟨w.heap.size, 2, none⟩ (.int .i64 vn)).setCell ⟨w.heap.size, 3, none⟩ (.string vs)).setCell ⟨w.heap.size, 4, none⟩ (.int .i64 0)) (w.heap.size) 41 #[.int .i64 1, .int .i64 vk, .int .i64 vn, .string vs, .int .i64 0, .string ⟨#[]⟩, .bool false]) := Lib.hid (by have := HBr_7.out.put 4 (.int .i64 0); simpa using this)
    have c9 := HBr_8.out.cell 5
    have f9 := HBr_8.out.frozen 5
    have HO9 := Lib.hid (HO8.out.new (r := w.heap.size) (by have := HG.out; omega) 5 (.string ⟨#[]⟩))
    have HR9 := Lib.hid (HR8.out.set (r := w.heap.size) (by have := HG.out; omega) 5 (.string ⟨#[]⟩))
    have HBr_9 : Hid (Ob ((((((u3.setCell ⟨w.heap.size, 0, none⟩ (.int .i64 1)).setCell ⟨w.heap.size, 1, none⟩ (.int .i64 vk)).setCell ⟨w.heap.size, 2, none⟩ (.int .i64 vn)).setCell ⟨w.heap.size, 3, none⟩ (.string vs)).setCell ⟨w.heap.size, 4, none⟩ (.int .i64 0)).setCell ⟨w.heap.size, 5, none⟩ (.string ⟨#[]⟩)) (w.heap.size) 41 #[.int .i64 1, .int .i64 vk, .int .i64 vn, .string vs, .int .i64 0, .string ⟨#[]⟩, .bool false]) := Lib.hid (by have := HBr_8.out.put 5 (.string ⟨#[]⟩); simpa using this)
    have c10 := HBr_9.out.cell 6
    have f10 := HBr_9.out.frozen 6
    have HO10 := Lib.hid (HO9.out.new (r := w.heap.size) (by have := HG.out; omega) 6 (.bool false))
    have HR10 := Lib.hid (HR9.out.set (r := w.heap.size) (by have := HG.out; omega) 6 (.bool false))
    have HBr_10 : Hid (Ob (((((((u3.setCell ⟨w.heap.size, 0, none⟩ (.int .i64 1)).setCell ⟨w.heap.size, 1, none⟩ (.int .i64 vk)).setCell ⟨w.heap.size, 2, none⟩ (.int .i64 vn)).setCell ⟨w.heap.size, 3, none⟩ (.string vs)).setCell ⟨w.heap.size, 4, none⟩ (.int .i64 0)).setCell ⟨w.heap.size, 5, none⟩ (.string ⟨#[]⟩)).setCell ⟨w.heap.size, 6, none⟩ (.bool false)) (w.heap.size) 41 #[.int .i64 1, .int .i64 vk, .int .i64 vn, .string vs, .int .i64 0, .string ⟨#[]⟩, .bool false]) := Lib.hid (by have := HBr_9.out.put 6 (.bool false); simpa using this)
    go_wp2_with fail
    refine bodyPost_ret (node_ret rfl rfl HBr_10.out rfl) rfl ?_
    exact ⟨rfl, HO10.out, HR10.out⟩
end
end Go.Proofs.Ytadjfkgnoklmiaa
/- The parser: rows of matches, AllOfs, AnyOfs. -/
namespace Go.Proofs.Ytadjfkgnoklmiaa
set_option linter.unusedVariables false
open Go.RowKit

def restN (w : World) (g : Nat) : Nat := match w.cell? ⟨g, 0, none⟩ with | some (.slice _ n _) => n | _ => 0
theorem Rd.restN {L g : Nat} {w : World} {s : Pz} (h : Rd L w g s) : restN w g = s.rest.length := by
  obtain ⟨b, o, n, c, hob, hok, ⟨hn, _⟩, _⟩ := h.at_
  have := hob.cell 0
  unfold Go.Proofs.Ytadjfkgnoklmiaa.restN
  rw [this]
  exact hn.symm
def MaP (w : World) (R : Nat → Prop) (vs : List Value) (m : Mat) : Prop := vs = m.cells ∧ m.ok
theorem keeps_map : Keeps MaP := fun _ _ _ _ _ _ h _ _ => h
theorem push_mat {w : World} {base n c : Nat} {A : Option Addr} {l : List Mat} {x : Mat} (h : Gr 7 MaP w base 39 A n c l) (hx : x.ok) (hn : n < 1000000) :
    ∃ A' c' w', (Builtin.append_ #[81, 81] 81 #[.slice A n c, .slice (some ⟨w.heap.size, 0, none⟩) 1 1]).run Try.prog (w.alloc (.cells #[.int .i64 x.a.cat, .string x.a.name, .bool x.a.must, .int .i64 x.op, .int .i64 x.v.k, .int .i64 x.v.n, .string x.v.s] 39)) = .ok (.slice A' (n + 1) c') w' ∧ Gr 7 MaP w' base 39 A' (n + 1) c' (l ++ [x]) ∧ Below base w w' := by
  obtain ⟨i, hi, hz, hs, hb⟩ := info_of matinfo
  exact Gr.push (vs := x.cells) (x := x) Try.underlying81 hi hz hs hb rfl (by omega) (by omega) keeps_map h ⟨rfl, hx⟩ rfl (fun _ _ _ _ h => by
    obtain ⟨rfl, _⟩ := h
    intro v hv
    simp [Mat.cells] at hv
    rcases hv with rfl | rfl | rfl | rfl | rfl | rfl | rfl <;> rfl) hn
theorem push_any3 {w : World} {base n c : Nat} {A : Option Addr} {l : Tgt} {A1 : Option Addr} {n1 c1 : Nat} {x : List (List Mat)} (h : Gr 1 AnP w base 80 A n c l) (hx : Als w (Nb base (.slice A n c)) A1 n1 c1 x) (hn : n < 1000000) :
    ∃ A' c' w', (Builtin.append_ #[26, 26] 26 #[.slice A n c, .slice (some ⟨w.heap.size, 0, none⟩) 1 1]).run Try.prog (w.alloc (.cells #[.slice A1 n1 c1] 80)) = .ok (.slice A' (n + 1) c') w' ∧ Gr 1 AnP w' base 80 A' (n + 1) c' (l ++ [x]) ∧ Below base w w' := by
  obtain ⟨i, hi, hz, hs, hb⟩ := info_of s1info
  exact Gr.push (vs := [.slice A1 n1 c1]) (x := x) Try.underlying26 hi hz hs hb rfl (by omega) (by omega) keeps_anp h ⟨A1, n1, c1, rfl, hx⟩ rfl (fun _ _ _ _ => AnP.one _ _) hn
theorem Gr.at_only {α : Type} {k : Nat} {P : World → (Nat → Prop) → List Value → α → Prop} {w w' : World} {base g : Nat} {E : TypeId} {A : Option Addr} {n c : Nat} {l : List α} (hP : Keeps P) (h : Gr k P w base E A n c l) (o : Only g w w') (hg : g < base) : Gr k P w' base E A n c l :=
  ⟨(h.1.mapP (fun vs x _ hp => hP _ _ _ _ vs x hp (⟨o.size, fun b hb hlt => o.heap hlt (by have := hb.1; omega)⟩) (fun _ h _ => h))).grown (row := some g) o (.inr (fun e => by have := (h.1.lt g e).1; omega)), Nat.le_trans h.2 o.size⟩
theorem Only.below_at {g : Nat} {w a b : World} (h : Only g w a) (k : Below w.heap.size a b) : Only g w b :=
  ⟨k.os.trans h.os, k.tape.trans h.tape, k.output.trans h.output, Nat.le_trans h.size k.size, fun i hi hn => (k.block i hi).trans (h.block i hi hn)⟩
theorem Rd.below {L g B : Nat} {w w' : World} {s : Pz} (h : Rd L w g s) (hb : Below B w w') (hg : g < B) : Rd L w' g s := h.keep fun k hk => hb.block k (by omega)
theorem rowR_succ {α : Type} {one : Pz → α × Pz} {btw : ByteArray} {n : Nat} {l : List α} {s s1 s3 : Pz} {x : α} {i : Nat} {m : Int} (h1 : one s = (x, s1)) (hm : ((l ++ [x]).length : Int) = m) (h3 : takeR [btw] (mostR m 8 s1) = (i, s3)) :
    rowR one btw (n + 1) l s = if i = 0 then (l ++ [x], s3) else rowR one btw n (l ++ [x]) s3 := by
  show (if (takeR [btw] (mostR ((l ++ [(one s).1]).length : Int) 8 (one s).2)).1 = 0 then _ else _) = _
  rw [h1]
  simp only
  rw [hm, h3]

section
variable {L g : Nat} {w : World} {s : Pz}
set_option maxHeartbeats 3200000 in
theorem prow_match (h : Rd L w g s) (btw : ByteArray) : Calls Try.prog 89 #[.pointer (some ⟨g, 0, none⟩), .func (.func 90) #[.pointer (some ⟨g, 0, none⟩)] #[], .string btw] w fun x w' => ∃ A n c, x = .returned (.slice A n c) ∧ Only g w w' ∧ Rd L w' g (rowR matchR btw s.rest.length [] s).2 ∧ Ms w' (fun b => w.heap.size ≤ b) A n c (rowR matchR btw s.rest.length [] s).1 := by
  have HG : Hid (g < w.heap.size) := h.lt
  have HL0 : Hid (s.rest.length ≤ 5000) := h.ok.2.2.1.1
  have HH := Lib.hid h
  obtain ⟨z, hz⟩ : ∃ z, z = rowR matchR btw s.rest.length [] s := ⟨_, rfl⟩
  have HZ := Lib.hid hz
  rw [← hz]
  clear h hz
  go_enter Try.func89, Try.ntmps89
  go_wp2
  go_loopw [7] (fun v wr => ∃ (k : Nat) (A : Option Addr) (c : Nat) (l : List Mat) (s' : Pz) (q : Nat), v = .slice A k c ∧ Only g w wr ∧ Rd L wr g s' ∧ Gr 7 MaP wr w.heap.size 39 A k c l ∧ k + s'.rest.length ≤ s.rest.length ∧ s'.rest.length ≤ q ∧ rowR matchR btw q l s' = z) (fun v wr => restN wr g)
  case atStart => exact ⟨0, none, 0, [], s, s.rest.length, rfl, Only.refl, HH.out, Gr.nil _ _ (Nat.le_refl _), by omega, Nat.le_refl _, HZ.out.symm⟩
  case round =>
    obtain ⟨k, A, c, l, s', q, rfl, ho, hr, hg, hk, hq, he⟩ := hrel
    have HO := Lib.hid ho
    have HR := Lib.hid hr
    have HGr := Lib.hid hg
    have HK := Lib.hid hk
    have hq1 := hr.ok.pos
    obtain ⟨q, rfl⟩ : ∃ q', q = q' + 1 := ⟨q - 1, by omega⟩
    obtain ⟨m, s1, e1⟩ : ∃ m t, matchR s' = (m, t) := ⟨_, _, rfl⟩
    obtain ⟨i, s3, e3⟩ : ∃ i t, takeR [btw] (mostR ((k : Int) + 1) 8 s1) = (i, t) := ⟨_, _, rfl⟩
    have hlen : ((l ++ [m]).length : Int) = (k : Int) + 1 := by rw [List.length_append]; have := hg.len; simp; omega
    have HE := Lib.hid ((rowR_succ e1 hlen e3).symm.trans he)
    have HQ := Lib.hid hq
    have hgo := match_go hr.ok
    rw [e1] at hgo
    have hgo2 := most_go hgo.1 ((k : Int) + 1) 8
    have htl := takeR_len hgo2.1 [btw]
    rw [e3] at htl
    have HTL : Hid (s3.rest.length + (if i = 0 then 0 else 1) ≤ s'.rest.length) := by
      have h1 : s1.rest.length ≤ s'.rest.length := hgo.2
      have h2 := hgo2.2
      have h3 : s3.rest.length + (if i = 0 then 0 else 1) = (mostR ((k : Int) + 1) 8 s1).rest.length := htl
      show _ ≤ _
      have h2 : (mostR ((k : Int) + 1) 8 s1).rest.length ≤ s1.rest.length := hgo2.2
      omega
    have E1 := Lib.hid e1
    have E3 := Lib.hid e3
    have hk63 : k < 1000000 := by have := HL0.out; omega
    have HRN := Lib.hid hr.restN
    have HOK := Lib.hid (show m.ok from by have := match_ok hr.ok; rw [e1] at this; exact this)
    clear ho hr hg hk hq he e1 e3 hlen hgo hgo2 htl hq1
    go_wp2_with fail
    go_at_call 90
    refine (pmatch_any HR.out).mono ?_
    rintro x u1 ⟨hx, ho, hr⟩
    obtain rfl : x = .returned (.agg #[.int .i64 m.a.cat, .string m.a.name, .bool m.a.must, .int .i64 m.op, .int .i64 m.v.k, .int .i64 m.v.n, .string m.v.s]) := by rw [hx, E1.out] <;> rfl
    rw [E1.out] at hr
    obtain ⟨A2, c2, u2, r2, g2, b2⟩ := push_mat (HGr.out.at_only keeps_map ho HG.out) HOK.out hk63
    clear hx
    have HO2 := Lib.hid ((HO.out.trans ho).below_at b2)
    have HR2 := Lib.hid (hr.below b2 HG.out)
    have R2 := Lib.hid r2
    have G2 := Lib.hid g2
    clear ho hr r2 g2 b2
    go_wp2_with (at_builtin; refine wpList_append_run (o := ⟨some 12, _, _, _, _, _⟩) rfl _ _ _ _ rfl rfl rfl R2.out ?_)
    go_at_call 42
    refine (pmost_any HR2.out ((k : Int) + 1) 8).mono ?_
    rintro x u3 ⟨rfl, ho, hr⟩
    have HO3 := Lib.hid (HO2.out.trans ho)
    have HR3 := Lib.hid hr
    have G3 := Lib.hid (G2.out.at_only keeps_map ho HG.out)
    clear ho hr
    go_wp2_with fail
    go_at_call 66
    refine (ptake_lit HR3.out [btw] #[.string btw] 1 rfl rfl (by omega) rfl).mono ?_
    rintro x u4 ⟨hx, ho, hr⟩
    obtain rfl : x = .returned (.int .i64 (i : Int)) := by rw [hx, E3.out] <;> rfl
    rw [E3.out] at hr
    have HO4 := Lib.hid (HO3.out.trans ho)
    have HR4 := Lib.hid hr
    have G4 := Lib.hid (G3.out.at_only keeps_map ho HG.out)
    clear ho hr hx
    by_cases hi : i = 0
    · have HE2 := Lib.hid (show (l ++ [m], s3) = z from by have := HE.out; rwa [if_pos hi] at this)
      subst hi
      go_wp2_with fail
      go_ret
      rw [← HE2.out]
      exact ⟨A2, k + 1, c2, rfl, HO4.out, HR4.out, G4.out.rw keeps_map (by omega)⟩
    · have HE2 := Lib.hid (show rowR matchR btw q (l ++ [m]) s3 = z from by have := HE.out; rwa [if_neg hi] at this)
      have HT2 : Hid (s3.rest.length + 1 ≤ s'.rest.length) := by have := HTL.out; rwa [if_neg hi] at this
      have hi2 : ((i : Int) == 0) = false := by rw [beq_eq_false_iff_ne]; omega
      go_wp2_with fail
      go_roundw
      case rel => exact ⟨k + 1, A2, c2, l ++ [m], s3, q, rfl, HO4.out, HR4.out, G4.out, by have := HT2.out; have := HK.out; omega, by have := HT2.out; have := HQ.out; omega, HE2.out⟩
      case measure => rw [HR4.out.restN, HRN.out]; have := HT2.out; omega
set_option maxHeartbeats 800000 in
theorem pallof_any (h : Rd L w g s) : Calls Try.prog 80 #[.pointer (some ⟨g, 0, none⟩)] w fun x w' => ∃ A n c, x = .returned (.slice A n c) ∧ Only g w w' ∧ Rd L w' g (allOfR s).2 ∧ Ms w' (fun b => w.heap.size ≤ b) A n c (allOfR s).1 := by
  have HC := Lib.hid (prow_match h m_comma)
  clear h
  go_enter Try.func80, Try.ntmps80
  go_wp2_with fail
  go_at_call 89
  refine HC.out.mono ?_
  rintro x u1 ⟨A1, n1, c1, rfl, ho, hr, ht⟩
  have HO1 := Lib.hid ho
  have HR1 := Lib.hid hr
  have HT1 := Lib.hid ht
  clear ho hr ht
  go_wp2_with fail
  go_ret
  exact ⟨A1, n1, c1, rfl, HO1.out, HR1.out, HT1.out⟩
set_option maxHeartbeats 3200000 in
theorem prow_allof (h : Rd L w g s) (btw : ByteArray) : Calls Try.prog 79 #[.pointer (some ⟨g, 0, none⟩), .func (.func 80) #[.pointer (some ⟨g, 0, none⟩)] #[], .string btw] w fun x w' => ∃ A n c, x = .returned (.slice A n c) ∧ Only g w w' ∧ Rd L w' g (rowR allOfR btw s.rest.length [] s).2 ∧ Als w' (fun b => w.heap.size ≤ b) A n c (rowR allOfR btw s.rest.length [] s).1 := by
  have HG : Hid (g < w.heap.size) := h.lt
  have HL0 : Hid (s.rest.length ≤ 5000) := h.ok.2.2.1.1
  have HH := Lib.hid h
  obtain ⟨z, hz⟩ : ∃ z, z = rowR allOfR btw s.rest.length [] s := ⟨_, rfl⟩
  have HZ := Lib.hid hz
  rw [← hz]
  clear h hz
  go_enter Try.func79, Try.ntmps79
  go_wp2
  go_loopw [7] (fun v wr => ∃ (k : Nat) (A : Option Addr) (c : Nat) (l : List (List Mat)) (s' : Pz) (q : Nat), v = .slice A k c ∧ Only g w wr ∧ Rd L wr g s' ∧ Gr 1 AlP wr w.heap.size 81 A k c l ∧ k + s'.rest.length ≤ s.rest.length ∧ s'.rest.length ≤ q ∧ rowR allOfR btw q l s' = z) (fun v wr => restN wr g)
  case atStart => exact ⟨0, none, 0, [], s, s.rest.length, rfl, Only.refl, HH.out, Gr.nil _ _ (Nat.le_refl _), by omega, Nat.le_refl _, HZ.out.symm⟩
  case round =>
    obtain ⟨k, A, c, l, s', q, rfl, ho, hr, hg, hk, hq, he⟩ := hrel
    have HO := Lib.hid ho
    have HR := Lib.hid hr
    have HGr := Lib.hid hg
    have HK := Lib.hid hk
    have hq1 := hr.ok.pos
    obtain ⟨q, rfl⟩ : ∃ q', q = q' + 1 := ⟨q - 1, by omega⟩
    obtain ⟨m, s1, e1⟩ : ∃ m t, allOfR s' = (m, t) := ⟨_, _, rfl⟩
    obtain ⟨i, s3, e3⟩ : ∃ i t, takeR [btw] (mostR ((k : Int) + 1) 8 s1) = (i, t) := ⟨_, _, rfl⟩
    have hlen : ((l ++ [m]).length : Int) = (k : Int) + 1 := by rw [List.length_append]; have := hg.len; simp; omega
    have HE := Lib.hid ((rowR_succ e1 hlen e3).symm.trans he)
    have HQ := Lib.hid hq
    have hgo := allOf_go hr.ok
    rw [e1] at hgo
    have hgo2 := most_go hgo.1 ((k : Int) + 1) 8
    have htl := takeR_len hgo2.1 [btw]
    rw [e3] at htl
    have HTL : Hid (s3.rest.length + (if i = 0 then 0 else 1) ≤ s'.rest.length) := by
      have h1 : s1.rest.length ≤ s'.rest.length := hgo.2
      have h2 := hgo2.2
      have h3 : s3.rest.length + (if i = 0 then 0 else 1) = (mostR ((k : Int) + 1) 8 s1).rest.length := htl
      show _ ≤ _
      have h2 : (mostR ((k : Int) + 1) 8 s1).rest.length ≤ s1.rest.length := hgo2.2
      omega
    have E1 := Lib.hid e1
    have E3 := Lib.hid e3
    have hk63 : k < 1000000 := by have := HL0.out; omega
    have HRN := Lib.hid hr.restN
    clear ho hr hg hk hq he e1 e3 hlen hgo hgo2 htl hq1
    go_wp2_with fail
    go_at_call 80
    refine (pallof_any HR.out).mono ?_
    rintro x u1 ⟨A1, n1, c1, rfl, ho, hr, ht⟩
    rw [E1.out] at hr ht
    have hx := ht.keep (Kept.refl _ _) (fun b hb _ => (HGr.out.apart b hb : Nb w.heap.size (.slice A k c) b))
    obtain ⟨A2, c2, u2, r2, g2, b2⟩ := push_all (HGr.out.at_only keeps_alp ho HG.out) hx hk63
    have HO2 := Lib.hid ((HO.out.trans ho).below_at b2)
    have HR2 := Lib.hid (hr.below b2 HG.out)
    have R2 := Lib.hid r2
    have G2 := Lib.hid g2
    clear ho hr r2 g2 b2 hx ht
    go_wp2_with (at_builtin; refine wpList_append_run (o := ⟨some 12, _, _, _, _, _⟩) rfl _ _ _ _ rfl rfl rfl R2.out ?_)
    go_at_call 42
    refine (pmost_any HR2.out ((k : Int) + 1) 8).mono ?_
    rintro x u3 ⟨rfl, ho, hr⟩
    have HO3 := Lib.hid (HO2.out.trans ho)
    have HR3 := Lib.hid hr
    have G3 := Lib.hid (G2.out.at_only keeps_alp ho HG.out)
    clear ho hr
    go_wp2_with fail
    go_at_call 66
    refine (ptake_lit HR3.out [btw] #[.string btw] 1 rfl rfl (by omega) rfl).mono ?_
    rintro x u4 ⟨hx, ho, hr⟩
    obtain rfl : x = .returned (.int .i64 (i : Int)) := by rw [hx, E3.out] <;> rfl
    rw [E3.out] at hr
    have HO4 := Lib.hid (HO3.out.trans ho)
    have HR4 := Lib.hid hr
    have G4 := Lib.hid (G3.out.at_only keeps_alp ho HG.out)
    clear ho hr hx
    by_cases hi : i = 0
    · have HE2 := Lib.hid (show (l ++ [m], s3) = z from by have := HE.out; rwa [if_pos hi] at this)
      subst hi
      go_wp2_with fail
      go_ret
      rw [← HE2.out]
      exact ⟨A2, k + 1, c2, rfl, HO4.out, HR4.out, G4.out.rw keeps_alp (by omega)⟩
    · have HE2 := Lib.hid (show rowR allOfR btw q (l ++ [m]) s3 = z from by have := HE.out; rwa [if_neg hi] at this)
      have HT2 : Hid (s3.rest.length + 1 ≤ s'.rest.length) := by have := HTL.out; rwa [if_neg hi] at this
      have hi2 : ((i : Int) == 0) = false := by rw [beq_eq_false_iff_ne]; omega
      go_wp2_with fail
      go_roundw
      case rel => exact ⟨k + 1, A2, c2, l ++ [m], s3, q, rfl, HO4.out, HR4.out, G4.out, by have := HT2.out; have := HK.out; omega, by have := HT2.out; have := HQ.out; omega, HE2.out⟩
      case measure => rw [HR4.out.restN, HRN.out]; have := HT2.out; omega
set_option maxHeartbeats 800000 in
theorem panyof_any (h : Rd L w g s) : Calls Try.prog 68 #[.pointer (some ⟨g, 0, none⟩)] w fun x w' => ∃ A n c, x = .returned (.slice A n c) ∧ Only g w w' ∧ Rd L w' g (anyOfR s).2 ∧ Als w' (fun b => w.heap.size ≤ b) A n c (anyOfR s).1 := by
  have HG : Hid (g < w.heap.size) := h.lt
  have HR0 := Lib.hid h
  obtain ⟨i, s1, e1⟩ : ∃ i t, mustR [m_lp] s = (i, t) := ⟨_, _, rfl⟩
  obtain ⟨l, s2, e2⟩ : ∃ i t, rowR allOfR w_or s1.rest.length [] s1 = (i, t) := ⟨_, _, rfl⟩
  obtain ⟨j, s3, e3⟩ : ∃ i t, mustR [m_rp] s2 = (i, t) := ⟨_, _, rfl⟩
  have HE : Hid (anyOfR s = (l, s3)) := by show _ = _; unfold anyOfR; simp only [e1, e2, e3]
  rw [HE.out]
  have E1 := Lib.hid e1
  have E2 := Lib.hid e2
  have E3 := Lib.hid e3
  clear h e1 e2 e3
  go_enter Try.func68, Try.ntmps68
  go_wp2_with fail
  go_at_call 43
  refine (pmust_lit HR0.out [m_lp] #[.string ⟨#[40]⟩] 1 rfl rfl (by omega) rfl).mono ?_
  rintro x u1 ⟨rfl, ho, hr⟩
  rw [E1.out] at hr
  have HO1 := Lib.hid ho
  have HR1 := Lib.hid hr
  clear ho hr
  go_wp2_with fail
  go_at_call 79
  refine (prow_allof HR1.out w_or).mono ?_
  rintro x u2 ⟨A1, n1, c1, rfl, ho, hr, ht⟩
  rw [E2.out] at hr ht
  have HO2 := Lib.hid (HO1.out.trans ho)
  have HR2 := Lib.hid hr
  have HT2 := Lib.hid (ht.keep (Kept.refl _ _) (R' := fun b => w.heap.size ≤ b) (fun b hb _ => Nat.le_trans HO1.out.size hb))
  clear ho hr ht
  go_wp2_with fail
  go_at_call 43
  refine (pmust_lit HR2.out [m_rp] #[.string ⟨#[41]⟩] 1 rfl rfl (by omega) rfl).mono ?_
  rintro x u3 ⟨rfl, ho, hr⟩
  rw [E3.out] at hr
  have HO3 := Lib.hid (HO2.out.trans ho)
  have HR3 := Lib.hid hr
  have HT3 := Lib.hid (HT2.out.keep (⟨ho.size, fun b hb hlt => ho.heap hlt (by have := HG.out; have hb : w.heap.size ≤ b := hb; omega)⟩) (fun _ h _ => h))
  clear ho hr
  go_wp2_with fail
  go_ret
  exact ⟨A1, n1, c1, rfl, HO3.out, HR3.out, HT3.out⟩
set_option maxHeartbeats 3200000 in
theorem prow_anyof (h : Rd L w g s) (btw : ByteArray) : Calls Try.prog 67 #[.pointer (some ⟨g, 0, none⟩), .func (.func 68) #[.pointer (some ⟨g, 0, none⟩)] #[], .string btw] w fun x w' => ∃ A n c, x = .returned (.slice A n c) ∧ Only g w w' ∧ Rd L w' g (rowR anyOfR btw s.rest.length [] s).2 ∧ Tg w' (fun b => w.heap.size ≤ b) A n c (rowR anyOfR btw s.rest.length [] s).1 := by
  have HG : Hid (g < w.heap.size) := h.lt
  have HL0 : Hid (s.rest.length ≤ 5000) := h.ok.2.2.1.1
  have HH := Lib.hid h
  obtain ⟨z, hz⟩ : ∃ z, z = rowR anyOfR btw s.rest.length [] s := ⟨_, rfl⟩
  have HZ := Lib.hid hz
  rw [← hz]
  clear h hz
  go_enter Try.func67, Try.ntmps67
  go_wp2
  go_loopw [7] (fun v wr => ∃ (k : Nat) (A : Option Addr) (c : Nat) (l : List (List (List Mat))) (s' : Pz) (q : Nat), v = .slice A k c ∧ Only g w wr ∧ Rd L wr g s' ∧ Gr 1 AnP wr w.heap.size 80 A k c l ∧ k + s'.rest.length ≤ s.rest.length ∧ s'.rest.length ≤ q ∧ rowR anyOfR btw q l s' = z) (fun v wr => restN wr g)
  case atStart => exact ⟨0, none, 0, [], s, s.rest.length, rfl, Only.refl, HH.out, Gr.nil _ _ (Nat.le_refl _), by omega, Nat.le_refl _, HZ.out.symm⟩
  case round =>
    obtain ⟨k, A, c, l, s', q, rfl, ho, hr, hg, hk, hq, he⟩ := hrel
    have HO := Lib.hid ho
    have HR := Lib.hid hr
    have HGr := Lib.hid hg
    have HK := Lib.hid hk
    have hq1 := hr.ok.pos
    obtain ⟨q, rfl⟩ : ∃ q', q = q' + 1 := ⟨q - 1, by omega⟩
    obtain ⟨m, s1, e1⟩ : ∃ m t, anyOfR s' = (m, t) := ⟨_, _, rfl⟩
    obtain ⟨i, s3, e3⟩ : ∃ i t, takeR [btw] (mostR ((k : Int) + 1) 8 s1) = (i, t) := ⟨_, _, rfl⟩
    have hlen : ((l ++ [m]).length : Int) = (k : Int) + 1 := by rw [List.length_append]; have := hg.len; simp; omega
    have HE := Lib.hid ((rowR_succ e1 hlen e3).symm.trans he)
    have HQ := Lib.hid hq
    have hgo := anyOf_go hr.ok
    rw [e1] at hgo
    have hgo2 := most_go hgo.1 ((k : Int) + 1) 8
    have htl := takeR_len hgo2.1 [btw]
    rw [e3] at htl
    have HTL : Hid (s3.rest.length + (if i = 0 then 0 else 1) ≤ s'.rest.length) := by
      have h1 : s1.rest.length ≤ s'.rest.length := hgo.2
      have h2 := hgo2.2
      have h3 : s3.rest.length + (if i = 0 then 0 else 1) = (mostR ((k : Int) + 1) 8 s1).rest.length := htl
      show _ ≤ _
      have h2 : (mostR ((k : Int) + 1) 8 s1).rest.length ≤ s1.rest.length := hgo2.2
      omega
    have E1 := Lib.hid e1
    have E3 := Lib.hid e3
    have hk63 : k < 1000000 := by have := HL0.out; omega
    have HRN := Lib.hid hr.restN
    clear ho hr hg hk hq he e1 e3 hlen hgo hgo2 htl hq1
    go_wp2_with fail
    go_at_call 68
    refine (panyof_any HR.out).mono ?_
    rintro x u1 ⟨A1, n1, c1, rfl, ho, hr, ht⟩
    rw [E1.out] at hr ht
    have hx := ht.keep (Kept.refl _ _) (fun b hb _ => (HGr.out.apart b hb : Nb w.heap.size (.slice A k c) b))
    obtain ⟨A2, c2, u2, r2, g2, b2⟩ := push_any3 (HGr.out.at_only keeps_anp ho HG.out) hx hk63
    have HO2 := Lib.hid ((HO.out.trans ho).below_at b2)
    have HR2 := Lib.hid (hr.below b2 HG.out)
    have R2 := Lib.hid r2
    have G2 := Lib.hid g2
    clear ho hr r2 g2 b2 hx ht
    go_wp2_with (at_builtin; refine wpList_append_run (o := ⟨some 12, _, _, _, _, _⟩) rfl _ _ _ _ rfl rfl rfl R2.out ?_)
    go_at_call 42
    refine (pmost_any HR2.out ((k : Int) + 1) 8).mono ?_
    rintro x u3 ⟨rfl, ho, hr⟩
    have HO3 := Lib.hid (HO2.out.trans ho)
    have HR3 := Lib.hid hr
    have G3 := Lib.hid (G2.out.at_only keeps_anp ho HG.out)
    clear ho hr
    go_wp2_with fail
    go_at_call 66
    refine (ptake_lit HR3.out [btw] #[.string btw] 1 rfl rfl (by omega) rfl).mono ?_
    rintro x u4 ⟨hx, ho, hr⟩
    obtain rfl : x = .returned (.int .i64 (i : Int)) := by rw [hx, E3.out] <;> rfl
    rw [E3.out] at hr
    have HO4 := Lib.hid (HO3.out.trans ho)
    have HR4 := Lib.hid hr
    have G4 := Lib.hid (G3.out.at_only keeps_anp ho HG.out)
    clear ho hr hx
    by_cases hi : i = 0
    · have HE2 := Lib.hid (show (l ++ [m], s3) = z from by have := HE.out; rwa [if_pos hi] at this)
      subst hi
      go_wp2_with fail
      go_ret
      rw [← HE2.out]
      exact ⟨A2, k + 1, c2, rfl, HO4.out, HR4.out, G4.out.rw keeps_anp (by omega)⟩
    · have HE2 := Lib.hid (show rowR anyOfR btw q (l ++ [m]) s3 = z from by have := HE.out; rwa [if_neg hi] at this)
      have HT2 : Hid (s3.rest.length + 1 ≤ s'.rest.length) := by have := HTL.out; rwa [if_neg hi] at this
      have hi2 : ((i : Int) == 0) = false := by rw [beq_eq_false_iff_ne]; omega
      go_wp2_with fail
      go_roundw
      case rel => exact ⟨k + 1, A2, c2, l ++ [m], s3, q, rfl, HO4.out, HR4.out, G4.out, by have := HT2.out; have := HK.out; omega, by have := HT2.out; have := HQ.out; omega, HE2.out⟩
      case measure => rw [HR4.out.restN, HRN.out]; have := HT2.out; omega
set_option maxHeartbeats 800000 in
theorem ptarget_any (h : Rd L w g s) : Calls Try.prog 45 #[.pointer (some ⟨g, 0, none⟩)] w fun x w' => ∃ A n c, x = .returned (.slice A n c) ∧ Only g w w' ∧ Rd L w' g (targetR s).2 ∧ Tg w' (fun b => w.heap.size ≤ b) A n c (targetR s).1 := by
  have HR0 := Lib.hid h
  obtain ⟨i, s1, e1⟩ : ∃ i t, takeR [w_when] s = (i, t) := ⟨_, _, rfl⟩
  have E1 := Lib.hid e1
  by_cases hi : i = 0
  · have HE : Hid (targetR s = ([], s1)) := by show _ = _; unfold targetR; rw [e1, if_pos hi]
    rw [HE.out]
    subst hi
    clear h e1
    go_enter Try.func45, Try.ntmps45
    go_wp2_with fail
    go_at_call 66
    refine (ptake_lit HR0.out [w_when] #[.string ⟨#[119, 104, 101, 110]⟩] 1 rfl rfl (by omega) rfl).mono ?_
    rintro x u1 ⟨hx, ho, hr⟩
    obtain rfl : x = .returned (.int .i64 ((0 : Nat) : Int)) := by rw [hx, E1.out] <;> rfl
    rw [E1.out] at hr
    have HO1 := Lib.hid ho
    have HR1 := Lib.hid hr
    clear ho hr hx
    go_wp2_with fail
    go_ret
    exact ⟨none, 0, 0, rfl, HO1.out, HR1.out, Rw.nil_ _ _ _ _⟩
  · have HE : Hid (targetR s = rowR anyOfR w_and s1.rest.length [] s1) := by show _ = _; unfold targetR; rw [e1, if_neg hi]
    rw [HE.out]
    have hi2 : ((i : Int) == 0) = false := by rw [beq_eq_false_iff_ne]; omega
    clear h e1
    go_enter Try.func45, Try.ntmps45
    go_wp2_with fail
    go_at_call 66
    refine (ptake_lit HR0.out [w_when] #[.string ⟨#[119, 104, 101, 110]⟩] 1 rfl rfl (by omega) rfl).mono ?_
    rintro x u1 ⟨hx, ho, hr⟩
    obtain rfl : x = .returned (.int .i64 (i : Int)) := by rw [hx, E1.out] <;> rfl
    rw [E1.out] at hr
    have HO1 := Lib.hid ho
    have HR1 := Lib.hid hr
    clear ho hr hx
    go_wp2_with fail
    go_at_call 67
    refine (prow_anyof HR1.out w_and).mono ?_
    rintro x u2 ⟨A1, n1, c1, rfl, ho, hr, ht⟩
    have HO2 := Lib.hid (HO1.out.trans ho)
    have HR2 := Lib.hid hr
    have HT2 := Lib.hid (ht.keep (Kept.refl _ _) (R' := fun b => w.heap.size ≤ b) (fun b hb _ => Nat.le_trans HO1.out.size hb))
    clear ho hr ht
    go_wp2_with fail
    go_ret
    exact ⟨A1, n1, c1, rfl, HO2.out, HR2.out, HT2.out⟩
end
end Go.Proofs.Ytadjfkgnoklmiaa
/- The parser: duties. -/
namespace Go.Proofs.Ytadjfkgnoklmiaa
set_option linter.unusedVariables false
open Go.RowKit

def DuP (w : World) (R : Nat → Prop) (vs : List Value) (m : Dut) : Prop := vs = m.cells ∧ m.ok
theorem keeps_dup : Keeps DuP := fun _ _ _ _ _ _ h _ _ => h
theorem dutinfo9 : (Try.prog.info? 105).map (fun i => (i.zero, i.size, i.bytes)) = some (some (.agg #[.int .i64 0, .int .i64 0, .string ⟨#[]⟩]), 3, 32) := by kernel_rfl
theorem push_dut9 {w : World} {base n c : Nat} {A : Option Addr} {l : List Dut} {x : Dut} (h : Gr 3 DuP w base 105 A n c l) (hx : x.ok) (hn : n < 1000000) {b : Nat} (hbk : w.heap.size = b) :
    ∃ A' c' w', (Builtin.append_ #[30, 30] 30 #[.slice A n c, .slice (some ⟨b, 0, none⟩) 1 1]).run Try.prog (w.alloc (.cells #[.int .i64 x.on, .int .i64 x.kind, .string x.arg] 105)) = .ok (.slice A' (n + 1) c') w' ∧ Gr 3 DuP w' base 105 A' (n + 1) c' (l ++ [x]) ∧ Below base w w' := by
  subst hbk
  obtain ⟨i, hi, hz, hs, hb⟩ := info_of dutinfo9
  exact Gr.push (vs := x.cells) (x := x) Try.underlying30 hi hz hs hb rfl (by omega) (by omega) keeps_dup h ⟨rfl, hx⟩ rfl (fun _ _ _ _ h => by
    obtain ⟨rfl, _⟩ := h
    intro v hv
    simp [Dut.cells] at hv
    rcases hv with rfl | rfl | rfl <;> rfl) hn
theorem dutiesR_stop {n : Nat} {l : List Dut} {s s1 : Pz} (h : takeR [w_on] s = (0, s1)) : dutiesR (n + 1) l s = (l, s1) := by
  unfold dutiesR
  rw [h, if_pos rfl]
theorem dutiesR_succ {n i j k : Nat} {l : List Dut} {s s1 s2 s3 s4 s5 : Pz} {nm : ByteArray} {m : Int} (h : takeR [w_on] s = (i, s1)) (hi : i ≠ 0) (h2 : mustR [w_permit, w_deny] s1 = (j, s2)) (h3 : mustR [w_log, w_redact, w_review, w_notify] s2 = (k, s3)) (h4 : nameR s3 = (nm, s4))
    (hm : ((l ++ [(⟨(j : Int), (k : Int), nm⟩ : Dut)]).length : Int) = m) (h5 : mostR m 8 s4 = s5) : dutiesR (n + 1) l s = dutiesR n (l ++ [⟨(j : Int), (k : Int), nm⟩]) s5 := by
  conv => lhs; unfold dutiesR
  rw [h, if_neg hi]
  simp only [h2, h3, h4]
  rw [hm, h5]

section
variable {L g : Nat} {w : World} {s : Pz}
set_option maxHeartbeats 3200000 in
theorem pduts_any (h : Rd L w g s) : Calls Try.prog 48 #[.pointer (some ⟨g, 0, none⟩)] w fun x w' => ∃ A n c, x = .returned (.slice A n c) ∧ Only g w w' ∧ Rd L w' g (dutsR s).2 ∧ Dus w' (fun b => w.heap.size ≤ b) A n c (dutsR s).1 := by
  have HG0 : Hid (g < w.heap.size) := h.lt
  have HL0 : Hid (s.rest.length ≤ 5000) := h.ok.2.2.1.1
  have HH := Lib.hid h
  obtain ⟨z, hz⟩ : ∃ z, z = dutsR s := ⟨_, rfl⟩
  have HZ : Hid (z = dutiesR s.rest.length [] s) := hz
  rw [← hz]
  clear h hz
  go_enter Try.func48, Try.ntmps48
  go_wp2
  go_loopw [3] (fun v wr => ∃ (k : Nat) (A : Option Addr) (c : Nat) (l : List Dut) (s' : Pz) (q : Nat), v = .slice A k c ∧ Only g w wr ∧ Rd L wr g s' ∧ Gr 3 DuP wr w.heap.size 105 A k c l ∧ k + s'.rest.length ≤ s.rest.length ∧ s'.rest.length ≤ q ∧ dutiesR q l s' = z) (fun v wr => restN wr g)
  case atStart => exact ⟨0, none, 0, [], s, s.rest.length, rfl, Only.refl, HH.out, Gr.nil _ _ (Nat.le_refl _), by omega, Nat.le_refl _, HZ.out.symm⟩
  case round =>
    obtain ⟨k, A, c, l, s', q, rfl, ho, hr, hg, hk, hq, he⟩ := hrel
    have HOw := Lib.hid ho
    have HR0 := Lib.hid hr
    have HGr := Lib.hid hg
    have HK := Lib.hid hk
    have HQ := Lib.hid hq
    have HG : Hid (g < wr.heap.size) := hr.lt
    have hq1 := hr.ok.pos
    obtain ⟨q, rfl⟩ : ∃ q', q = q' + 1 := ⟨q - 1, by omega⟩
    have HO0 := Lib.hid (Only.refl (r := g) (w := wr))
    have HRN := Lib.hid hr.restN
    obtain ⟨i, s1, e1⟩ : ∃ i t, takeR [w_on] s' = (i, t) := ⟨_, _, rfl⟩
    have E1 := Lib.hid e1
    by_cases hi : i = 0
    · subst hi
      have HE := Lib.hid ((dutiesR_stop e1).symm.trans he)
      clear ho hr hg hk hq he e1 hq1
      go_wp2_with fail
      go_at_call 66
      refine (ptake_lit HR0.out [w_on] #[.string ⟨#[111, 110]⟩] 1 rfl rfl (by omega) rfl).mono ?_
      rintro x u1 ⟨hx, ho, hr⟩
      obtain rfl : x = .returned (.int .i64 ((0 : Nat) : Int)) := by rw [hx, E1.out] <;> rfl
      rw [E1.out] at hr
      have HO1 := Lib.hid ho
      have HR1 := Lib.hid hr
      clear ho hr hx
      go_wp2_with fail
      go_ret
      rw [← HE.out]
      exact ⟨A, k, c, rfl, HOw.out.trans HO1.out, HR1.out, (HGr.out.at_only keeps_dup HO1.out HG0.out).rw keeps_dup (by have := HL0.out; have := HK.out; omega)⟩
    · obtain ⟨j, s2, e2⟩ : ∃ i t, mustR [w_permit, w_deny] s1 = (i, t) := ⟨_, _, rfl⟩
      obtain ⟨n, s3, e3⟩ : ∃ i t, mustR [w_log, w_redact, w_review, w_notify] s2 = (i, t) := ⟨_, _, rfl⟩
      obtain ⟨nm, s4, e4⟩ : ∃ i t, nameR s3 = (i, t) := ⟨_, _, rfl⟩
      have hlen : ((l ++ [(⟨(j : Int), (n : Int), nm⟩ : Dut)]).length : Int) = (k : Int) + 1 := by rw [List.length_append]; have := hg.len; simp; omega
      have HE := Lib.hid ((dutiesR_succ e1 hi e2 e3 e4 hlen rfl).symm.trans he)
      have E2 := Lib.hid e2
      have E3 := Lib.hid e3
      have E4 := Lib.hid e4
      have g1 := take_go hr.ok [w_on]
      have hl1 := takeR_len hr.ok [w_on]
      rw [e1] at g1 hl1
      have hl1 : s1.rest.length + 1 = s'.rest.length := by
        have h3 : s1.rest.length + (if i = 0 then 0 else 1) = s'.rest.length := hl1
        rwa [if_neg hi] at h3
      have g2 := must_go g1.1 [w_permit, w_deny]
      rw [e2] at g2
      have g3 := must_go g2.1 [w_log, w_redact, w_review, w_notify]
      rw [e3] at g3
      have g4 := name_go g3.1
      have hnm := nameR_size g3.1
      rw [e4] at g4 hnm
      have g5 := most_go g4.1 ((k : Int) + 1) 8
      have HTL : Hid ((mostR ((k : Int) + 1) 8 s4).rest.length + 1 ≤ s'.rest.length) := by
        show _ ≤ _
        have a2 : s2.rest.length ≤ s1.rest.length := g2.2
        have a3 : s3.rest.length ≤ s2.rest.length := g3.2
        have a4 : s4.rest.length ≤ s3.rest.length := g4.2
        have a5 : (mostR ((k : Int) + 1) 8 s4).rest.length ≤ s4.rest.length := g5.2
        omega
      have hj : j ≤ 2 := by have := mustR_le [w_permit, w_deny] s1; rw [e2] at this; exact this
      have hn : n ≤ 4 := by have := mustR_le [w_log, w_redact, w_review, w_notify] s2; rw [e3] at this; exact this
      have HOK : Hid ((⟨(j : Int), (n : Int), nm⟩ : Dut).ok) := Lib.hid ⟨in_small (by show -100 ≤ (j : Int); omega) (by show (j : Int) ≤ 100; omega), in_small (by show -100 ≤ (n : Int); omega) (by show (n : Int) ≤ 100; omega), hnm⟩
      have hk63 : k < 1000000 := by have := HL0.out; omega
      have hi2 : 0 < i := by omega
      clear ho hr hg hk hq he e1 e2 e3 e4 hlen g1 g2 g3 g4 g5 hl1 hnm hj hn hq1
      go_wp2_with fail
      go_at_call 66
      refine (ptake_lit HR0.out [w_on] #[.string ⟨#[111, 110]⟩] 1 rfl rfl (by omega) rfl).mono ?_
      rintro x u1 ⟨hx, ho, hr⟩
      obtain rfl : x = .returned (.int .i64 (i : Int)) := by rw [hx, E1.out] <;> rfl
      rw [E1.out] at hr
      clear hx
      have HO1 := Lib.hid (HO0.out.trans ho)
      have HR1 := Lib.hid hr
      clear ho hr
      have HSo : Hid (g < u1.heap.size ∧ wr.heap.size ≤ u1.heap.size) := ⟨HR1.out.lt, HO1.out.size⟩
      have HO2 := Lib.hid (HO1.out.al (.cells #[.int .i64 0, .int .i64 0, .string ⟨#[]⟩] 105))
      have HR2 := Lib.hid (HR1.out.alloc (.cells #[.int .i64 0, .int .i64 0, .string ⟨#[]⟩] 105))
      have HBo_2 := Lib.hid (Ob.made (u1) 105 #[.int .i64 0, .int .i64 0, .string ⟨#[]⟩])
      go_wp2_with fail
      go_at_call 43
      refine (pmust_lit HR2.out [w_permit, w_deny] #[.string ⟨#[112, 101, 114, 109, 105, 116]⟩, .string ⟨#[100, 101, 110, 121]⟩] 2 rfl rfl (by omega) (by first | rfl | (simp; done) | (simp [World.setCell]; done))).mono ?_
      rintro x u3 ⟨hx, ho, hr⟩
      obtain rfl : x = .returned (.int .i64 (j : Int)) := by rw [hx, E2.out] <;> rfl
      rw [E2.out] at hr
      clear hx
      have HO3 := Lib.hid (HO2.out.trans ho)
      have HR3 := Lib.hid hr
      have HBo_3 := Lib.hid (HBo_2.out.keep (ho.heap HBo_2.out.lt (by have := HG.out; have := HSo.out; omega)))
      clear ho hr
      have c4 := HBo_3.out.cell 0
      have f4 := HBo_3.out.frozen 0
      have HO4 := Lib.hid (HO3.out.new (r := u1.heap.size) (by have := HG.out; have := HSo.out; omega) 0 (.int .i64 (j : Int)))
      have HR4 := Lib.hid (HR3.out.set (r := u1.heap.size) (by have := HG.out; have := HSo.out; omega) 0 (.int .i64 (j : Int)))
      have HBo_4 : Hid (Ob (u3.setCell ⟨u1.heap.size, 0, none⟩ (.int .i64 (j : Int))) (u1.heap.size) 105 #[.int .i64 (j : Int), .int .i64 0, .string ⟨#[]⟩]) := Lib.hid (by have := HBo_3.out.put 0 (.int .i64 (j : Int)); simpa using this)
      go_wp2_with fail
      go_at_call 43
      refine (pmust_lit HR4.out [w_log, w_redact, w_review, w_notify] #[.string ⟨#[108, 111, 103]⟩, .string ⟨#[114, 101, 100, 97, 99, 116]⟩, .string ⟨#[114, 101, 118, 105, 101, 119]⟩, .string ⟨#[110, 111, 116, 105, 102, 121]⟩] 4 rfl rfl (by omega) (by first | rfl | (simp; done) | (simp [World.setCell]; done))).mono ?_
      rintro x u5 ⟨hx, ho, hr⟩
      obtain rfl : x = .returned (.int .i64 (n : Int)) := by rw [hx, E3.out] <;> rfl
      rw [E3.out] at hr
      clear hx
      have HO5 := Lib.hid (HO4.out.trans ho)
      have HR5 := Lib.hid hr
      have HBo_5 := Lib.hid (HBo_4.out.keep (ho.heap HBo_4.out.lt (by have := HG.out; have := HSo.out; omega)))
      clear ho hr
      have c6 := HBo_5.out.cell 1
      have f6 := HBo_5.out.frozen 1
      have HO6 := Lib.hid (HO5.out.new (r := u1.heap.size) (by have := HG.out; have := HSo.out; omega) 1 (.int .i64 (n : Int)))
      have HR6 := Lib.hid (HR5.out.set (r := u1.heap.size) (by have := HG.out; have := HSo.out; omega) 1 (.int .i64 (n : Int)))
      have HBo_6 : Hid (Ob (u5.setCell ⟨u1.heap.size, 1, none⟩ (.int .i64 (n : Int))) (u1.heap.size) 105 #[.int .i64 (j : Int), .int .i64 (n : Int), .string ⟨#[]⟩]) := Lib.hid (by have := HBo_5.out.put 1 (.int .i64 (n : Int)); simpa using this)
      go_wp2_with fail
      go_at_call 44
      refine (pname_any HR6.out).mono ?_
      rintro x u7 ⟨hx, ho, hr⟩
      obtain rfl : x = .returned (.string nm) := by rw [hx, E4.out] <;> rfl
      rw [E4.out] at hr
      clear hx
      have HO7 := Lib.hid (HO6.out.trans ho)
      have HR7 := Lib.hid hr
      have HBo_7 := Lib.hid (HBo_6.out.keep (ho.heap HBo_6.out.lt (by have := HG.out; have := HSo.out; omega)))
      clear ho hr
      have c8 := HBo_7.out.cell 2
      have f8 := HBo_7.out.frozen 2
      have HO8 := Lib.hid (HO7.out.new (r := u1.heap.size) (by have := HG.out; have := HSo.out; omega) 2 (.string nm))
      have HR8 := Lib.hid (HR7.out.set (r := u1.heap.size) (by have := HG.out; have := HSo.out; omega) 2 (.string nm))
      have HBo_8 : Hid (Ob (u7.setCell ⟨u1.heap.size, 2, none⟩ (.string nm)) (u1.heap.size) 105 #[.int .i64 (j : Int), .int .i64 (n : Int), .string nm]) := Lib.hid (by have := HBo_7.out.put 2 (.string nm); simpa using this)
      have c9_0 := HBo_8.out.cell 0
      have c9_1 := HBo_8.out.cell 1
      have c9_2 := HBo_8.out.cell 2
      have hgr := HGr.out.at_only keeps_dup HO8.out HG0.out
      obtain ⟨A2, c2, v2, r2, g2, b2⟩ := push_dut9 (x := ⟨(j : Int), (n : Int), nm⟩) hgr HOK.out hk63 (b := u7.heap.size) (by first | rfl | (simp; done) | (simp [World.setCell]; done))
      have HO2w := Lib.hid (((HOw.out.trans HO8.out)).below_at b2)
      have HR2w := Lib.hid (HR8.out.below b2 HG0.out)
      have R2 := Lib.hid r2
      have G2 := Lib.hid g2
      clear hgr r2 g2 b2
      go_wp2_with (at_builtin; refine wpList_append_run (o := ⟨some 23, _, _, _, _, _⟩) rfl _ _ _ _ rfl rfl rfl R2.out ?_)
      go_at_call 42
      refine (pmost_any HR2w.out ((k : Int) + 1) 8).mono ?_
      rintro x u9 ⟨rfl, ho, hr⟩
      have HO3 := Lib.hid (HO2w.out.trans ho)
      have HR3 := Lib.hid hr
      have G3 := Lib.hid (G2.out.at_only keeps_dup ho HG0.out)
      clear ho hr
      go_wp2_with fail
      go_roundw
      case rel => exact ⟨k + 1, A2, c2, _, _, q, rfl, HO3.out, HR3.out, G3.out, by have := HTL.out; have := HK.out; omega, by have := HTL.out; have := HQ.out; omega, HE.out⟩
      case measure => rw [HR3.out.restN, HRN.out]; have := HTL.out; omega
end
end Go.Proofs.Ytadjfkgnoklmiaa
