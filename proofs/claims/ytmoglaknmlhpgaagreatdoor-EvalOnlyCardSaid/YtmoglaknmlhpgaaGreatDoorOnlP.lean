/- Several texts in one: ParMath, Parse1, Parse2, Parse3. -/
import Derived.Test.YtmoglaknmlhpgaaGreatDoorOnlA
import Derived.Test.YtmoglaknmlhpgaaGreatDoorOnlO
import Derived.Test.YtmoglaknmlhpgaaGreatDoorOnlH
import Derived.StillTailTactics
/- The parser, plainly: its words, its state, and what each of its functions makes of it. -/
namespace Go.Proofs.YtmoglaknmlhpgaaGreatDoor
set_option linter.unusedVariables false

abbrev w_policy : ByteArray := ⟨#[112, 111, 108, 105, 99, 121]⟩
abbrev w_set : ByteArray := ⟨#[115, 101, 116]⟩
abbrev w_denyover : ByteArray := ⟨#[100, 101, 110, 121, 111, 118, 101, 114]⟩
abbrev w_permitover : ByteArray := ⟨#[112, 101, 114, 109, 105, 116, 111, 118, 101, 114]⟩
abbrev w_first : ByteArray := ⟨#[102, 105, 114, 115, 116]⟩
abbrev w_only : ByteArray := ⟨#[111, 110, 108, 121]⟩
abbrev w_denyunless : ByteArray := ⟨#[100, 101, 110, 121, 117, 110, 108, 101, 115, 115]⟩
abbrev w_permitunless : ByteArray := ⟨#[112, 101, 114, 109, 105, 116, 117, 110, 108, 101, 115, 115]⟩
abbrev w_permit : ByteArray := ⟨#[112, 101, 114, 109, 105, 116]⟩
abbrev w_deny : ByteArray := ⟨#[100, 101, 110, 121]⟩
abbrev w_when : ByteArray := ⟨#[119, 104, 101, 110]⟩
abbrev w_and : ByteArray := ⟨#[97, 110, 100]⟩
abbrev w_or : ByteArray := ⟨#[111, 114]⟩
abbrev w_subject : ByteArray := ⟨#[115, 117, 98, 106, 101, 99, 116]⟩
abbrev w_action : ByteArray := ⟨#[97, 99, 116, 105, 111, 110]⟩
abbrev w_case : ByteArray := ⟨#[99, 97, 115, 101]⟩
abbrev w_env : ByteArray := ⟨#[101, 110, 118]⟩
abbrev w_false : ByteArray := ⟨#[102, 97, 108, 115, 101]⟩
abbrev w_true : ByteArray := ⟨#[116, 114, 117, 101]⟩
abbrev w_if : ByteArray := ⟨#[105, 102]⟩
abbrev w_one : ByteArray := ⟨#[111, 110, 101]⟩
abbrev w_size : ByteArray := ⟨#[115, 105, 122, 101]⟩
abbrev w_has : ByteArray := ⟨#[104, 97, 115]⟩
abbrev w_eq : ByteArray := ⟨#[101, 113]⟩
abbrev w_less : ByteArray := ⟨#[108, 101, 115, 115]⟩
abbrev w_add : ByteArray := ⟨#[97, 100, 100]⟩
abbrev w_sub : ByteArray := ⟨#[115, 117, 98]⟩
abbrev w_mul : ByteArray := ⟨#[109, 117, 108]⟩
abbrev w_not : ByteArray := ⟨#[110, 111, 116]⟩
abbrev w_on : ByteArray := ⟨#[111, 110]⟩
abbrev w_log : ByteArray := ⟨#[108, 111, 103]⟩
abbrev w_redact : ByteArray := ⟨#[114, 101, 100, 97, 99, 116]⟩
abbrev w_review : ByteArray := ⟨#[114, 101, 118, 105, 101, 119]⟩
abbrev w_notify : ByteArray := ⟨#[110, 111, 116, 105, 102, 121]⟩
abbrev m_lb : ByteArray := ⟨#[123]⟩
abbrev m_rb : ByteArray := ⟨#[125]⟩
abbrev m_lp : ByteArray := ⟨#[40]⟩
abbrev m_rp : ByteArray := ⟨#[41]⟩
abbrev m_dot : ByteArray := ⟨#[46]⟩
abbrev m_bang : ByteArray := ⟨#[33]⟩
abbrev m_eqm : ByteArray := ⟨#[61]⟩
abbrev m_lt : ByteArray := ⟨#[60]⟩
abbrev m_gt : ByteArray := ⟨#[62]⟩
abbrev m_semi : ByteArray := ⟨#[59]⟩
abbrev m_comma : ByteArray := ⟨#[44]⟩

structure Pz where
 rest : List Tk
 met : Nat
 err : Int
 at_ : Int
def Pz.hd (s : Pz) : Tk := s.rest.headD ⟨7, 0, 0, ⟨#[]⟩⟩
def Pz.ok (L : Nat) (s : Pz) : Prop :=
 (∃ e, s.rest.getLast? = some e ∧ e.k = 7) ∧ (∀ t ∈ s.rest, InI t.k ∧ (0 ≤ t.p ∧ t.p ≤ (L : Int)) ∧ InI t.n ∧ t.s.size ≤ maxLen) ∧ (s.rest.length ≤ 5000 ∧ s.met + s.rest.length ≤ 6000 ∧ L ≤ 4096) ∧ (s.err = 0 ∨ s.err = 5 ∨ s.err = 6) ∧ 0 ≤ s.at_ ∧ s.at_ ≤ (L : Int)

def failR (e a : Int) (s : Pz) : Pz := if s.err = 0 then ⟨s.rest.drop (s.rest.length - 1), s.met, e, a⟩ else ⟨s.rest.drop (s.rest.length - 1), s.met, s.err, s.at_⟩
def wrongR (s : Pz) : Pz := failR 5 s.hd.p s
def mostR (n limit : Int) (s : Pz) : Pz := if limit < n then failR 6 s.hd.p s else s
def idxW (x : ByteArray) : List ByteArray → Nat
 | [] => 0
 | y :: l => if x = y then 1 else if idxW x l = 0 then 0 else idxW x l + 1
def seesR (ws : List ByteArray) (s : Pz) : Nat := if s.hd.k = 1 ∨ s.hd.k = 6 then idxW s.hd.s ws else 0
def nextR (s : Pz) : Pz := ⟨s.rest.drop 1, s.met, s.err, s.at_⟩
def takeR (ws : List ByteArray) (s : Pz) : Nat × Pz := if seesR ws s = 0 then (0, s) else (seesR ws s, nextR s)
def mustR (ws : List ByteArray) (s : Pz) : Nat × Pz := if seesR ws s = 0 then (0, wrongR s) else (seesR ws s, nextR s)
def endR (s : Pz) : Pz := if s.hd.k = 7 then s else wrongR s
def nameR (s : Pz) : ByteArray × Pz := if s.hd.k = 1 then (s.hd.s, nextR s) else (⟨#[]⟩, wrongR s)
def catR (s : Pz) : Nat × Pz := takeR [w_subject, w_action, w_case, w_env] s
def attrR (cat : Int) (s : Pz) : Atr × Pz :=
 let s1 := if cat = 0 then wrongR s else s
 let s2 := (mustR [m_dot] s1).2
 let s3 := (nameR s2).2
 (⟨cat, (nameR s2).1, decide (0 < (takeR [m_bang] s3).1)⟩, (takeR [m_bang] s3).2)
def kindR (k : Int) : Int := if k = 2 then 2 else if k = 3 then 4 else if k = 4 then 5 else if k = 5 then 3 else 1
def valueR (s : Pz) : Vl × Pz :=
 if kindR s.hd.k = 1 then (⟨1, ((mustR [w_false, w_true] s).1 : Int) - 1, ⟨#[]⟩⟩, (mustR [w_false, w_true] s).2)
 else (⟨kindR s.hd.k, s.hd.n, s.hd.s⟩, nextR s)
def matchR (s : Pz) : Mat × Pz :=
 let c := catR s
 let a := attrR (c.1 : Int) c.2
 let o := mustR [m_eqm, m_lt, m_gt] a.2
 let v := valueR o.2
 (⟨a.1, (o.1 : Int), v.1⟩, v.2)
def rowR {α : Type} (one : Pz → α × Pz) (btw : ByteArray) : Nat → List α → Pz → List α × Pz
 | 0, l, s => (l, s)
 | n + 1, l, s =>
  let x := one s
  let t := takeR [btw] (mostR ((l ++ [x.1]).length : Int) 8 x.2)
  if t.1 = 0 then (l ++ [x.1], t.2) else rowR one btw n (l ++ [x.1]) t.2
def allOfR (s : Pz) : List Mat × Pz := rowR matchR m_comma s.rest.length [] s
def anyOfR (s : Pz) : List (List Mat) × Pz :=
 let a := mustR [m_lp] s
 let r := rowR allOfR w_or a.2.rest.length [] a.2
 (r.1, (mustR [m_rp] r.2).2)
def targetR (s : Pz) : Tgt × Pz :=
 if (takeR [w_when] s).1 = 0 then ([], (takeR [w_when] s).2) else rowR anyOfR w_and (takeR [w_when] s).2.rest.length [] (takeR [w_when] s).2
def dutiesR : Nat → List Dut → Pz → List Dut × Pz
 | 0, l, s => (l, s)
 | n + 1, l, s =>
  if (takeR [w_on] s).1 = 0 then (l, (takeR [w_on] s).2) else
  let a := mustR [w_permit, w_deny] (takeR [w_on] s).2
  let b := mustR [w_log, w_redact, w_review, w_notify] a.2
  let c := nameR b.2
  dutiesR n (l ++ [⟨(a.1 : Int), (b.1 : Int), c.1⟩]) (mostR ((l ++ [(⟨(a.1 : Int), (b.1 : Int), c.1⟩ : Dut)]).length : Int) 8 c.2)
def leafR (s : Pz) : Nod × Pz :=
 if 0 < (catR s).1 then (⟨2, zeroV, (attrR ((catR s).1 : Int) (catR s).2).1⟩, (attrR ((catR s).1 : Int) (catR s).2).2)
 else (⟨1, (valueR (catR s).2).1, zeroA⟩, (valueR (catR s).2).2)
def isBag (op : Int) : Bool := decide (op = 3) || decide (op = 4) || decide (op = 5)
def isTwo (op : Int) : Bool := !decide (op = 3) && !decide (op = 4) && !decide (op = 11)
def callR (ex : List Nod → Bool → Pz → List Nod × Pz) (l : List Nod) (s : Pz) : List Nod × Int × Pz :=
 let m := mustR [w_one, w_size, w_has, w_eq, w_less, w_add, w_sub, w_mul, w_not, w_and, w_or] s
 let op : Int := 2 + (m.1 : Int)
 let e := ex l (isBag op) m.2
 let f := if isTwo op = true then ex e.1 false e.2 else e
 (f.1, op, (mustR [m_rp] f.2).2)
def nodR (bag : Bool) (p : Int) (l : List Nod) (n : Nod) (s : Pz) : List Nod × Pz :=
 (l ++ [n], if bag != decide (n.op = 2) then failR 5 p (mostR ((l ++ [n]).length : Int) 32 s) else mostR ((l ++ [n]).length : Int) 32 s)
def exprR : Nat → List Nod → Bool → Pz → List Nod × Pz
 | 0, l, _, s => (l, s)
 | n + 1, l, bag, s =>
  if 0 < (takeR [m_lp] s).1 then
   let c := callR (exprR n) l (takeR [m_lp] s).2
   nodR bag s.hd.p c.1 ⟨c.2.1, zeroV, zeroA⟩ c.2.2
  else nodR bag s.hd.p l (leafR (takeR [m_lp] s).2).1 (leafR (takeR [m_lp] s).2).2
def condR (s : Pz) : List Nod × Pz :=
 if (takeR [w_if] s).1 = 0 then ([], (takeR [w_if] s).2) else exprR (takeR [w_if] s).2.rest.length [] false (takeR [w_if] s).2
def dutsR (s : Pz) : List Dut × Pz := dutiesR s.rest.length [] s
def ruleR (s : Pz) : Rul × Pz :=
 let a := mustR [w_permit, w_deny] s
 let b := nameR a.2
 let t := targetR b.2
 let c := condR t.2
 let d := dutsR c.2
 (⟨b.1, decide (a.1 = 2), t.1, c.1, d.1⟩, (mustR [m_semi] d.2).2)
def metR (s : Pz) : Pz := ⟨s.rest, s.met + 1, s.err, s.at_⟩
def rulesR : Nat → List Rul → Pz → List Rul × Pz
 | 0, l, s => (l, s)
 | n + 1, l, s =>
  if seesR [w_permit, w_deny] s = 0 then (l, s) else
  let s1 := mostR ((l.length : Int) + 1) 16 (metR s)
  let u := ruleR (mostR (s1.met : Int) 64 s1)
  rulesR n (l ++ [u.1]) u.2
def kidsR (po : Pz → Pol × Pz) : Nat → List Pol → Pz → List Pol × Pz
 | 0, l, s => (l, s)
 | n + 1, l, s =>
  if seesR [w_policy, w_set] s = 0 then (l, s) else
  let u := po (mostR ((l.length : Int) + 1) 16 s)
  kidsR po n (l ++ [u.1]) u.2
def polR : Nat → Pz → Pol × Pz
 | 0, s => (.mk ⟨#[]⟩ false 0 [] [] [] [], s)
 | f + 1, s =>
  let s0 := mostR (5 - (f : Int)) 4 s
  let a := mustR [w_policy, w_set] s0
  let b := nameR a.2
  let c := mustR [w_denyover, w_permitover, w_first, w_only, w_denyunless, w_permitunless] b.2
  let t := targetR c.2
  let d := mustR [m_lb] t.2
  let k := if a.1 = 2 then kidsR (polR f) d.2.rest.length [] d.2 else ([], d.2)
  let r := if a.1 = 2 then ([], k.2) else rulesR d.2.rest.length [] d.2
  let e := mustR [m_rb] r.2
  let o := dutsR e.2
  (.mk b.1 (decide (a.1 = 2)) (c.1 : Int) t.1 r.1 k.1 o.1, o.2)
def noPol : Pol := .mk ⟨#[]⟩ false 0 [] [] [] []
def parseR (s : ByteArray) : Pol × Int × Int :=
 if 4096 < s.size then (noPol, 6, 4096) else
 match lexB s.data.toList 0 with
 | .error p => (noPol, 5, (p : Int))
 | .ok ts =>
  let u := polR 5 ⟨ts, 0, 0, 0⟩
  let z := endR u.2
  if z.err = 0 then (if rightE u.1 = 0 then (u.1, 0, 0) else (noPol, 5, (s.size : Int))) else (noPol, z.err, z.at_)

/-! ### What holds all along -/
section
variable {L : Nat} {s : Pz}
theorem Pz.ok.ne (h : s.ok L) : s.rest ≠ [] := by
 obtain ⟨⟨e, he, _⟩, _⟩ := h
 intro h0
 rw [h0] at he
 cases he
theorem Pz.ok.pos (h : s.ok L) : 1 ≤ s.rest.length := List.length_pos_iff.2 h.ne
theorem Pz.ok.get0 (h : s.ok L) : s.rest[0]? = some s.hd := by
 have := h.ne
 unfold Pz.hd
 cases hr : s.rest with
 | nil => exact absurd hr this
 | cons t l => rfl
theorem Pz.ok.hd_ok (h : s.ok L) : InI s.hd.k ∧ (0 ≤ s.hd.p ∧ s.hd.p ≤ (L : Int)) ∧ InI s.hd.n ∧ s.hd.s.size ≤ maxLen := h.2.1 _ (List.mem_of_getElem? h.get0)
theorem Pz.ok.more (h : s.ok L) (hk : s.hd.k ≠ 7) : 2 ≤ s.rest.length := by
 have h0 := h.ne
 obtain ⟨⟨e, he, h7⟩, _⟩ := h
 unfold Pz.hd at hk
 rcases hr : s.rest with _ | ⟨t, _ | ⟨u, l⟩⟩
 ·exact absurd hr h0
 ·rw [hr] at he hk
  simp at he hk
  rw [he] at hk
  exact absurd h7 hk
 ·simp
theorem Pz.ok.next (h : s.ok L) (hk : s.hd.k ≠ 7) : (nextR s).ok L := by
 have h2 := h.more hk
 obtain ⟨⟨e, he, h7⟩, ha, hl, hx⟩ := h
 rcases hr : s.rest with _ | ⟨t, l⟩
 ·rw [hr] at h2; simp at h2
 ·rw [hr] at h2
  simp at h2
  refine ⟨⟨e, ?_, h7⟩, fun t ht => ha t ?_, ?_, hx⟩
  ·show (s.rest.drop 1).getLast? = _
   rw [hr] at he ⊢
   rcases l with _ | ⟨u, l⟩
   ·simp at h2
   ·simpa [List.getLast?_cons_cons] using he
  ·exact List.mem_of_mem_drop ht
  ·have e : (nextR s).rest.length = s.rest.length - 1 := List.length_drop
   have e2 : (nextR s).met = s.met := rfl
   omega
theorem Pz.ok.fail (h : s.ok L) {e p : Int} (he : e = 5 ∨ e = 6) (hp : 0 ≤ p ∧ p ≤ (L : Int)) : (failR e p s).ok L := by
 have h1 := h.pos
 have key : ∀ (x y : Int), (x = 0 ∨ x = 5 ∨ x = 6) → 0 ≤ y ∧ y ≤ (L : Int) → (⟨s.rest.drop (s.rest.length - 1), s.met, x, y⟩ : Pz).ok L := by
  intro x y hx hy
  obtain ⟨⟨z, hz, h7⟩, ha, hl, _⟩ := h
  refine ⟨⟨z, ?_, h7⟩, fun t ht => ha t (List.mem_of_mem_drop ht), ?_, hx, hy⟩
  ·show (s.rest.drop (s.rest.length - 1)).getLast? = _
   rw [List.getLast?_drop, if_neg (by omega)]
   exact hz
  ·show (s.rest.drop (s.rest.length - 1)).length ≤ _ ∧ s.met + (s.rest.drop (s.rest.length - 1)).length ≤ _ ∧ _
   rw [List.length_drop]
   omega
 unfold failR
 split
 ·exact key _ _ (by omega) hp
 ·exact key _ _ h.2.2.2.1 h.2.2.2.2
theorem Pz.ok.wrong (h : s.ok L) : (wrongR s).ok L := h.fail (by omega) h.hd_ok.2.1
theorem Pz.ok.most (h : s.ok L) (n l : Int) : (mostR n l s).ok L := by
 unfold mostR
 split
 ·exact h.fail (by omega) h.hd_ok.2.1
 ·exact h
theorem failR_len (e p : Int) (h : s.ok L) : (failR e p s).rest.length = 1 := by
 have := h.pos
 unfold failR
 split <;> (show (s.rest.drop (s.rest.length - 1)).length = 1; rw [List.length_drop]; omega)
theorem mostR_len (h : s.ok L) (n l : Int) : (mostR n l s).rest.length ≤ s.rest.length := by
 have := h.pos
 unfold mostR
 split
 ·rw [failR_len _ _ h]; exact this
 ·exact Nat.le_refl _
theorem seesR_more (h : s.ok L) {ws : List ByteArray} (h0 : seesR ws s ≠ 0) : s.hd.k ≠ 7 := by
 intro h7
 unfold seesR at h0
 rw [h7] at h0
 simp at h0
theorem nextR_len (s : Pz) : (nextR s).rest.length = s.rest.length - 1 := List.length_drop
theorem Pz.ok.take (h : s.ok L) (ws : List ByteArray) : (takeR ws s).2.ok L := by
 unfold takeR
 split
 ·exact h
 ·rename_i h0
  exact h.next (seesR_more h h0)
theorem Pz.ok.must (h : s.ok L) (ws : List ByteArray) : (mustR ws s).2.ok L := by
 unfold mustR
 split
 ·exact h.wrong
 ·rename_i h0
  exact h.next (seesR_more h h0)
theorem Pz.ok.name (h : s.ok L) : (nameR s).2.ok L := by
 unfold nameR
 split
 ·rename_i h1
  exact h.next (by omega)
 ·exact h.wrong
theorem takeR_len (h : s.ok L) (ws : List ByteArray) : (takeR ws s).2.rest.length + (if (takeR ws s).1 = 0 then 0 else 1) = s.rest.length := by
 have := h.pos
 unfold takeR
 split
 ·simp
 ·rename_i h0
  show (nextR s).rest.length + 1 = _
  rw [nextR_len]
  omega
theorem mustR_len (h : s.ok L) (ws : List ByteArray) : (mustR ws s).2.rest.length ≤ s.rest.length ∧ 1 ≤ (mustR ws s).2.rest.length := by
 have := h.pos
 refine ⟨?_, (h.must ws).pos⟩
 unfold mustR
 split
 ·unfold wrongR; rw [failR_len _ _ h]; exact this
 ·rw [nextR_len]; omega
theorem nameR_len (h : s.ok L) : (nameR s).2.rest.length ≤ s.rest.length := by
 have := h.pos
 unfold nameR
 split
 ·rw [nextR_len]; omega
 ·unfold wrongR; rw [failR_len _ _ h]; exact this
theorem idxW_le (x : ByteArray) : ∀ ws : List ByteArray, idxW x ws ≤ ws.length
 | [] => Nat.le_refl _
 | y :: l => by
  have := idxW_le x l
  unfold idxW
  split
  ·simp
  ·split
   ·omega
   ·simp; omega
theorem seesR_le (ws : List ByteArray) (s : Pz) : seesR ws s ≤ ws.length := by
 unfold seesR
 split
 ·exact idxW_le _ _
 ·omega
theorem takeR_le (ws : List ByteArray) (s : Pz) : (takeR ws s).1 ≤ ws.length := by
 unfold takeR
 split
 ·exact Nat.zero_le _
 ·exact seesR_le _ _
theorem mustR_le (ws : List ByteArray) (s : Pz) : (mustR ws s).1 ≤ ws.length := by
 unfold mustR
 split
 ·exact Nat.zero_le _
 ·exact seesR_le _ _
theorem nameR_size (h : s.ok L) : (nameR s).1.size ≤ maxLen := by
 unfold nameR
 split
 ·exact h.hd_ok.2.2.2
 ·exact Nat.zero_le _
end
end Go.Proofs.YtmoglaknmlhpgaaGreatDoor
/- The parser's reader in memory; its smallest functions. -/
namespace Go.Proofs.YtmoglaknmlhpgaaGreatDoor
set_option linter.unusedVariables false
open Go.RowKit

def Rd (L : Nat) (w : World) (g : Nat) (s : Pz) : Prop :=
 ∃ b o n c, Ob w g 129 #[.slice (some ⟨b, o, none⟩) n c, .int .i64 (s.met : Int), .int .i64 s.err, .int .i64 s.at_] ∧ s.ok L ∧ (s.rest.length = n ∧ n ≤ c ∧ c ≤ maxLen) ∧ b < g ∧
  ∀ j v, s.rest[j]? = some v → w.cell? ⟨b, o + j * 4, none⟩ = some (.int .i64 v.k) ∧ w.cell? ⟨b, o + j * 4 + 1, none⟩ = some (.int .i64 v.p) ∧ w.cell? ⟨b, o + j * 4 + 2, none⟩ = some (.int .i64 v.n) ∧ w.cell? ⟨b, o + j * 4 + 3, none⟩ = some (.string v.s)
section
variable {L g : Nat} {w w' w'' : World} {s : Pz}
theorem Rd.ok (h : Rd L w g s) : s.ok L := by obtain ⟨b, o, n, c, _, h, _⟩ := h; exact h
theorem Rd.lt (h : Rd L w g s) : g < w.heap.size := by obtain ⟨b, o, n, c, h, _⟩ := h; exact h.lt
theorem Rd.keep (h : Rd L w g s) (hk : ∀ k, k ≤ g → w'.heap[k]? = w.heap[k]?) : Rd L w' g s := by
 obtain ⟨b, o, n, c, h1, h2, h3, h4, h5⟩ := h
 refine ⟨b, o, n, c, h1.keep (hk g (Nat.le_refl _)), h2, h3, h4, fun j v hv => ?_⟩
 obtain ⟨a1, a2, a3, a4⟩ := h5 j v hv
 have e := fun x : Nat => World.cell?_of_block (w := w) (w' := w') (a := ⟨b, x, none⟩) (hk b (Nat.le_of_lt h4))
 exact ⟨(e _).trans a1, (e _).trans a2, (e _).trans a3, (e _).trans a4⟩
theorem Rd.then_ (h : Rd L w g s) (hb : Below w.heap.size w w') : Rd L w' g s := h.keep fun k hk => hb.block k (Nat.lt_of_le_of_lt hk h.lt)
theorem Rd.alloc (h : Rd L w g s) (o : Obj) : Rd L (w.alloc o) g s := h.then_ ((Below.refl _ _).alloc (Nat.le_refl _) _)
theorem Rd.other (h : Rd L w g s) {r : Nat} (ho : Only r w w') (hr : g < r) : Rd L w' g s := h.keep fun k hk => ho.heap (Nat.lt_of_le_of_lt hk h.lt) (by omega)
theorem Rd.set (h : Rd L w g s) {r : Nat} (hr : g < r) (i : Nat) (u : Value) : Rd L (w.setCell ⟨r, i, none⟩ u) g s := h.other (Only.refl.setCell (p := ⟨r, i, none⟩) rfl u) hr
theorem Only.then_ (h : Only g w w') (k : Below w'.heap.size w' w'') : Only g w w'' := h.trans (.of_below k)
theorem Only.al (h : Only g w w') (o : Obj) : Only g w (w'.alloc o) := h.then_ ((Below.refl _ _).alloc (Nat.le_refl _) _)
theorem Only.new (h : Only g w w') {r : Nat} (hr : w.heap.size ≤ r) (i : Nat) (u : Value) : Only g w (w'.setCell ⟨r, i, none⟩ u) :=
 ⟨h.os, h.tape, h.output, by simpa [World.setCell] using h.size, fun k hk hne => (Below.heap_setCell w' ⟨r, i, none⟩ u k (show k ≠ r by omega)).trans (h.block k hk hne)⟩
theorem Only.at_g (h : Only g w w') (i : Nat) (u : Value) : Only g w (w'.setCell ⟨g, i, none⟩ u) := h.setCell (p := ⟨g, i, none⟩) rfl u
theorem Rd.at_ (h : Rd L w g s) : ∃ b o n c, Ob w g 129 #[.slice (some ⟨b, o, none⟩) n c, .int .i64 (s.met : Int), .int .i64 s.err, .int .i64 s.at_] ∧ s.ok L ∧ (s.rest.length = n ∧ 1 ≤ n ∧ n ≤ c ∧ c ≤ maxLen) ∧ b < g ∧
  (w.cell? ⟨b, o, none⟩ = some (.int .i64 s.hd.k) ∧ w.cell? ⟨b, o + 1, none⟩ = some (.int .i64 s.hd.p) ∧ w.cell? ⟨b, o + 2, none⟩ = some (.int .i64 s.hd.n) ∧ w.cell? ⟨b, o + 3, none⟩ = some (.string s.hd.s)) ∧
  ∀ (k : Nat) (m e a : Int) (s' : Pz), k < n → s'.rest = s.rest.drop k → (s'.met : Int) = m → s'.err = e → s'.at_ = a → s'.ok L →
   ∀ w', (∀ j, j < g → w'.heap[j]? = w.heap[j]?) → Ob w' g 129 #[.slice (some ⟨b, o + k * 4, none⟩) (n - k) (c - k), .int .i64 m, .int .i64 e, .int .i64 a] → Rd L w' g s' := by
 obtain ⟨b, o, n, c, h1, h2, ⟨h3, h3a, h3b⟩, h4, h5⟩ := h
 have hp := h2.pos
 refine ⟨b, o, n, c, h1, h2, ⟨h3, by omega, h3a, h3b⟩, h4, by simpa using h5 0 _ h2.get0, fun k m e a s' hk hr hm he ha hok w' hw hob => ?_⟩
 subst hm he ha
 refine ⟨b, o + k * 4, n - k, c - k, hob, hok, ⟨by rw [hr, List.length_drop]; omega, by omega, by omega⟩, h4, fun j v hv => ?_⟩
 rw [hr, List.getElem?_drop] at hv
 obtain ⟨a1, a2, a3, a4⟩ := h5 _ v hv
 have e := fun x : Nat => World.cell?_of_block (w := w) (w' := w') (a := ⟨b, x, none⟩) (hw b h4)
 have ex : o + k * 4 + j * 4 = o + (k + j) * 4 := by omega
 rw [ex]
 exact ⟨(e _).trans a1, (e _).trans a2, (e _).trans a3, (e _).trans a4⟩
end

theorem str_self (s : ByteArray) : (s.toList == s.toList) = true := by simp
theorem str_other {s t : ByteArray} (h : s ≠ t) : (s.toList == t.toList) = false := by
 rw [beq_eq_false_iff_ne]
 intro e
 exact h (text_eq (by show s.data.toList = t.data.toList; rw [← ByteArray.toList_eq, ← ByteArray.toList_eq, e]))
theorem idxW_step {x : ByteArray} : ∀ {ws : List ByteArray} {k : Nat} {y : ByteArray}, (∀ j z, ws[j]? = some z → j < k → x ≠ z) → ws[k]? = some y → x = y → idxW x ws = k + 1
 | [], _, _, _, h, _ => by simp at h
 | z :: l, 0, y, _, h, e => by
  simp at h
  subst h
  simp [idxW, e]
 | z :: l, k + 1, y, hn, h, e => by
  have h0 := hn 0 z rfl (by omega)
  have := idxW_step (x := x) (ws := l) (k := k) (y := y) (fun j v hv hj => hn (j + 1) v (by simpa using hv) (by omega)) (by simpa using h) e
  unfold idxW
  rw [if_neg h0, this, if_neg (by omega)]
theorem idxW_none {x : ByteArray} : ∀ {ws : List ByteArray}, (∀ (j : Nat) z, ws[j]? = some z → x ≠ z) → idxW x ws = 0
 | [], _ => rfl
 | z :: l, h => by
  have := idxW_none (x := x) (ws := l) fun j v hv => h (j + 1) v (by simpa using hv)
  unfold idxW
  rw [if_neg (h 0 z rfl), this, if_pos rfl]

set_option maxHeartbeats 800000 in
theorem index_any {w : World} {B : Nat} {A : Option Addr} {n c : Nat} {ws : List ByteArray} (x : ByteArray) (h : Sl w B A n c (ws.map Value.string)) :
  Calls Tryz.prog 147 #[.slice A n c, .string x] w fun e w' => e = .returned (.int .i64 ((idxW x ws : Int) - 1)) ∧ w = w' := by
 have hle := h.le
 have hcap := h.cap
 have HL : Hid (ws.length = n) := by show _ = _; rw [← h.len, List.length_map]
 unfold maxLen at hcap
 have H := Lib.hid h
 clear h
 go_enter Tryz.func147, Tryz.ntmps147
 go_wp2
 go_loop [8] (fun i => ∃ k : Nat, k ≤ n ∧ i = .int .i64 k ∧ ∀ j z, ws[j]? = some z → j < k → x ≠ z) (fun i => n - (intOf i).toNat)
 case atStart => exact ⟨0, Nat.zero_le _, rfl, fun j z _ h => by omega⟩
 case round =>
  obtain ⟨k, hk, rfl, hf⟩ := hrel
  have HF := Lib.hid hf
  clear hf
  by_cases hlt : k < n
  ·obtain ⟨b, o, u, rfl, hb, hu, hc⟩ := H.out.at_ hlt
   rw [List.getElem?_map] at hu
   obtain ⟨y, hy, rfl⟩ := Option.map_eq_some_iff.1 hu
   have HY := Lib.hid hy
   clear hu hy
   by_cases hxy : x = y
   ·have hq : (x.toList == y.toList) = true := by rw [hxy]; exact str_self y
    have HXY := Lib.hid hxy
    clear hxy
    go_wp2
    go_ret
    exact ⟨ret_int (by rw [idxW_step HF.out HY.out HXY.out]; omega), rfl⟩
   ·have hq := str_other hxy
    have HXY := Lib.hid hxy
    clear hxy
    go_wp2
    go_round
    case rel => exact ⟨k + 1, by omega, by go_num, fun j z hz hj => by
     by_cases e : j = k
     ·subst e
      obtain rfl := Option.some.inj (HY.out.symm.trans hz)
      exact HXY.out
     ·exact HF.out j z hz (by omega)⟩
    case measure => simp [intOf]; omega
  ·obtain rfl : k = n := by omega
   go_wp2
   go_ret
   exact ⟨ret_int (by rw [idxW_none (fun j z hz => HF.out j z hz (by have := HL.out; have := (List.getElem?_eq_some_iff.1 hz).1; omega))]; rfl), rfl⟩
end Go.Proofs.YtmoglaknmlhpgaaGreatDoor
/- The parser's smallest functions: here, fail, wrong, most, sees, take, must, end, name. -/
namespace Go.Proofs.YtmoglaknmlhpgaaGreatDoor
set_option linter.unusedVariables false
open Go.RowKit

section
variable {L g : Nat} {w : World} {s : Pz}
set_option maxHeartbeats 800000 in
theorem phere_any (h : Rd L w g s) : Calls Tryz.prog 119 #[.pointer (some ⟨g, 0, none⟩)] w fun e w' => e = .returned (.int .i64 s.hd.p) ∧ w = w' := by
 obtain ⟨b, o, n, c, hob, hok, ⟨hn, h1, h2, h3⟩, hbg, ⟨c0, c1, c2, c3⟩, _⟩ := h.at_
 have q0 := hob.cell 0
 clear hob hok h
 go_enter Tryz.func119, Tryz.ntmps119
 go_wp2_with fail
 go_ret
 exact ⟨rfl, rfl⟩

set_option maxRecDepth 100000 in
set_option maxHeartbeats 1600000 in
theorem pfail_any (h : Rd L w g s) {e p : Int} (he : e = 5 ∨ e = 6) (hp : 0 ≤ p ∧ p ≤ (L : Int)) :
  Calls Tryz.prog 118 #[.pointer (some ⟨g, 0, none⟩), .int .i64 e, .int .i64 p] w fun x w' => x = .returned (.tuple #[]) ∧ Only g w w' ∧ Rd L w' g (failR e p s) := by
 have HOK := Lib.hid (h.ok.fail he hp)
 obtain ⟨b, o, n, c, hob, hok, ⟨hn, h1, h2, h3⟩, hbg, _, hmk⟩ := h.at_
 have q0 := hob.cell 0
 have q1 := hob.cell 1
 have q2 := hob.cell 2
 have q3 := hob.cell 3
 have f0 := hob.frozen 0
 have f2 := hob.frozen 2
 have f3 := (hob.put 2 (.int .i64 e)).frozen 3
 have HOB := Lib.hid hob
 have HMK := Lib.hid hmk
 have HN := Lib.hid hn
 clear hob hok hmk h hn
 unfold maxLen at h3
 by_cases h0 : s.err = 0
 ·have he0 : (s.err == 0) = true := by simpa using h0
  have HE : Hid (failR e p s = ⟨s.rest.drop (s.rest.length - 1), s.met, e, p⟩) := by show _ = _; unfold failR; rw [if_pos h0]
  clear h0
  go_enter Tryz.func118, Tryz.ntmps118
  go_wp2_with fail
  have O2 : Hid (Ob ((w.setCell ⟨g, 2, none⟩ (.int .i64 e)).setCell ⟨g, 3, none⟩ (.int .i64 p)) g 129 #[.slice (some ⟨b, o, none⟩) n c, .int .i64 (s.met : Int), .int .i64 e, .int .i64 p]) := Lib.hid (by have := (HOB.out.put 2 (.int .i64 e)).put 3 (.int .i64 p); simpa using this)
  have on2 := Lib.hid (((Only.refl (w := w)).at_g (g := g) 2 (.int .i64 e)).at_g 3 (.int .i64 p))
  generalize (w.setCell ⟨g, 2, none⟩ (.int .i64 e)).setCell ⟨g, 3, none⟩ (.int .i64 p) = w2 at *
  clear q0 q1 q2 q3 f0 f2 f3
  have q0 : w2.cell? ⟨g, 0, none⟩ = some (.slice (some ⟨b, o, none⟩) n c) := O2.out.cell 0
  have hw : IntKind.i64.wrap ((n : Int) - 1) = (n : Int) - 1 := IntWalk.i64_in _ (by omega)
  have hs1 : (0 : Int) ≤ (n : Int) - 1 := by omega
  have hs2 : (n : Int) - 1 ≤ (n : Int) := by omega
  have hs3 : ((n : Int) - 1).toNat = n - 1 := by omega
  have hs4 : ¬ c = n - 1 := by omega
  have hs5 : (1 : Int) ≤ (n : Int) := by omega
  go_still_tail 14, (by kernel_rfl)
  clear q0 hw hs1 hs2 hs3 hs4 hs5
  change wpList _ _ _ _ _ (w2.drewN 1)
  have O3 := Lib.hid (O2.out.keep (w' := w2.drewN 1) rfl)
  have ON3 := Lib.hid (on2.out.drewN 1)
  generalize w2.drewN 1 = w3 at *
  have f0 := O3.out.frozen 0
  have q0 := O3.out.cell 0
  go_wp2_with fail
  go_end0
  refine ⟨rfl, ON3.out.at_g 0 _, ?_⟩
  have he := HE.out
  rw [he] at HOK ⊢
  refine HMK.out (n - 1) _ _ _ _ (by omega) (by rw [HN.out]) rfl rfl rfl HOK.out _ (fun j hj => (ON3.out.at_g 0 _).heap (Nat.lt_trans hj HOB.out.lt) (by omega)) ?_
  have := O3.out.put 0 (.slice (some ⟨b, o + (n - 1) * 4, none⟩) (n - (n - 1)) (c - (n - 1)))
  simpa using this
 ·have he0 : (s.err == 0) = false := by simpa using h0
  have HE : Hid (failR e p s = ⟨s.rest.drop (s.rest.length - 1), s.met, s.err, s.at_⟩) := by show _ = _; unfold failR; rw [if_neg h0]
  clear h0
  go_enter Tryz.func118, Tryz.ntmps118
  go_wp2_with fail
  have O2 := HOB
  have on2 := Lib.hid (Only.refl (w := w) (r := g))
  clear q0 q1 q2 q3 f0 f2 f3
  have q0 : w.cell? ⟨g, 0, none⟩ = some (.slice (some ⟨b, o, none⟩) n c) := O2.out.cell 0
  have hw : IntKind.i64.wrap ((n : Int) - 1) = (n : Int) - 1 := IntWalk.i64_in _ (by omega)
  have hs1 : (0 : Int) ≤ (n : Int) - 1 := by omega
  have hs2 : (n : Int) - 1 ≤ (n : Int) := by omega
  have hs3 : ((n : Int) - 1).toNat = n - 1 := by omega
  have hs4 : ¬ c = n - 1 := by omega
  have hs5 : (1 : Int) ≤ (n : Int) := by omega
  go_still_tail 14, (by kernel_rfl)
  clear q0 hw hs1 hs2 hs3 hs4 hs5
  change wpList _ _ _ _ _ (w.drewN 1)
  have O3 := Lib.hid (O2.out.keep (w' := w.drewN 1) rfl)
  have ON3 := Lib.hid (on2.out.drewN 1)
  generalize w.drewN 1 = w3 at *
  have f0 := O3.out.frozen 0
  have q0 := O3.out.cell 0
  go_wp2_with fail
  go_end0
  refine ⟨rfl, ON3.out.at_g 0 _, ?_⟩
  have he := HE.out
  rw [he] at HOK ⊢
  refine HMK.out (n - 1) _ _ _ _ (by omega) (by rw [HN.out]) rfl rfl rfl HOK.out _ (fun j hj => (ON3.out.at_g 0 _).heap (Nat.lt_trans hj HOB.out.lt) (by omega)) ?_
  have := O3.out.put 0 (.slice (some ⟨b, o + (n - 1) * 4, none⟩) (n - (n - 1)) (c - (n - 1)))
  simpa using this
theorem pwrong_any (h : Rd L w g s) : Calls Tryz.prog 96 #[.pointer (some ⟨g, 0, none⟩)] w fun x w' => x = .returned (.tuple #[]) ∧ Only g w w' ∧ Rd L w' g (wrongR s) := by
 have HC := Lib.hid (phere_any h)
 have HF := Lib.hid (pfail_any h (e := 5) (.inl rfl) h.ok.hd_ok.2.1)
 clear h
 go_enter Tryz.func96, Tryz.ntmps96
 go_wp2_with (first
  | (go_at_call 119; refine HC.out.mono ?_; rintro x w1 ⟨rfl, rfl⟩)
  | (go_at_call 118; refine HF.out.mono ?_; rintro x w1 ⟨rfl, ho, hr⟩; have HO := Lib.hid ho; have HR := Lib.hid hr; clear ho hr))
 go_end0
 exact ⟨rfl, HO.out, HR.out⟩
theorem pmost_any (h : Rd L w g s) (n l : Int) : Calls Tryz.prog 89 #[.pointer (some ⟨g, 0, none⟩), .int .i64 n, .int .i64 l] w fun x w' => x = .returned (.tuple #[]) ∧ Only g w w' ∧ Rd L w' g (mostR n l s) := by
 have HC := Lib.hid (phere_any h)
 have HF := Lib.hid (pfail_any h (e := 6) (.inr rfl) h.ok.hd_ok.2.1)
 have HH := Lib.hid h
 clear h
 by_cases hl : l < n
 ·have HE : Hid (mostR n l s = failR 6 s.hd.p s) := by show _ = _; unfold mostR; rw [if_pos hl]
  have hl2 : decide (l < n) = true := decide_eq_true hl
  go_enter Tryz.func89, Tryz.ntmps89
  go_wp2_with (first
   | (go_at_call 119; refine HC.out.mono ?_; rintro x w1 ⟨rfl, rfl⟩)
   | (go_at_call 118; refine HF.out.mono ?_; rintro x w1 ⟨rfl, ho, hr⟩; have HO := Lib.hid ho; have HR := Lib.hid hr; clear ho hr))
  go_end0
  exact ⟨rfl, HO.out, by rw [HE.out]; exact HR.out⟩
 ·have HE : Hid (mostR n l s = s) := by show _ = _; unfold mostR; rw [if_neg hl]
  have hl2 : decide (l < n) = false := decide_eq_false hl
  go_enter Tryz.func89, Tryz.ntmps89
  go_wp2_with fail
  go_end0
  exact ⟨rfl, Only.refl, by rw [HE.out]; exact HH.out⟩
set_option maxHeartbeats 1600000 in
theorem psees_any (h : Rd L w g s) {B n c : Nat} {A : Option Addr} {ws : List ByteArray} (hs : Sl w B A n c (ws.map Value.string)) (hB : B ≤ w.heap.size) :
  Calls Tryz.prog 123 #[.pointer (some ⟨g, 0, none⟩), .slice A n c] w fun x w' => x = .returned (.int .i64 (seesR ws s : Int)) ∧ Below w.heap.size w w' := by
 obtain ⟨b, o, m, d, hob, hok, ⟨hn, h1, h2, h3⟩, hbg, ⟨c0, c1, c2, c3⟩, _⟩ := h.at_
 have q0 := hob.cell 0
 have HI := Lib.hid (index_any s.hd.s (hs.lit_keep hB (.cells #[.int .i64 s.hd.k, .int .i64 s.hd.p, .int .i64 s.hd.n, .string s.hd.s] 150)))
 have hbw : Below w.heap.size w (w.alloc (.cells #[.int .i64 s.hd.k, .int .i64 s.hd.p, .int .i64 s.hd.n, .string s.hd.s] 150)) := (Below.refl _ _).alloc (Nat.le_refl _) _
 have HB := Lib.hid hbw
 have HX := Lib.hid (idxW_le s.hd.s ws)
 have HL : Hid (ws.length = n ∧ n ≤ maxLen) := ⟨by rw [← hs.len, List.length_map], Nat.le_trans hs.le hs.cap⟩
 unfold maxLen at HL
 clear hob hok h hs hbw
 by_cases hk : s.hd.k = 1 ∨ s.hd.k = 6
 ·have HE : Hid (seesR ws s = idxW s.hd.s ws) := by show _ = _; unfold seesR; rw [if_pos hk]
  have hlt : (idxW s.hd.s ws : Int) ≤ 9223372036854775807 := by have := HX.out; have := HL.out; omega
  generalize idxW s.hd.s ws = i at *
  rcases hk with hk | hk
  all_goals
   have hk1 : (s.hd.k != 1) = decide (s.hd.k ≠ 1) := by rw [Bool.eq_iff_iff]; simp
   have hk6 : (s.hd.k != 6) = decide (s.hd.k ≠ 6) := by rw [Bool.eq_iff_iff]; simp
   rw [hk] at hk1 hk6
   simp only [hk] at *
   go_enter Tryz.func123, Tryz.ntmps123
   go_wp2_with (first
    | (go_at_call 147; refine HI.out.mono ?_; rintro x w1 ⟨rfl, rfl⟩))
   go_ret
   exact ⟨ret_int (by rw [HE.out]; try omega), HB.out⟩
 ·have HE : Hid (seesR ws s = 0) := by show _ = _; unfold seesR; rw [if_neg hk]
  have hk1 : (s.hd.k != 1) = true := by rw [bne_iff_ne]; omega
  have hk6 : (s.hd.k != 6) = true := by rw [bne_iff_ne]; omega
  clear hk
  go_enter Tryz.func123, Tryz.ntmps123
  go_wp2_with fail
  go_ret
  exact ⟨ret_int (by rw [HE.out]; rfl), HB.out⟩
end
end Go.Proofs.YtmoglaknmlhpgaaGreatDoor
/- The parser: take, must, end, name. -/
namespace Go.Proofs.YtmoglaknmlhpgaaGreatDoor
set_option linter.unusedVariables false
open Go.RowKit

section
variable {L g : Nat} {w : World} {s : Pz}
theorem takeR_no {ws : List ByteArray} (h : seesR ws s = 0) : takeR ws s = (0, s) := by unfold takeR; rw [if_pos h]
theorem takeR_yes {ws : List ByteArray} (h : seesR ws s ≠ 0) : takeR ws s = (seesR ws s, nextR s) := by unfold takeR; rw [if_neg h]
theorem mustR_no {ws : List ByteArray} (h : seesR ws s = 0) : mustR ws s = (0, wrongR s) := by unfold mustR; rw [if_pos h]
theorem mustR_yes {ws : List ByteArray} (h : seesR ws s ≠ 0) : mustR ws s = (seesR ws s, nextR s) := by unfold mustR; rw [if_neg h]
theorem Rd.goes (h : Rd L w g s) (hk : s.hd.k ≠ 7) : ∃ b o n c, Ob w g 129 #[.slice (some ⟨b, o, none⟩) n c, .int .i64 (s.met : Int), .int .i64 s.err, .int .i64 s.at_] ∧ (2 ≤ n ∧ n ≤ c ∧ c ≤ maxLen) ∧ b < g ∧
  (w.cell? ⟨b, o, none⟩ = some (.int .i64 s.hd.k) ∧ w.cell? ⟨b, o + 1, none⟩ = some (.int .i64 s.hd.p) ∧ w.cell? ⟨b, o + 2, none⟩ = some (.int .i64 s.hd.n) ∧ w.cell? ⟨b, o + 3, none⟩ = some (.string s.hd.s)) ∧
  ∀ w1, Below w.heap.size w w1 → Rd L (w1.setCell ⟨g, 0, none⟩ (.slice (some ⟨b, o + 4, none⟩) (n - 1) (c - 1))) g (nextR s) ∧ Only g w (w1.setCell ⟨g, 0, none⟩ (.slice (some ⟨b, o + 4, none⟩) (n - 1) (c - 1))) := by
 have hm := h.ok.more hk
 have hlt := h.lt
 obtain ⟨b, o, n, c, hob, hok, ⟨hn, h1, h2, h3⟩, hbg, hc, hmk⟩ := h.at_
 refine ⟨b, o, n, c, hob, ⟨by omega, h2, h3⟩, hbg, hc, fun w1 hb => ?_⟩
 have ho : Only g w (w1.setCell ⟨g, 0, none⟩ (.slice (some ⟨b, o + 4, none⟩) (n - 1) (c - 1))) := (Only.of_below hb).at_g 0 _
 refine ⟨hmk 1 (s.met : Int) s.err s.at_ (nextR s) (by omega) rfl rfl rfl rfl (hok.next hk) _ (fun j hj => ho.heap (Nat.lt_trans hj hlt) (by omega)) ?_, ho⟩
 have := (hob.below hb hlt).put 0 (.slice (some ⟨b, o + 4, none⟩) (n - 1) (c - 1))
 simpa using this

set_option maxHeartbeats 1600000 in
theorem ptake_any (h : Rd L w g s) {B n c : Nat} {A : Option Addr} {ws : List ByteArray} (hs : Sl w B A n c (ws.map Value.string)) (hB : B ≤ w.heap.size) :
  Calls Tryz.prog 120 #[.pointer (some ⟨g, 0, none⟩), .slice A n c] w fun x w' => x = .returned (.int .i64 ((takeR ws s).1 : Int)) ∧ Only g w w' ∧ Rd L w' g (takeR ws s).2 := by
 have HC := Lib.hid (psees_any h hs hB)
 have HH := Lib.hid h
 by_cases h0 : seesR ws s = 0
 ·rw [takeR_no h0]
  rw [h0] at HC
  clear hs h h0
  go_enter Tryz.func120, Tryz.ntmps120
  go_wp2_with (first
   | (go_at_call 123; refine HC.out.mono ?_; rintro x w1 ⟨rfl, hb⟩; have HB := Lib.hid hb; clear hb))
  go_ret
  exact ⟨rfl, .of_below HB.out, HH.out.then_ HB.out⟩
 ·rw [takeR_yes h0]
  obtain ⟨b, o, m, d, hob, ⟨h1, h2, h3⟩, hbg, _, hgo⟩ := h.goes (seesR_more h.ok h0)
  have HOB := Lib.hid hob
  have HGO := Lib.hid hgo
  have h4 : 0 < seesR ws s := by omega
  generalize seesR ws s = i at *
  have h5 : ¬ d = 1 := by omega
  have h6 : (1 : Int) ≤ (m : Int) := by omega
  unfold maxLen at h3
  have h7 : decide (0 < (i : Int)) = true := decide_eq_true (by omega)
  clear hs h h0 hob hgo
  go_enter Tryz.func120, Tryz.ntmps120
  go_wp2_with (first
   | (go_at_call 123; refine HC.out.mono ?_; rintro x w1 ⟨rfl, hb⟩; have HB := Lib.hid hb; have O1 := Lib.hid (HOB.out.below hb HOB.out.lt); have q0 := O1.out.cell 0; have f0 := O1.out.frozen 0; clear hb))
  go_ret
  exact ⟨rfl, (HGO.out _ HB.out).2, (HGO.out _ HB.out).1⟩
set_option maxHeartbeats 1600000 in
theorem pmust_any (h : Rd L w g s) {B n c : Nat} {A : Option Addr} {ws : List ByteArray} (hs : Sl w B A n c (ws.map Value.string)) (hB : B ≤ w.heap.size) :
  Calls Tryz.prog 90 #[.pointer (some ⟨g, 0, none⟩), .slice A n c] w fun x w' => x = .returned (.int .i64 ((mustR ws s).1 : Int)) ∧ Only g w w' ∧ Rd L w' g (mustR ws s).2 := by
 have HC := Lib.hid (ptake_any h hs hB)
 by_cases h0 : seesR ws s = 0
 ·rw [mustR_no h0]
  rw [takeR_no h0] at HC
  clear hs h h0
  go_enter Tryz.func90, Tryz.ntmps90
  go_wp2_with (first
   | (go_at_call 120; refine HC.out.mono ?_; rintro x w1 ⟨rfl, ho, hr⟩; have HO := Lib.hid ho; have HR := Lib.hid (pwrong_any hr); clear ho hr)
   | (go_at_call 96; refine HR.out.mono ?_; rintro x w2 ⟨rfl, ho, hr⟩; have HO2 := Lib.hid (HO.out.trans ho); have HR2 := Lib.hid hr; clear ho hr))
  go_ret
  exact ⟨rfl, HO2.out, HR2.out⟩
 ·rw [mustR_yes h0]
  rw [takeR_yes h0] at HC
  generalize seesR ws s = i at *
  have h7 : ((i : Int) == 0) = false := by rw [beq_eq_false_iff_ne]; omega
  clear hs h h0
  go_enter Tryz.func90, Tryz.ntmps90
  go_wp2_with (first
   | (go_at_call 120; refine HC.out.mono ?_; rintro x w1 ⟨rfl, ho, hr⟩; have HO := Lib.hid ho; have HR := Lib.hid hr; clear ho hr))
  go_ret
  exact ⟨rfl, HO.out, HR.out⟩
theorem ptake_lit (h : Rd L w g s) (ws : List ByteArray) (cs : Array Value) (n : Nat) (hcs : (ws.map Value.string).toArray = cs) (hn : ws.length = n) (h63 : n ≤ 100) {b : Nat} (hb : w.heap.size = b) :
  Calls Tryz.prog 120 #[.pointer (some ⟨g, 0, none⟩), .slice (some ⟨b, 0, none⟩) n n] (w.alloc (.cells cs 9)) fun x w' => x = .returned (.int .i64 ((takeR ws s).1 : Int)) ∧ Only g w w' ∧ Rd L w' g (takeR ws s).2 := by
 subst hcs hb
 have := Sl.lit w 9 (ws.map Value.string) n (by rw [List.length_map]; exact hn) (by unfold maxLen; omega)
 exact (ptake_any (h.alloc _) this (by rw [size_al]; omega)).mono fun x w' ⟨h1, h2, h3⟩ => ⟨h1, (Only.refl.al _).trans h2, h3⟩
theorem pmust_lit (h : Rd L w g s) (ws : List ByteArray) (cs : Array Value) (n : Nat) (hcs : (ws.map Value.string).toArray = cs) (hn : ws.length = n) (h63 : n ≤ 100) {b : Nat} (hb : w.heap.size = b) :
  Calls Tryz.prog 90 #[.pointer (some ⟨g, 0, none⟩), .slice (some ⟨b, 0, none⟩) n n] (w.alloc (.cells cs 9)) fun x w' => x = .returned (.int .i64 ((mustR ws s).1 : Int)) ∧ Only g w w' ∧ Rd L w' g (mustR ws s).2 := by
 subst hcs hb
 have := Sl.lit w 9 (ws.map Value.string) n (by rw [List.length_map]; exact hn) (by unfold maxLen; omega)
 exact (pmust_any (h.alloc _) this (by rw [size_al]; omega)).mono fun x w' ⟨h1, h2, h3⟩ => ⟨h1, (Only.refl.al _).trans h2, h3⟩
theorem psees_lit (h : Rd L w g s) (ws : List ByteArray) (cs : Array Value) (n : Nat) (hcs : (ws.map Value.string).toArray = cs) (hn : ws.length = n) (h63 : n ≤ 100) {b : Nat} (hb : w.heap.size = b) :
  Calls Tryz.prog 123 #[.pointer (some ⟨g, 0, none⟩), .slice (some ⟨b, 0, none⟩) n n] (w.alloc (.cells cs 9)) fun x w' => x = .returned (.int .i64 (seesR ws s : Int)) ∧ Below w.heap.size w w' := by
 subst hcs hb
 have := Sl.lit w 9 (ws.map Value.string) n (by rw [List.length_map]; exact hn) (by unfold maxLen; omega)
 exact (psees_any (h.alloc _) this (by rw [size_al]; omega)).mono fun x w' ⟨h1, h2⟩ => ⟨h1, Below.lit h2⟩
set_option maxHeartbeats 1600000 in
theorem pend_any (h : Rd L w g s) : Calls Tryz.prog 62 #[.pointer (some ⟨g, 0, none⟩)] w fun x w' => x = .returned (.tuple #[]) ∧ Only g w w' ∧ Rd L w' g (endR s) := by
 have HC := Lib.hid (pwrong_any h)
 have HH := Lib.hid h
 obtain ⟨b, o, n, c, hob, hok, ⟨hn, h1, h2, h3⟩, hbg, ⟨c0, c1, c2, c3⟩, _⟩ := h.at_
 have q0 := hob.cell 0
 clear hob hok h
 by_cases h7 : s.hd.k = 7
 ·have HE : Hid (endR s = s) := by show _ = _; unfold endR; rw [if_pos h7]
  rw [h7] at c0
  go_enter Tryz.func62, Tryz.ntmps62
  go_wp2_with fail
  go_end0
  exact ⟨rfl, Only.refl, by rw [HE.out]; exact HH.out⟩
 ·have HE : Hid (endR s = wrongR s) := by show _ = _; unfold endR; rw [if_neg h7]
  have hk7 : (s.hd.k != 7) = true := by rw [bne_iff_ne]; exact h7
  go_enter Tryz.func62, Tryz.ntmps62
  go_wp2_with (first
   | (go_at_call 96; refine HC.out.mono ?_; rintro x w2 ⟨rfl, ho, hr⟩; have HO2 := Lib.hid ho; have HR2 := Lib.hid hr; clear ho hr))
  go_end0
  exact ⟨rfl, HO2.out, by rw [HE.out]; exact HR2.out⟩
set_option maxHeartbeats 1600000 in
theorem pname_any (h : Rd L w g s) : Calls Tryz.prog 91 #[.pointer (some ⟨g, 0, none⟩)] w fun x w' => x = .returned (.string (nameR s).1) ∧ Only g w w' ∧ Rd L w' g (nameR s).2 := by
 have hbw : Below w.heap.size w (w.alloc (.cells #[.int .i64 s.hd.k, .int .i64 s.hd.p, .int .i64 s.hd.n, .string s.hd.s] 150)) := (Below.refl _ _).alloc (Nat.le_refl _) _
 have HB := Lib.hid hbw
 have HC := Lib.hid (pwrong_any (h.then_ hbw))
 by_cases h1 : s.hd.k = 1
 ·have HE : Hid (nameR s = (s.hd.s, nextR s)) := by show _ = _; unfold nameR; rw [if_pos h1]
  obtain ⟨b, o, m, d, hob, ⟨h1', h2, h3⟩, hbg, ⟨c0, c1, c2, c3⟩, hgo⟩ := h.goes (by omega)
  have q0 := hob.cell 0
  have HGO := Lib.hid (hgo _ hbw)
  have ho2 := hob.below hbw hob.lt
  have q0' := ho2.cell 0
  have f0 := ho2.frozen 0
  have xne : w.heap.size ≠ g := by have := hob.lt; omega
  have h5 : ¬ d = 1 := by omega
  have h6 : (1 : Int) ≤ (m : Int) := by omega
  have hx : ((w.alloc (.cells #[.int .i64 s.hd.k, .int .i64 s.hd.p, .int .i64 s.hd.n, .string s.hd.s] 150)).setCell ⟨g, 0, none⟩ (.slice (some ⟨b, o + 4, none⟩) (m - 1) (d - 1))).cell? ⟨w.heap.size, 3, none⟩ = some (.string s.hd.s) :=
   ((Ob.made w 150 #[.int .i64 s.hd.k, .int .i64 s.hd.p, .int .i64 s.hd.n, .string s.hd.s]).keep (Below.heap_setCell _ ⟨g, 0, none⟩ _ _ xne)).cell 3
  rw [HE.out]
  rw [h1] at *
  unfold maxLen at h3
  clear h hob hgo ho2 hbw
  go_enter Tryz.func91, Tryz.ntmps91
  go_wp2_with fail
  go_ret
  exact ⟨rfl, HGO.out.2, HGO.out.1⟩
 ·have HE : Hid (nameR s = (⟨#[]⟩, wrongR s)) := by show _ = _; unfold nameR; rw [if_neg h1]
  obtain ⟨b, o, n, c, hob, hok, ⟨hn, h1', h2, h3⟩, hbg, ⟨c0, c1, c2, c3⟩, _⟩ := h.at_
  have q0 := hob.cell 0
  have hk1 : (s.hd.k != 1) = true := by rw [bne_iff_ne]; exact h1
  rw [HE.out]
  unfold maxLen at h3
  clear h hob hok hbw
  go_enter Tryz.func91, Tryz.ntmps91
  go_wp2_with (first
   | (go_at_call 96; refine HC.out.mono ?_; rintro x w2 ⟨rfl, ho, hr⟩; have HO2 := Lib.hid ((Only.refl.then_ HB.out).trans ho); have HR2 := Lib.hid hr; clear ho hr))
  go_ret
  exact ⟨rfl, HO2.out, HR2.out⟩
end
end Go.Proofs.YtmoglaknmlhpgaaGreatDoor
