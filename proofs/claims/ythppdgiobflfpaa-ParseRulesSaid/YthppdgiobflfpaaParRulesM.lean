/- ParseRules, plainly: rules one behind the other. -/
import Derived.Test.YthppdgiobflfpaaParBlanks
import Derived.Test.YthppdgiobflfpaaParErr
import Derived.Test.YthppdgiobflfpaaNineA
namespace Go.Proofs.Ythppdgiobflfpaa
set_option linter.unusedVariables false

def rwB (b : Bool) : List UInt8 := if b = true then [100, 101, 110, 121] else [112, 101, 114, 109, 105, 116]
def rwT (b : Bool) : ByteArray := if b = true then w_deny else w_permit
def ruleT (b : Bool) (i : Nat) : List UInt8 := rwB b ++ [32, 114, UInt8.ofNat (97 + i), 59]
/-- The law's text, behind i rules. -/
def rulesT (f : Nat → Bool) : Nat → List UInt8
  | 0 => [112, 111, 108, 105, 99, 121, 32, 112, 32, 102, 105, 114, 115, 116, 32, 123]
  | i + 1 => rulesT f i ++ 32 :: ruleT (f i) i
def nmR (i : Nat) : ByteArray := ⟨#[114, UInt8.ofNat (97 + i)]⟩
def oR (b : Bool) : Int := if b = true then 5 else 7
/-- One rule's tokens, at place p. -/
def rtoks (b : Bool) (nm : ByteArray) (p : Int) : List Tk := [⟨1, p, 0, rwT b⟩, ⟨1, p + oR b, 0, nm⟩, ⟨6, p + oR b + 2, 0, m_semi⟩]
theorem rule_lex0 : ∀ b : Bool, ∀ i ∈ List.range 20, (match lexF 12 (ruleT b i) 0 with | .ok l => decide (l = rtoks b (nmR i) 0 ++ [⟨7, oR b + 3, 0, ⟨#[]⟩⟩]) | .error _ => false) = true := by decide +kernel
theorem rule_lex (b : Bool) {i : Nat} (hi : i < 20) (p : Nat) : lexB (ruleT b i) p = .ok (rtoks b (nmR i) (p : Int) ++ [⟨7, (p : Int) + oR b + 3, 0, ⟨#[]⟩⟩]) := by
  have h := rule_lex0 b i (List.mem_range.2 hi)
  have hl : (ruleT b i).length < 12 := by cases b <;> (show _ < 12; simp [ruleT, rwB])
  rw [lexF_eq 12 _ 0 hl] at h
  rw [lexB_from]
  cases hq : lexB (ruleT b i) 0 with
  | error e => rw [hq] at h; simp at h
  | ok l =>
    rw [hq] at h
    simp only [decide_eq_true_eq] at h
    subst h
    cases b <;> simp [shE, shT, rtoks, oR] <;> omega
def headT : List Tk := [⟨1, 0, 0, w_policy⟩, ⟨1, 7, 0, ⟨#[112]⟩⟩, ⟨1, 9, 0, w_first⟩, ⟨6, 15, 0, m_lb⟩]
def midT (f : Nat → Bool) : Nat → List Tk
  | 0 => []
  | i + 1 => midT f i ++ rtoks (f i) (nmR i) (((rulesT f i).length : Int) + 1)
theorem lex_rules (f : Nat → Bool) : ∀ n, n ≤ 20 → lexB (rulesT f n) 0 = .ok (headT ++ midT f n ++ [⟨7, ((rulesT f n).length : Int), 0, ⟨#[]⟩⟩])
  | 0, _ => by
    have : lexB (rulesT f 0) 0 = lexF 20 (rulesT f 0) 0 := (lexF_eq 20 _ 0 (by show 16 < 20; omega)).symm
    rw [this]
    rfl
  | i + 1, h => by
    have ih := lex_rules f i (by omega)
    show lexB (rulesT f i ++ 32 :: ruleT (f i) i) 0 = _
    rw [lexB_join (.inl rfl) ih, rule_lex (f i) (by omega) (0 + (rulesT f i).length + 1)]
    have e1 : ((rulesT f (i + 1)).length : Int) = (rulesT f i).length + 1 + (oR (f i) + 3) := by
      show ((rulesT f i ++ 32 :: ruleT (f i) i).length : Int) = _
      rw [List.length_append]
      cases f i <;> simp [ruleT, rwB, oR] <;> omega
    have e2 : (((0 + (rulesT f i).length + 1 : Nat) : Int)) = ((rulesT f i).length : Int) + 1 := by omega
    rw [e2, e1]
    simp [cat, midT]
    omega
/-- The whole text's tokens. -/
theorem lex_whole (f : Nat → Bool) {n : Nat} (hn : n ≤ 20) : lexB (rulesT f n ++ [32, 125]) 0 = .ok (headT ++ (midT f n ++ [⟨6, ((rulesT f n).length : Int) + 1, 0, m_rb⟩, ⟨7, ((rulesT f n).length : Int) + 2, 0, ⟨#[]⟩⟩])) := by
  show lexB (rulesT f n ++ 32 :: [125]) 0 = _
  rw [lexB_join (.inl rfl) (lex_rules f n hn)]
  have : lexB [125] (0 + (rulesT f n).length + 1) = .ok [⟨6, ((rulesT f n).length : Int) + 1, 0, m_rb⟩, ⟨7, ((rulesT f n).length : Int) + 2, 0, ⟨#[]⟩⟩] := by
    rw [lexB_from]
    have e : lexB [125] 0 = .ok [⟨6, 0, 0, m_rb⟩, ⟨7, 1, 0, ⟨#[]⟩⟩] := by rw [← lexF_eq 5 _ 0 (by decide)]; rfl
    rw [e]
    simp [shE, shT]
    omega
  rw [this]
  simp [cat]
/-- One rule is read. -/
theorem rule_one (b : Bool) (nm : ByteArray) (p : Int) (rest : List Tk) (met : Nat) : ruleR ⟨rtoks b nm p ++ rest, met, 0, 0⟩ = (⟨nm, b, [], [], []⟩, ⟨rest, met, 0, 0⟩) := by
  cases b <;> kernel_rfl
theorem sees_rule (b : Bool) (nm : ByteArray) (p : Int) (rest : List Tk) (met : Nat) : seesR [w_permit, w_deny] ⟨rtoks b nm p ++ rest, met, 0, 0⟩ ≠ 0 := by
  have h : seesR [w_permit, w_deny] ⟨rtoks b nm p ++ rest, met, 0, 0⟩ = if b = true then 2 else 1 := by cases b <;> kernel_rfl
  rw [h]
  cases b <;> simp
theorem rulesR_next {n : Nat} {l : List Rul} {s s1 s2 s3 : Pz} {u : Rul} {m : Int} (h : seesR [w_permit, w_deny] s ≠ 0) (hm : (l.length : Int) + 1 = m) (h1 : mostR m 16 (metR s) = s1) (h2 : mostR (s1.met : Int) 64 s1 = s2) (h3 : ruleR s2 = (u, s3)) : rulesR (n + 1) l s = rulesR n (l ++ [u]) s3 := by
  conv => lhs; unfold rulesR
  rw [if_neg h]
  simp only [hm, h1, h2, h3]
theorem rules_step {n met : Nat} {l : List Rul} (b : Bool) (nm : ByteArray) (p : Int) (rest : List Tk) (hl : l.length = met) (hm : met < 16) :
    rulesR (n + 1) l ⟨rtoks b nm p ++ rest, met, 0, 0⟩ = rulesR n (l ++ [⟨nm, b, [], [], []⟩]) ⟨rest, met + 1, 0, 0⟩ := by
  refine rulesR_next (m := (met : Int) + 1) (s1 := ⟨rtoks b nm p ++ rest, met + 1, 0, 0⟩) (s2 := ⟨rtoks b nm p ++ rest, met + 1, 0, 0⟩) (sees_rule b nm p rest met) (by rw [hl]) ?_ ?_ (rule_one b nm p rest (met + 1))
  · unfold mostR
    rw [if_neg (by omega)]
    rfl
  · unfold mostR
    rw [if_neg (by show ¬ (64 : Int) < ((met + 1 : Nat) : Int); omega)]
abbrev SpR := Bool × ByteArray × Int
def SpR.toks (x : SpR) : List Tk := rtoks x.1 x.2.1 x.2.2
def SpR.rul (x : SpR) : Rul := ⟨x.2.1, x.1, [], [], []⟩
theorem rules_run : ∀ (xs : List SpR) (n met : Nat) (l : List Rul) (rest : List Tk), l.length = met → met + xs.length ≤ 16 →
    rulesR (n + xs.length) l ⟨xs.flatMap SpR.toks ++ rest, met, 0, 0⟩ = rulesR n (l ++ xs.map SpR.rul) ⟨rest, met + xs.length, 0, 0⟩
  | [], n, met, l, rest, _, _ => by simp
  | x :: xs, n, met, l, rest, hl, hm => by
    simp only [List.length_cons] at hm
    have e1 : n + (x :: xs).length = (n + xs.length) + 1 := by simp only [List.length_cons]; omega
    have e2 : (x :: xs).flatMap SpR.toks ++ rest = rtoks x.1 x.2.1 x.2.2 ++ (xs.flatMap SpR.toks ++ rest) := by rw [List.flatMap_cons, List.append_assoc]; rfl
    rw [e1, e2, rules_step x.1 x.2.1 x.2.2 _ hl (by omega), rules_run xs n (met + 1) _ rest (by rw [List.length_append, hl]; rfl) (by omega)]
    have e3 : l ++ [(⟨x.2.1, x.1, [], [], []⟩ : Rul)] ++ xs.map SpR.rul = l ++ (x :: xs).map SpR.rul := by simp [SpR.rul]
    have e4 : met + 1 + xs.length = met + (x :: xs).length := by simp only [List.length_cons]; omega
    rw [e3, e4]
/-- One more than may be. -/
theorem rules_full {n : Nat} {l : List Rul} (b : Bool) (nm : ByteArray) (p : Int) (rest : List Tk) (hl : l.length = 16) : (rulesR (n + 1) l ⟨rtoks b nm p ++ rest, 16, 0, 0⟩).2.err = 6 ∧ (rulesR (n + 1) l ⟨rtoks b nm p ++ rest, 16, 0, 0⟩).2.at_ = p := by
  obtain ⟨s1, h1⟩ : ∃ t, mostR 17 16 (metR ⟨rtoks b nm p ++ rest, 16, 0, 0⟩) = t := ⟨_, rfl⟩
  obtain ⟨s2, h2⟩ : ∃ t, mostR (s1.met : Int) 64 s1 = t := ⟨_, rfl⟩
  obtain ⟨u, s3, h3⟩ := pair_eq (ruleR s2)
  rw [rulesR_next (sees_rule b nm p rest 16) (m := 17) (by rw [hl]; rfl) h1 h2 h3]
  have e1 : s1.err = 6 ∧ s1.at_ = p := by
    rw [← h1]
    unfold mostR
    rw [if_pos (by omega)]
    unfold failR
    rw [if_pos (show (metR ⟨rtoks b nm p ++ rest, 16, 0, 0⟩).err = 0 from rfl)]
    exact ⟨rfl, rfl⟩
  have k2 : Kp s1 s2 := h2 ▸ kp_most _ _ _
  have k3 : Kp s2 s3 := by have := kp_rule s2; rwa [h3] at this
  have k := (k2.trans k3).trans (kp_rules n (l ++ [u]) s3)
  obtain ⟨a, c⟩ := k (by rw [e1.1]; omega)
  exact ⟨a.trans e1.1, c.trans e1.2⟩
def spR (f : Nat → Bool) (i : Nat) : SpR := (f i, nmR i, ((rulesT f i).length : Int) + 1)
theorem midT_eq (f : Nat → Bool) : ∀ n, midT f n = ((List.range n).map (spR f)).flatMap SpR.toks
  | 0 => rfl
  | n + 1 => by
    rw [List.range_succ, List.map_append, List.flatMap_append, ← midT_eq f n]
    simp [midT, SpR.toks, spR]
theorem midT_more (f : Nat → Bool) : ∀ k, ∃ more, midT f (17 + k) = midT f 16 ++ (rtoks (f 16) (nmR 16) (((rulesT f 16).length : Int) + 1) ++ more)
  | 0 => ⟨[], by simp [midT]⟩
  | k + 1 => by
    obtain ⟨more, h⟩ := midT_more f k
    refine ⟨more ++ rtoks (f (17 + k)) (nmR (17 + k)) (((rulesT f (17 + k)).length : Int) + 1), ?_⟩
    show midT f (17 + k) ++ _ = _
    rw [h]
    simp
theorem midT_len (f : Nat → Bool) : ∀ n, (midT f n).length = 3 * n
  | 0 => rfl
  | n + 1 => by
    show (midT f n ++ _).length = _
    rw [List.length_append, midT_len f n]
    show 3 * n + 3 = _
    omega
/-- A policy's head, and what is in its brackets. -/
theorem pol_head {mid : List Tk} {rs : List Rul} {s6 s7 s8 : Pz} {e : Nat} {o : List Dut} (h6 : rulesR mid.length [] ⟨mid, 0, 0, 0⟩ = (rs, s6)) (h7 : mustR [m_rb] s6 = (e, s7)) (h8 : dutsR s7 = (o, s8)) :
    polR 5 ⟨headT ++ mid, 0, 0, 0⟩ = (.mk ⟨#[112]⟩ false 3 [] rs [] o, s8) := by
  have h0 : mostR (5 - ((4 : Nat) : Int)) 4 ⟨headT ++ mid, 0, 0, 0⟩ = ⟨headT ++ mid, 0, 0, 0⟩ := by
    unfold mostR
    rw [if_neg (by omega)]
  have h1 : mustR [w_policy, w_set] ⟨headT ++ mid, 0, 0, 0⟩ = (1, ⟨headT.drop 1 ++ mid, 0, 0, 0⟩) := by kernel_rfl
  have h2 : nameR ⟨headT.drop 1 ++ mid, 0, 0, 0⟩ = (⟨#[112]⟩, ⟨headT.drop 2 ++ mid, 0, 0, 0⟩) := by kernel_rfl
  have h3 : mustR w_algs ⟨headT.drop 2 ++ mid, 0, 0, 0⟩ = (3, ⟨headT.drop 3 ++ mid, 0, 0, 0⟩) := by kernel_rfl
  have h4 : targetR ⟨headT.drop 3 ++ mid, 0, 0, 0⟩ = ([], ⟨headT.drop 3 ++ mid, 0, 0, 0⟩) := by kernel_rfl
  have h5 : mustR [m_lb] ⟨headT.drop 3 ++ mid, 0, 0, 0⟩ = (1, ⟨mid, 0, 0, 0⟩) := by kernel_rfl
  have hi : inR 4 1 ⟨mid, 0, 0, 0⟩ = (rs, [], s6) := by
    unfold inR
    rw [if_neg (by omega)]
    show ((rulesR mid.length [] ⟨mid, 0, 0, 0⟩).1, [], (rulesR mid.length [] ⟨mid, 0, 0, 0⟩).2) = _
    rw [h6]
  exact polR_eq 4 _ h0 h1 h2 h3 h4 h5 hi h7 h8
def rulesP (f : Nat → Bool) (n : Nat) : Pol := .mk ⟨#[112]⟩ false 3 [] ((List.range n).map fun i => (⟨nmR i, f i, [], [], []⟩ : Rul)) [] []
theorem rulesP_0 (f : Nat → Bool) : rightE (rulesP f 0) = 0 := by kernel_rfl
theorem rulesP_1 (f : Nat → Bool) : rightE (rulesP f 1) = 0 := by kernel_rfl
theorem rulesP_2 (f : Nat → Bool) : rightE (rulesP f 2) = 0 := by kernel_rfl
theorem rulesP_3 (f : Nat → Bool) : rightE (rulesP f 3) = 0 := by kernel_rfl
theorem rulesP_4 (f : Nat → Bool) : rightE (rulesP f 4) = 0 := by kernel_rfl
theorem rulesP_5 (f : Nat → Bool) : rightE (rulesP f 5) = 0 := by kernel_rfl
theorem rulesP_6 (f : Nat → Bool) : rightE (rulesP f 6) = 0 := by kernel_rfl
theorem rulesP_7 (f : Nat → Bool) : rightE (rulesP f 7) = 0 := by kernel_rfl
theorem rulesP_8 (f : Nat → Bool) : rightE (rulesP f 8) = 0 := by kernel_rfl
theorem rulesP_9 (f : Nat → Bool) : rightE (rulesP f 9) = 0 := by kernel_rfl
theorem rulesP_10 (f : Nat → Bool) : rightE (rulesP f 10) = 0 := by kernel_rfl
theorem rulesP_11 (f : Nat → Bool) : rightE (rulesP f 11) = 0 := by kernel_rfl
theorem rulesP_12 (f : Nat → Bool) : rightE (rulesP f 12) = 0 := by kernel_rfl
theorem rulesP_13 (f : Nat → Bool) : rightE (rulesP f 13) = 0 := by kernel_rfl
theorem rulesP_14 (f : Nat → Bool) : rightE (rulesP f 14) = 0 := by kernel_rfl
theorem rulesP_15 (f : Nat → Bool) : rightE (rulesP f 15) = 0 := by kernel_rfl
theorem rulesP_16 (f : Nat → Bool) : rightE (rulesP f 16) = 0 := by kernel_rfl
theorem rulesP_right (f : Nat → Bool) {n : Nat} (hn : n ≤ 16) : rightE (rulesP f n) = 0 := by
  have h : n = 0 ∨ n = 1 ∨ n = 2 ∨ n = 3 ∨ n = 4 ∨ n = 5 ∨ n = 6 ∨ n = 7 ∨ n = 8 ∨ n = 9 ∨ n = 10 ∨ n = 11 ∨ n = 12 ∨ n = 13 ∨ n = 14 ∨ n = 15 ∨ n = 16 := by omega
  rcases h with h | h | h | h | h | h | h | h | h | h | h | h | h | h | h | h | h <;> subst h
  · exact rulesP_0 f
  · exact rulesP_1 f
  · exact rulesP_2 f
  · exact rulesP_3 f
  · exact rulesP_4 f
  · exact rulesP_5 f
  · exact rulesP_6 f
  · exact rulesP_7 f
  · exact rulesP_8 f
  · exact rulesP_9 f
  · exact rulesP_10 f
  · exact rulesP_11 f
  · exact rulesP_12 f
  · exact rulesP_13 f
  · exact rulesP_14 f
  · exact rulesP_15 f
  · exact rulesP_16 f
def closeT (m : Nat) : List Tk := [⟨6, (m : Int) + 1, 0, m_rb⟩, ⟨7, (m : Int) + 2, 0, ⟨#[]⟩⟩]
theorem rules_readOK (f : Nat → Bool) {n : Nat} (hn : n ≤ 16) {s : ByteArray} (hs : s.size ≤ 4096) (h : s.data.toList = rulesT f n ++ [32, 125]) : parseR s = (rulesP f n, 0, 0) := by
  have hl := lex_whole f (n := n) (by omega)
  rw [← h] at hl
  change lexB s.data.toList 0 = .ok (headT ++ (midT f n ++ closeT (rulesT f n).length)) at hl
  have hlen : (midT f n ++ closeT (rulesT f n).length).length = (2 * n + 2) + n := by rw [List.length_append, midT_len]; show 3 * n + 2 = _; omega
  have hr : rulesR (midT f n ++ closeT (rulesT f n).length).length [] ⟨midT f n ++ closeT (rulesT f n).length, 0, 0, 0⟩ =
      ((List.range n).map fun i => (⟨nmR i, f i, [], [], []⟩ : Rul), ⟨closeT (rulesT f n).length, 0 + n, 0, 0⟩) := by
    rw [hlen, midT_eq]
    have := rules_run ((List.range n).map (spR f)) (2 * n + 2) 0 [] (closeT (rulesT f n).length) rfl (by simp; omega)
    rw [List.length_map, List.length_range] at this
    rw [this]
    have e : ([] : List Rul) ++ ((List.range n).map (spR f)).map SpR.rul = (List.range n).map fun i => (⟨nmR i, f i, [], [], []⟩ : Rul) := by
      rw [List.nil_append, List.map_map]
      rfl
    rw [e]
    show rulesR (2 * n + 1 + 1) _ _ = _
    conv => lhs; unfold rulesR
    rw [if_pos (by kernel_rfl)]
  have hp := pol_head hr (s7 := ⟨(closeT (rulesT f n).length).drop 1, 0 + n, 0, 0⟩) (s8 := ⟨(closeT (rulesT f n).length).drop 1, 0 + n, 0, 0⟩) (e := 1) (o := []) (by kernel_rfl) (by kernel_rfl)
  exact parseR_of hs hl (by rw [hp]; rfl) (by rw [hp]; rfl) (rulesP_right f hn)
theorem rules_readBig (f : Nat → Bool) {n : Nat} (hn : 16 < n) (hn2 : n ≤ 20) {s : ByteArray} (hs : s.size ≤ 4096) (h : s.data.toList = rulesT f n ++ [32, 125]) : parseR s = (noPol, 6, ((rulesT f 16).length : Int) + 1) := by
  have hl := lex_whole f (n := n) (by omega)
  rw [← h] at hl
  obtain ⟨k, rfl⟩ : ∃ k, n = 17 + k := ⟨n - 17, by omega⟩
  obtain ⟨more, hm⟩ := midT_more f k
  obtain ⟨mid, hmid⟩ : ∃ mid, mid = midT f (17 + k) ++ [⟨6, ((rulesT f (17 + k)).length : Int) + 1, 0, m_rb⟩, ⟨7, ((rulesT f (17 + k)).length : Int) + 2, 0, ⟨#[]⟩⟩] := ⟨_, rfl⟩
  rw [← hmid] at hl
  obtain ⟨rest, hmid2⟩ : ∃ rest, mid = midT f 16 ++ (rtoks (f 16) (nmR 16) (((rulesT f 16).length : Int) + 1) ++ rest) := ⟨more ++ _, by rw [hmid, hm, List.append_assoc, List.append_assoc]⟩
  have hlen : ∃ j, mid.length = (j + 1) + 16 := ⟨mid.length - 17, by have : mid.length = 3 * (17 + k) + 2 := by rw [hmid, List.length_append, midT_len]; rfl
                                                                     omega⟩
  obtain ⟨j, hj⟩ := hlen
  have hr := rules_run ((List.range 16).map (spR f)) (j + 1) 0 [] (rtoks (f 16) (nmR 16) (((rulesT f 16).length : Int) + 1) ++ rest) rfl (by simp)
  rw [List.length_map, List.length_range, ← midT_eq, ← hmid2, ← hj] at hr
  have hf := rules_full (n := j) (l := [] ++ ((List.range 16).map (spR f)).map SpR.rul) (f 16) (nmR 16) (((rulesT f 16).length : Int) + 1) rest (by simp)
  obtain ⟨rs, s6, h6⟩ := pair_eq (rulesR mid.length [] ⟨mid, 0, 0, 0⟩)
  obtain ⟨e, s7, h7⟩ := pair_eq (mustR [m_rb] s6)
  obtain ⟨o, s8, h8⟩ := pair_eq (dutsR s7)
  have hp := pol_head h6 h7 h8
  have hs6 : s6.err = 6 ∧ s6.at_ = ((rulesT f 16).length : Int) + 1 := by
    have e6 : s6 = (rulesR mid.length [] ⟨mid, 0, 0, 0⟩).2 := by rw [h6]
    rw [e6, hr]
    exact hf
  have k7 : Kp s6 s7 := by have := kp_must [m_rb] s6; rwa [h7] at this
  have k8 : Kp s7 s8 := by have := kp_duts s7; rwa [h8] at this
  obtain ⟨z, hz⟩ : ∃ z, endR s8 = z := ⟨_, rfl⟩
  have kz : Kp s8 z := hz ▸ kp_end s8
  obtain ⟨a, c⟩ := ((k7.trans k8).trans kz) (by rw [hs6.1]; omega)
  rw [parseR_ok hs hl hp hz, if_neg (by rw [a, hs6.1]; omega), a, c, hs6.1, hs6.2]
theorem rulesT_len (f : Nat → Bool) : ∀ n, (rulesT f n).length ≤ 16 + 11 * n
  | 0 => Nat.le_refl _
  | n + 1 => by
    show (rulesT f n ++ 32 :: ruleT (f n) n).length ≤ _
    have := rulesT_len f n
    rw [List.length_append]
    cases f n <;> simp [ruleT, rwB] <;> omega
end Go.Proofs.Ythppdgiobflfpaa
