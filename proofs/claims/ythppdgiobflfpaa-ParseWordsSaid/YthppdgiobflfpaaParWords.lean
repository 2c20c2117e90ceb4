/- ParseWords, plainly: words may be names. -/
import Derived.Test.YthppdgiobflfpaaParToks
namespace Go.Proofs.Ythppdgiobflfpaa
set_option linter.unusedVariables false

/-- The law's text, of four names. -/
def wordsT (x c y d : List UInt8) : List UInt8 :=
  [112, 111, 108, 105, 99, 121] ++ 32 :: (x ++ 32 :: ([102, 105, 114, 115, 116] ++ 32 :: ([119, 104, 101, 110] ++ 32 :: 40 :: ([99, 97, 115, 101] ++ 46 :: (c ++ 32 :: 61 :: 32 :: 49 :: 41 :: 32 :: 123 :: 32 :: ([100, 101, 110, 121] ++ 32 :: (y ++ 32 :: ([111, 110] ++ 32 :: ([100, 101, 110, 121] ++ 32 :: ([110, 111, 116, 105, 102, 121] ++ 32 :: (d ++ 59 :: 32 :: 125 :: [])))))))))))
def wordsZ (x c y d : ByteArray) : List Tk :=
  [tName w_policy, tName x, tName w_first, tName w_when, tMark 40, tName w_case, tMark 46, tName c, tMark 61, ⟨2, 0, 1, ⟨#[]⟩⟩, tMark 41, tMark 123, tName w_deny, tName y, tName w_on, tName w_deny, tName w_notify, tName d, tMark 59, tMark 125, tEnd]
theorem words_z {x c y d : List UInt8} (hx : Named x) (hc : Named c) (hy : Named y) (hd : Named d) : Zx (wordsT x c y d) (wordsZ ⟨x.toArray⟩ ⟨c.toArray⟩ ⟨y.toArray⟩ ⟨d.toArray⟩) := by
  have i32 : inm 32 = false := by decide
  have e1 : Zx (d ++ 59 :: 32 :: 125 :: []) _ := (Zx.m59 (Zx.sp (Zx.m125 Zx.nil))).name hd (by decide)
  have e2 := ((e1.sp.name (nm := [110, 111, 116, 105, 102, 121]) (by decide) i32).sp.name (nm := [100, 101, 110, 121]) (by decide) i32).sp.name (nm := [111, 110]) (by decide) i32
  have e3 := ((e2.sp.name hy i32).sp.name (nm := [100, 101, 110, 121]) (by decide) i32).sp.m123.sp.m41
  have e4 : Zx (49 :: 41 :: 32 :: 123 :: 32 :: ([100, 101, 110, 121] ++ 32 :: (y ++ 32 :: ([111, 110] ++ 32 :: ([100, 101, 110, 121] ++ 32 :: ([110, 111, 116, 105, 102, 121] ++ 32 :: (d ++ 59 :: 32 :: 125 :: []))))))) _ := Zx.tok (k := 2) (n := 1) (s := []) (m := 1) (by decide) rfl e3
  have e5 := (e4.sp.m61.sp.name hc i32).m46.name (nm := [99, 97, 115, 101]) (by decide) (by decide)
  exact ((e5.m40.sp.name (nm := [119, 104, 101, 110]) (by decide) i32).sp.name (nm := [102, 105, 114, 115, 116]) (by decide) i32).sp.name hx i32 |>.sp.name (nm := [112, 111, 108, 105, 99, 121]) (by decide) i32
def wordsP (x c y d : ByteArray) : Pol := .mk x false 3 [[[⟨⟨3, c, false⟩, 1, ⟨2, 1, ⟨#[]⟩⟩⟩]]] [⟨y, true, [], [], [⟨2, 4, d⟩]⟩] [] []
theorem words_p (x c y d : ByteArray) : polR 5 ⟨wordsZ x c y d, 0, 0, 0⟩ = (wordsP x c y d, ⟨[tEnd], 1, 0, 0⟩) := by kernel_rfl
theorem words_r {x c y d : ByteArray} (hx : Named (bl x)) (hc : Named (bl c)) (hy : Named (bl y)) (hd : Named (bl d)) (hne : x ≠ y) : rightE (wordsP x c y d) = 0 := by
  have h1 : idS x ⟨[], 0⟩ = some ⟨[x], 0⟩ := by unfold idS; rw [if_pos ⟨hx, rfl⟩]; rfl
  have h2 : idS y ⟨[x], 0⟩ = some ⟨[x, y], 0⟩ := by unfold idS; rw [if_pos ⟨hy, by simp [metB, hne]⟩]; rfl
  have h3 : tgE [[[⟨⟨3, c, false⟩, 1, ⟨2, 1, ⟨#[]⟩⟩⟩]]] = 0 := by
    have : matE ⟨⟨3, c, false⟩, 1, ⟨2, 1, ⟨#[]⟩⟩⟩ = 0 := by
      unfold matE
      have ha : attrB ⟨3, c, false⟩ = true := by unfold attrB; rw [decide_eq_true hc]; rfl
      rw [if_pos ⟨ha, by show (1 : Int) ≤ 1; omega, by show (1 : Int) ≤ 3; omega, show (⟨2, 1, ⟨#[]⟩⟩ : Vl).right from by decide⟩]
    simp [tgE, firstE, anyE, allE, partsE, this]
  have h4 : obE [⟨2, 4, d⟩] = 0 := by
    have : dutE ⟨2, 4, d⟩ = 0 := by
      unfold dutE
      rw [if_pos ⟨.inr rfl, by show (1 : Int) ≤ 4; omega, by show (4 : Int) ≤ 4; omega, hd⟩]
    simp [obE, firstE, this]
  have h5 : ruleS ⟨y, true, [], [], [⟨2, 4, d⟩]⟩ ⟨[x], 0⟩ = (0, ⟨[x, y], 1⟩) := by
    unfold ruleS
    rw [h2]
    simp only
    rw [if_neg (by omega), h4]
    rfl
  have h6 : fitsB (wordsP x c y d) = true := rfl
  have e : polS 4 (wordsP x c y d) ⟨[], 0⟩ = (0, ⟨[x, y], 1⟩) := by
    rw [polS]
    show (match idS x ⟨[], 0⟩ with | none => _ | some s1 => _) = _
    rw [h1]
    simp only [h6]
    show (if _ then _ else if orE (tgE [[[⟨⟨3, c, false⟩, 1, ⟨2, 1, ⟨#[]⟩⟩⟩]]]) (obE []) ≠ 0 then _ else _) = _
    rw [h3]
    show (if (firstS ruleS [⟨y, true, [], [], [⟨2, 4, d⟩]⟩] ⟨[x], 0⟩).1 ≠ 0 then _ else firstS (polS 3) [] (firstS ruleS [⟨y, true, [], [], [⟨2, 4, d⟩]⟩] ⟨[x], 0⟩).2) = _
    have h7 : firstS ruleS [⟨y, true, [], [], [⟨2, 4, d⟩]⟩] ⟨[x], 0⟩ = (0, ⟨[x, y], 1⟩) := by
      unfold firstS
      rw [h5]
      rfl
    rw [h7]
    rfl
  unfold rightE
  rw [e]
/-- The law's words. -/
def wordsL : List ByteArray := [⟨#[112, 111, 108, 105, 99, 121]⟩, ⟨#[115, 101, 116]⟩, ⟨#[119, 104, 101, 110]⟩, ⟨#[105, 102]⟩, ⟨#[111, 110]⟩, ⟨#[97, 110, 100]⟩, ⟨#[111, 114]⟩, ⟨#[112, 101, 114, 109, 105, 116]⟩, ⟨#[100, 101, 110, 121]⟩, ⟨#[108, 111, 103]⟩, ⟨#[115, 117, 98, 106, 101, 99, 116]⟩, ⟨#[116, 114, 117, 101]⟩, ⟨#[110, 111, 116]⟩, ⟨#[120, 49]⟩]
theorem wordsL_named : ∀ u ∈ wordsL, Named (bl u) ∧ Named (bl (u ++ ⟨#[95]⟩)) ∧ u.size ≤ 7 := by decide +kernel
theorem word_ne (u : ByteArray) : u ≠ u ++ ⟨#[95]⟩ := by
  intro h
  have := congrArg ByteArray.size h
  rw [ByteArray.size_append] at this
  have e : (⟨#[95]⟩ : ByteArray).size = 1 := rfl
  omega
theorem bl_eq (s : ByteArray) : (⟨(bl s).toArray⟩ : ByteArray) = s := by
  obtain ⟨⟨l⟩⟩ := s
  rfl
/-- What the law's text is read as. -/
theorem words_read {x c y d s : ByteArray} (hx : Named (bl x)) (hc : Named (bl c)) (hy : Named (bl y)) (hd : Named (bl d)) (hne : x ≠ y) (hs : s.size ≤ 4096) (h : s.data.toList = wordsT (bl x) (bl c) (bl y) (bl d)) : parseR s = (wordsP x c y d, 0, 0) := by
  have hz := words_z hx hc hy hd
  rw [bl_eq, bl_eq, bl_eq, bl_eq, ← h] at hz
  exact hz.read hs (words_p x c y d) rfl (words_r hx hc hy hd hne)
end Go.Proofs.Ythppdgiobflfpaa
