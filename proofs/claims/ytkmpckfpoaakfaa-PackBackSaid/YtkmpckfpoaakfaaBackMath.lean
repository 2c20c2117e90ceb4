/- Items as bytes, and how a reader goes through them, whole or cut short. -/
import Derived.Test.YtkmpckfpoaakfaaLaws
namespace Go.Proofs.Ytkmpckfpoaakfaa
set_option linter.unusedVariables false

theorem read_num {n : Int} (h1 : -9223372036854775808 ≤ n) (h2 : n ≤ 9223372036854775807) (pre post : List UInt8) (kk : Nat) (hk : pre.length ≤ kk) :
    (pre.length + (numB n).length ≤ kk ∧ rNum ((pre ++ numB n ++ post).take kk) pre.length 0 = (n, pre.length + (numB n).length, 0)) ∨
    (kk < pre.length + (numB n).length ∧ (rNum ((pre ++ numB n ++ post).take kk) pre.length 0) = (0, pre.length, 7)) := by
  rcases Nat.lt_or_ge kk (pre.length + (numB n).length) with h | h
  · right
    refine ⟨h, rNum_none ?_⟩
    rw [List.append_assoc, List.take_append, List.take_of_length_le hk, List.drop_left, List.take_append_of_le_length (by omega)]
    exact dec_cut _ _ _ _ (by unfold numB at h; omega)
  · left
    refine ⟨h, ?_⟩
    rw [List.take_append, List.take_of_length_le (by rw [List.length_append]; exact h)]
    exact rNum_numB h1 h2 _ _

theorem read_text {s : List UInt8} (hs : s.length ≤ 40) (pre post : List UInt8) (kk : Nat) (hk : pre.length ≤ kk) :
    (pre.length + (textB s).length ≤ kk ∧ rText ((pre ++ textB s ++ post).take kk) pre.length 0 40 = (s, pre.length + (textB s).length, 0)) ∨
    (kk < pre.length + (textB s).length ∧ (rText ((pre ++ textB s ++ post).take kk) pre.length 0 40).2.2 = 7) := by
  have hr := read_num (n := (s.length : Int)) (by omega) (by omega) pre (s ++ post) kk hk
  have e0 : pre ++ textB s ++ post = pre ++ numB (s.length : Int) ++ (s ++ post) := by unfold textB; simp [List.append_assoc]
  have hl : (textB s).length = (numB (s.length : Int)).length + s.length := by unfold textB; simp
  rw [← e0] at hr
  generalize hL : (pre ++ textB s ++ post).take kk = L at *
  rcases hr with ⟨h1, h2⟩ | ⟨h1, h2⟩
  · have hin : rIn L pre.length 0 0 40 = ((s.length : Int), pre.length + (numB (s.length : Int)).length, 0) := by
      unfold rIn; rw [h2, if_neg (by simp), if_neg (by omega)]
    have hLlen : L.length = min kk (pre.length + (textB s).length + post.length) := by rw [← hL]; simp only [List.length_take, List.length_append]
    rcases Nat.lt_or_ge kk (pre.length + (textB s).length) with h | h
    · right
      refine ⟨h, ?_⟩
      unfold rText
      rw [hin, if_neg (by simp), if_pos (by simp only; omega)]
    · left
      refine ⟨h, ?_⟩
      unfold rText
      rw [hin, if_neg (by simp), if_neg (by simp only; omega)]
      have e1 : L = (pre ++ numB (s.length : Int)) ++ (s ++ post.take (kk - (pre.length + (textB s).length))) := by
        rw [← hL, List.take_append, List.take_of_length_le (by rw [List.length_append]; exact h), List.length_append]
        unfold textB; simp [List.append_assoc]
      have e2 : L.drop (pre.length + (numB (s.length : Int)).length) = s ++ post.take (kk - (pre.length + (textB s).length)) := by
        rw [e1, ← List.length_append, List.drop_left]
      simp only [e2, Int.toNat_natCast, List.take_left]
      rw [hl]
      simp only [Prod.mk.injEq, true_and, and_true]
      omega
  · right
    refine ⟨by omega, ?_⟩
    unfold rText rIn
    rw [h2]
    simp

/-- An item: a text, or a number. -/
def itemB (it : Bool × Int × ByteArray) : List UInt8 := if it.1 then textB (it.2.2.data.toList.take 40) else numB it.2.1
def itemsB (l : List (Bool × Int × ByteArray)) : List UInt8 := l.flatMap itemB
theorem itemsB_step {l : List (Bool × Int × ByteArray)} {k : Nat} (h : k < l.length) : itemsB (l.take (k + 1)) = itemsB (l.take k) ++ itemB l[k] := by
  unfold itemsB
  rw [List.take_succ_eq_append_getElem h]; simp only [List.flatMap_append, List.flatMap_cons, List.flatMap_nil, List.append_nil]
theorem itemsB_split {l : List (Bool × Int × ByteArray)} {k : Nat} (h : k < l.length) : itemsB l = itemsB (l.take k) ++ itemB l[k] ++ itemsB (l.drop (k + 1)) := by
  have e : l = l.take k ++ l[k] :: l.drop (k + 1) := by rw [← List.drop_eq_getElem_cons h, List.take_append_drop]
  conv => lhs; rw [e]
  unfold itemsB
  simp only [List.flatMap_append, List.flatMap_cons, List.append_assoc]
theorem itemB_le {it : Bool × Int × ByteArray} (h1 : -9223372036854775808 ≤ it.2.1) (h2 : it.2.1 ≤ 9223372036854775807) : (itemB it).length ≤ 50 := by
  unfold itemB
  split
  · unfold textB
    rw [List.length_append]
    have h3 : (it.2.2.data.toList.take 40).length ≤ 40 := List.length_take_le _ _
    have := numB_len (n := ((it.2.2.data.toList.take 40).length : Int)) (by omega) (by omega)
    omega
  · have := numB_len h1 h2
    omega

/-- A text cut at forty bytes. -/
def cut40 (s : ByteArray) : ByteArray := if s.size ≤ 40 then s else s.extract 0 40
theorem cut40_data (s : ByteArray) : (cut40 s).data.toList = s.data.toList.take 40 := by
  unfold cut40
  split
  · rename_i h
    rw [List.take_of_length_le (by rw [Array.length_toList]; exact h)]
  · simp [ByteArray.data_extract, Array.toList_extract, List.extract]
theorem cut40_size (s : ByteArray) : (cut40 s).size ≤ 40 := by
  unfold cut40
  split
  · assumption
  · rw [ByteArray.size_extract]; omega
theorem cut40_mk (s : ByteArray) : (⟨(s.data.toList.take 40).toArray⟩ : ByteArray) = cut40 s := by
  rw [← cut40_data]

/-- What the reader of the cut bytes is, behind some items: wrong, or where the other one is. -/
def CutAt (kk P : Nat) (p : Nat) (q : Int) : Prop := q = 7 ∨ (q = 0 ∧ p = P ∧ P ≤ kk)
theorem cut_step {l : List (Bool × Int × ByteArray)} {k kk p : Nat} {q : Int} (h : k < l.length) (hb : -9223372036854775808 ≤ l[k].2.1 ∧ l[k].2.1 ≤ 9223372036854775807) (hc : CutAt kk (itemsB (l.take k)).length p q) :
    (l[k].1 = true → CutAt kk (itemsB (l.take (k + 1))).length (rText ((itemsB l).take kk) p q 40).2.1 (rText ((itemsB l).take kk) p q 40).2.2) ∧
    (l[k].1 = false → CutAt kk (itemsB (l.take (k + 1))).length (rNum ((itemsB l).take kk) p q).2.1 (rNum ((itemsB l).take kk) p q).2.2) := by
  rw [itemsB_step h, itemsB_split h, List.length_append]
  rcases hc with rfl | ⟨rfl, rfl, hp⟩
  · refine ⟨fun _ => .inl ?_, fun _ => .inl ?_⟩
    · unfold rText rIn; rw [rNum_bad (by simp)]; simp
    · rw [rNum_bad (by simp)]
  · refine ⟨fun ht => ?_, fun ht => ?_⟩
    · have e : itemB l[k] = textB (l[k].2.2.data.toList.take 40) := by unfold itemB; rw [if_pos ht]
      rw [e]
      rcases read_text (s := l[k].2.2.data.toList.take 40) (List.length_take_le _ _) (itemsB (l.take k)) (itemsB (l.drop (k + 1))) kk hp with ⟨a, b⟩ | ⟨a, b⟩
      · rw [b]; exact .inr ⟨rfl, rfl, a⟩
      · exact .inl b
    · have e : itemB l[k] = numB l[k].2.1 := by unfold itemB; rw [if_neg (by simp [ht])]
      rw [e]
      rcases read_num hb.1 hb.2 (itemsB (l.take k)) (itemsB (l.drop (k + 1))) kk hp with ⟨a, b⟩ | ⟨a, b⟩
      · rw [b]; exact .inr ⟨rfl, rfl, a⟩
      · rw [b]; exact .inl rfl

theorem whole_step {l : List (Bool × Int × ByteArray)} {k : Nat} (h : k < l.length) (hb : -9223372036854775808 ≤ l[k].2.1 ∧ l[k].2.1 ≤ 9223372036854775807) :
    (l[k].1 = true → rText (itemsB l) (itemsB (l.take k)).length 0 40 = (l[k].2.2.data.toList.take 40, (itemsB (l.take (k + 1))).length, 0)) ∧
    (l[k].1 = false → rNum (itemsB l) (itemsB (l.take k)).length 0 = (l[k].2.1, (itemsB (l.take (k + 1))).length, 0)) := by
  have hlen : (itemsB l).length = (itemsB (l.take k)).length + (itemB l[k]).length + (itemsB (l.drop (k + 1))).length := by
    rw [itemsB_split h, List.length_append, List.length_append]
  have hcut : (itemsB l).take (itemsB l).length = itemsB l := List.take_length
  rw [itemsB_step h, List.length_append]
  refine ⟨fun ht => ?_, fun ht => ?_⟩
  · have e : itemB l[k] = textB (l[k].2.2.data.toList.take 40) := by unfold itemB; rw [if_pos ht]
    have := read_text (s := l[k].2.2.data.toList.take 40) (List.length_take_le _ _) (itemsB (l.take k)) (itemsB (l.drop (k + 1))) (itemsB l).length (by omega)
    rw [← e, ← itemsB_split h, hcut] at this
    rcases this with ⟨_, b⟩ | ⟨a, _⟩
    · exact b
    · omega
  · have e : itemB l[k] = numB l[k].2.1 := by unfold itemB; rw [if_neg (by simp [ht])]
    have := read_num hb.1 hb.2 (itemsB (l.take k)) (itemsB (l.drop (k + 1))) (itemsB l).length (by omega)
    rw [← e, ← itemsB_split h, hcut] at this
    rcases this with ⟨_, b⟩ | ⟨a, _⟩
    · exact b
    · omega
end Go.Proofs.Ytkmpckfpoaakfaa
