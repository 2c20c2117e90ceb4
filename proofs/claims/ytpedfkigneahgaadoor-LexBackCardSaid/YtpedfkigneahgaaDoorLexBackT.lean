/- Small facts for LexBack's walk. -/
import Derived.Test.YtpedfkigneahgaaDoorLexWrite
namespace Go.Proofs.YtpedfkigneahgaaDoor
set_option linter.unusedVariables false
open Go.RowKit

theorem tok_small {t : Tk} (h : t.again) (hw : t.w.length ≤ 400) : t.s.size ≤ 1000000 := by
  obtain ⟨k, p, n, s⟩ := t
  have hd : (⟨k, p, n, s⟩ : Tk).l.length = s.size := data_len s
  have ho := tok_ok h
  dsimp only at ho ⊢
  rcases ho with ⟨rfl, rfl⟩ | ⟨rfl, hl, hn⟩ | ⟨rfl, hl, hn⟩ | ⟨rfl, rfl, hl⟩ | ⟨rfl, rfl, hl⟩ | ⟨rfl, rfl⟩
  · have e : (⟨1, p, 0, s⟩ : Tk).w = (⟨1, p, 0, s⟩ : Tk).l := rfl
    rw [e] at hw; omega
  · rw [hl] at hd; simp at hd; omega
  · rw [hl] at hd; simp at hd; omega
  · have := hl.1.2; omega
  · omega
  · have e : (⟨6, p, 0, s⟩ : Tk).w = (⟨6, p, 0, s⟩ : Tk).l := rfl
    rw [e] at hw; omega
theorem wrL_mem (g : Nat) : ∀ {us : List Tk} {t : Tk}, t ∈ us → t.w.length ≤ (wrL g us).length
  | x :: r, t, h => by
    have e : (wrL g (x :: r)).length = (x.w ++ List.replicate g 32 ++ wrL g r).length := rfl
    rw [e, List.length_append, List.length_append]
    rcases List.mem_cons.1 h with rfl | h
    · omega
    · have := wrL_mem g h; omega
theorem wrL_take (g : Nat) : ∀ (us : List Tk) (k : Nat), (wrL g (us.take k)).length ≤ (wrL g us).length
  | [], k => by simp
  | x :: r, 0 => Nat.zero_le _
  | x :: r, k + 1 => by
    have := wrL_take g r k
    show (x.w ++ List.replicate g 32 ++ wrL g (r.take k)).length ≤ (x.w ++ List.replicate g 32 ++ wrL g r).length
    rw [List.length_append, List.length_append (bs := wrL g r)]
    omega
theorem wrL_step (g : Nat) {us : List Tk} {k : Nat} {t : Tk} (h : us[k]? = some t) : wrL g (us.take (k + 1)) = wrL g (us.take k) ++ t.w ++ List.replicate g 32 := by
  obtain ⟨hl, e⟩ := List.getElem?_eq_some_iff.1 h
  rw [List.take_succ_eq_append_getElem hl, e, wrL_app, List.append_assoc]
  congr 1
  show t.w ++ List.replicate g 32 ++ [] = _
  simp
theorem text_step (g : Nat) {us : List Tk} {k : Nat} {t : Tk} (h : us[k]? = some t) {x : ByteArray} (hx : x = ⟨(wrL g (us.take k)).toArray⟩) : x ++ ⟨t.w.toArray⟩ ++ ⟨Array.replicate g 32⟩ = (⟨(wrL g (us.take (k + 1))).toArray⟩ : ByteArray) := by
  rw [hx, show (Array.replicate g 32 : Array UInt8) = (List.replicate g 32).toArray by simp, str_add, str_add, wrL_step g h]
theorem ats_step (g : Nat) {us : List Tk} {k : Nat} {x : ByteArray} (hx : x = ⟨(wrL g (us.take k)).toArray⟩) : ((List.range k).map fun j => Value.int .i64 ((wrL g (us.take j)).length : Int)) ++ [Value.int .i64 (x.size : Int)] = (List.range (k + 1)).map fun j => Value.int .i64 ((wrL g (us.take j)).length : Int) := by
  rw [List.range_succ, List.map_append]
  congr 1
  rw [hx]
  show [Value.int .i64 (((wrL g (us.take k)).toArray.size : Nat) : Int)] = _
  simp
end Go.Proofs.YtpedfkigneahgaaDoor
