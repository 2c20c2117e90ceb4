/- LexLong: the walk. -/
import Derived.Test.YtpedfkigneahgaaLexRuns
import Derived.Test.YtpedfkigneahgaaLexLaws
import Derived.Test.YtpedfkigneahgaaWithin
namespace Go.Proofs.Ytpedfkigneahgaa
set_option linter.unusedVariables false
open Go.RowKit

/-- What is set together: so often. -/
def pat : List UInt8 := [97, 98, 99, 100, 101, 102, 103, 104, 105, 106, 40, 49, 50, 46, 97, 32]
def repP : Nat → List UInt8
  | 0 => []
  | n + 1 => pat ++ repP n
theorem repP_snoc : ∀ n, repP n ++ pat = repP (n + 1)
  | 0 => rfl
  | n + 1 => by show pat ++ repP n ++ pat = pat ++ repP (n + 1); rw [List.append_assoc, repP_snoc n]
theorem repP_len : ∀ n, (repP n).length = 16 * n
  | 0 => rfl
  | n + 1 => by show (pat ++ repP n).length = _; rw [List.length_append, repP_len n]; show 16 + _ = _; omega
theorem pat_lex (y : List UInt8) (p : Nat) : ∃ ts, lexB (pat ++ y) p = cat ts (lexB y (p + 16)) := by
  show ∃ ts, lexB ([97, 98, 99, 100, 101, 102, 103, 104, 105, 106] ++ [40, 49, 50, 46, 97, 32] ++ y) p = _
  have t1 : tokB [97, 98, 99, 100, 101, 102, 103, 104, 105, 106, 40, 49, 50, 46, 97] = some (1, 0, [97, 98, 99, 100, 101, 102, 103, 104, 105, 106], 10) := by decide +kernel
  have t2 : tokB [40, 49, 50, 46, 97] = some (6, 0, [40], 1) := by decide +kernel
  have t3 : tokB [49, 50, 46, 97] = some (2, 12, [], 2) := by decide +kernel
  have t4 : tokB [46, 97] = some (6, 0, [46], 1) := by decide +kernel
  have t5 : tokB [97] = some (1, 0, [97], 1) := by decide +kernel
  have key : ∃ ts, lexB [97, 98, 99, 100, 101, 102, 103, 104, 105, 106, 40, 49, 50, 46, 97] p = .ok ts := by
    rw [lexB_tok (by decide) t1]
    show ∃ ts, cat _ (lexB [40, 49, 50, 46, 97] (p + 10)) = _
    rw [lexB_tok (by decide) t2]
    show ∃ ts, cat _ (cat _ (lexB [49, 50, 46, 97] (p + 10 + 1))) = _
    rw [lexB_tok (by decide) t3]
    show ∃ ts, cat _ (cat _ (cat _ (lexB [46, 97] (p + 10 + 1 + 2)))) = _
    rw [lexB_tok (by decide) t4]
    show ∃ ts, cat _ (cat _ (cat _ (cat _ (lexB [97] (p + 10 + 1 + 2 + 1))))) = _
    rw [lexB_tok (by decide) t5]
    show ∃ ts, cat _ (cat _ (cat _ (cat _ (cat _ (lexB [] (p + 10 + 1 + 2 + 1 + 1)))))) = _
    rw [lexB_nil]
    exact ⟨_, rfl⟩
  obtain ⟨ts, h⟩ := key
  exact ⟨ts.dropLast, lexB_join (x := 32) (.inl rfl) h⟩
theorem rep_lex : ∀ (n p : Nat), ∃ ts, lexB (repP n) p = .ok ts
  | 0, p => ⟨_, lexB_nil p⟩
  | n + 1, p => by
    obtain ⟨ts, h⟩ := pat_lex (repP n) p
    obtain ⟨us, h2⟩ := rep_lex n (p + 16)
    exact ⟨ts ++ us, by show lexB (pat ++ repP n) p = _; rw [h, h2]; rfl⟩

def LRel (v : Value) : Prop := ∃ (i : Nat) (x : ByteArray), i ≤ 256 ∧ v = .string x ∧ x.data.toList = repP i
set_option maxRecDepth 100000 in
set_option maxHeartbeats 1600000 in
theorem lexLong_walk (n : Int) (hn : (Lit.int .i64 n).wf = true) (w : World) : Calls Try.prog 6 #[.int .i64 n] w fun e w' => e = .returned (.bool true) ∧ Below w.heap.size w w' := by
  have hwi := within_any (n := n) (lo := 0) (hi := 3) (w := w) (by omega) (by omega) (by omega)
  have hwl := within_le (n := n) (lo := 0) (hi := 3) (by omega)
  generalize withinOf n 0 3 = k at *
  obtain ⟨kn, rfl⟩ : ∃ kn : Nat, k = (kn : Int) := ⟨k.toNat, by omega⟩
  have HWI := Lib.hid hwi
  have hk3 : kn ≤ 3 := by omega
  have HR := Lib.hid (fun w => lexruns_any w)
  have HST : Hid (LRel (.string ⟨#[]⟩)) := ⟨0, ⟨#[]⟩, by omega, rfl, rfl⟩
  clear hwi hn hwl
  go_enter Try.func6, Try.ntmps6
  go_wp2_with fail
  refine HWI.out.mono ?_
  rintro e w1 ⟨rfl, rfl⟩
  go_wp2_with fail
  go_loop [4] (fun v => LRel v) (fun v => match v with | .string x => 4096 - x.size | _ => 0)
  case atStart => exact HST.out
  case round =>
    obtain ⟨i, x, hi, rfl, hx⟩ := hrel
    have hsz : x.size = 16 * i := by rw [← data_len, hx, repP_len]
    have HX := Lib.hid hx
    have HSZ := Lib.hid hsz
    clear hx
    by_cases hlt : i < 256
    · have hc : (x.size : Int) + 16 ≤ 4096 := by omega
      have hl2 : ¬ (9223372036854775807 : Int) < (x.size : Int) + 16 := by omega
      clear hsz
      go_wp2_with fail
      go_round
      case rel => exact ⟨i + 1, _, by omega, rfl, by rw [ByteArray.data_append, Array.toList_append, HX.out]; exact repP_snoc i⟩
      case measure =>
        have := HSZ.out
        show 4096 - (x ++ _ : ByteArray).size < 4096 - x.size
        rw [ByteArray.size_append]
        show 4096 - (x.size + 16) < _
        omega
    · obtain rfl : i = 256 := by omega
      have hsz2 : x.size = 4096 := by omega
      obtain ⟨ts, hts⟩ := rep_lex 256 0
      have H1 := Lib.hid (fun w => all_any x (by omega) w)
      rw [HX.out, hts] at H1
      have hx0 : x ++ (⟨#[]⟩ : ByteArray) = x := by
        apply ByteArray.ext
        simp [ByteArray.data_append]
      have HY : Hid (∀ q : Nat, 1 ≤ q → q ≤ 4 → ∀ w, Calls Try.prog 8 #[.string (x ++ (⟨#[32, 32, 32, 32]⟩ : ByteArray).extract 0 q)] w fun e w' => e = .returned (.tuple #[.slice none 0 0, .int .i64 6, .int .i64 4096]) ∧ w' = w) := Lib.hid fun q h1 h2 w => by
        have hs4 : ((⟨#[32, 32, 32, 32]⟩ : ByteArray).extract 0 q).size = q := by rw [ByteArray.size_extract]; show min q 4 - 0 = q; omega
        exact all_big _ (by rw [ByteArray.size_append, hs4]; omega) (by rw [ByteArray.size_append, hs4]; unfold maxLen; omega) w
      have HX0 := Lib.hid hx0
      clear hsz hts hx0
      go_wp2_with fail
      refine (H1.out _).mono ?_
      rintro e w2 ⟨A, m, c, rfl, ho, hb⟩
      have HB := Lib.hid hb
      clear ho hb
      have hq1 : (1 : Int) + (kn : Int) ≤ 4 := by omega
      have hq2 : (0 : Int) ≤ 1 + (kn : Int) := by omega
      have hq3 : ((1 : Int) + (kn : Int)).toNat = 1 + kn := by omega
      go_wp2_with fail
      refine (HY.out (1 + kn) (by omega) (by omega) _).mono ?_
      rintro e w3 ⟨rfl, rfl⟩
      go_wp2_with fail
      refine (HR.out _).mono ?_
      rintro e w4 ⟨rfl, hb4⟩
      go_wp2_with fail
      go_ret
      exact ⟨rfl, HB.out.trans (hb4.mono HB.out.size)⟩
end Go.Proofs.Ytpedfkigneahgaa
