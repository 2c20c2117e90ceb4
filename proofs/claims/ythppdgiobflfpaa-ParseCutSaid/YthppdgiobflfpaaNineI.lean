/- Several texts in one: ParRuns. -/
import Derived.Test.YthppdgiobflfpaaNineA
import Derived.Test.YthppdgiobflfpaaNineH
import Derived.Test.YthppdgiobflfpaaNineC
/- The law ParseRuns: chapter 9's runs. -/
namespace Go.Proofs.Ythppdgiobflfpaa
set_option linter.unusedVariables false
open Go.RowKit

def qOwner : Nod := ⟨2, ⟨0, 0, ⟨#[]⟩⟩, ⟨3, ⟨#[111, 119, 110, 101, 114]⟩, false⟩⟩
def qOne : Nod := ⟨3, ⟨0, 0, ⟨#[]⟩⟩, ⟨0, ⟨#[]⟩, false⟩⟩
def qAnn : Nod := ⟨1, ⟨5, 0, ⟨#[97, 110, 110]⟩⟩, ⟨0, ⟨#[]⟩, false⟩⟩
def qEq : Nod := ⟨6, ⟨0, 0, ⟨#[]⟩⟩, ⟨0, ⟨#[]⟩, false⟩⟩
def runR : Rul := ⟨⟨#[114]⟩, false, [], [qOwner, qOne, qAnn, qEq], []⟩
def runP : Pol := .mk ⟨#[112]⟩ false 1 [] [runR] [] []
theorem run_1 : parseR ⟨#[112, 111, 108, 105, 99, 121, 32, 112, 32, 100, 101, 110, 121, 111, 118, 101, 114, 32, 123, 32, 112, 101, 114, 109, 105, 116, 32, 114, 32, 105, 102, 32, 40, 101, 113, 32, 40, 111, 110, 101, 32, 99, 97, 115, 101, 46, 111, 119, 110, 101, 114, 41, 32, 35, 97, 110, 110, 41, 59, 32, 125]⟩ = (runP, 0, 0) := parse_eval (n := 61) (by kernel_rfl) (by kernel_rfl)
theorem run_2 : parseR ⟨#[112, 111, 108, 105, 99, 121, 32, 112, 32, 100, 101, 110, 121, 111, 118, 101, 114, 32, 123, 32, 112, 101, 114, 109, 105, 116, 32, 114, 32, 125]⟩ = (noPol, 5, 29) := parse_eval (n := 30) (by kernel_rfl) (by kernel_rfl)
theorem run_3 : parseR ⟨#[112, 111, 108, 105, 99, 121, 32, 112, 32, 111, 110, 108, 121, 32, 123, 32, 125]⟩ = (noPol, 5, 17) := parse_eval (n := 17) (by kernel_rfl) (by kernel_rfl)
theorem run_4 : parseR ⟨#[112, 111, 108, 105, 99, 121, 32, 112, 32, 102, 105, 114, 115, 116, 32, 123, 32, 112, 101, 114, 109, 105, 116, 32, 114, 32, 105, 102, 32, 99, 97, 115, 101, 46, 120, 59, 32, 125]⟩ = (noPol, 5, 29) := parse_eval (n := 38) (by kernel_rfl) (by kernel_rfl)
theorem parse_is {w : World} {s : ByteArray} {p : Pol} {e i : Int} (h : parseR s = (p, e, i)) (hs : s.size ≤ maxLen) : Calls Try.prog 10 #[.string s] w fun x w' => ∃ y, x = .returned (.tuple #[y, .int .i64 e, .int .i64 i]) ∧ Below w.heap.size w w' ∧ PolOf w w' 5 p y := by
  have := parse_any (w := w) s hs
  unfold ParseP at this
  rw [h] at this
  exact this
theorem al9 (w : World) (o : Obj) : Below w.heap.size w (w.alloc o) := (Below.refl _ _).alloc (Nat.le_refl _) _
theorem made9 {w W : World} {t : TypeId} {cs : Array Value} {g : Nat} (hb : Below (w.alloc (.cells cs t)).heap.size (w.alloc (.cells cs t)) W) (hg : g = w.heap.size) : Ob W g t cs := by
  subst hg
  exact Ob.below (Ob.made _ _ _) hb (by simp)
/-- What is wanted, as the law lays it. -/
theorem runs_want (w : World) {A1 A2 A3 A4 : Option Addr} {n1 n2 n3 n4 c1 c2 c3 c4 : Nat} :
    Below w.heap.size w ((((w.alloc (.cells #[.string ⟨#[112]⟩, .bool false, .int .i64 1, .slice A1 n1 c1, .slice A2 n2 c2, .slice A3 n3 c3, .slice A4 n4 c4] 28)).alloc (.cells #[.int .i64 2, .int .i64 0, .int .i64 0, .string ⟨#[]⟩, .int .i64 3, .string ⟨#[111, 119, 110, 101, 114]⟩, .bool false, .int .i64 3, .int .i64 0, .int .i64 0, .string ⟨#[]⟩, .int .i64 0, .string ⟨#[]⟩, .bool false, .int .i64 1, .int .i64 5, .int .i64 0, .string ⟨#[97, 110, 110]⟩, .int .i64 0, .string ⟨#[]⟩, .bool false, .int .i64 6, .int .i64 0, .int .i64 0, .string ⟨#[]⟩, .int .i64 0, .string ⟨#[]⟩, .bool false] 37)).alloc (.cells #[.string ⟨#[114]⟩, .bool false, .slice none 0 0, .slice (some ⟨w.heap.size + 1, 0, none⟩) 4 4, .slice none 0 0] 40)).alloc (.cells #[.string ⟨#[112]⟩, .bool false, .int .i64 1, .slice none 0 0, .slice (some ⟨w.heap.size + 1 + 1, 0, none⟩) 1 1, .slice none 0 0, .slice none 0 0] 28)) ∧
    Ob ((((w.alloc (.cells #[.string ⟨#[112]⟩, .bool false, .int .i64 1, .slice A1 n1 c1, .slice A2 n2 c2, .slice A3 n3 c3, .slice A4 n4 c4] 28)).alloc (.cells #[.int .i64 2, .int .i64 0, .int .i64 0, .string ⟨#[]⟩, .int .i64 3, .string ⟨#[111, 119, 110, 101, 114]⟩, .bool false, .int .i64 3, .int .i64 0, .int .i64 0, .string ⟨#[]⟩, .int .i64 0, .string ⟨#[]⟩, .bool false, .int .i64 1, .int .i64 5, .int .i64 0, .string ⟨#[97, 110, 110]⟩, .int .i64 0, .string ⟨#[]⟩, .bool false, .int .i64 6, .int .i64 0, .int .i64 0, .string ⟨#[]⟩, .int .i64 0, .string ⟨#[]⟩, .bool false] 37)).alloc (.cells #[.string ⟨#[114]⟩, .bool false, .slice none 0 0, .slice (some ⟨w.heap.size + 1, 0, none⟩) 4 4, .slice none 0 0] 40)).alloc (.cells #[.string ⟨#[112]⟩, .bool false, .int .i64 1, .slice none 0 0, .slice (some ⟨w.heap.size + 1 + 1, 0, none⟩) 1 1, .slice none 0 0, .slice none 0 0] 28)) w.heap.size 28 #[.string ⟨#[112]⟩, .bool false, .int .i64 1, .slice A1 n1 c1, .slice A2 n2 c2, .slice A3 n3 c3, .slice A4 n4 c4] ∧
    Ob ((((w.alloc (.cells #[.string ⟨#[112]⟩, .bool false, .int .i64 1, .slice A1 n1 c1, .slice A2 n2 c2, .slice A3 n3 c3, .slice A4 n4 c4] 28)).alloc (.cells #[.int .i64 2, .int .i64 0, .int .i64 0, .string ⟨#[]⟩, .int .i64 3, .string ⟨#[111, 119, 110, 101, 114]⟩, .bool false, .int .i64 3, .int .i64 0, .int .i64 0, .string ⟨#[]⟩, .int .i64 0, .string ⟨#[]⟩, .bool false, .int .i64 1, .int .i64 5, .int .i64 0, .string ⟨#[97, 110, 110]⟩, .int .i64 0, .string ⟨#[]⟩, .bool false, .int .i64 6, .int .i64 0, .int .i64 0, .string ⟨#[]⟩, .int .i64 0, .string ⟨#[]⟩, .bool false] 37)).alloc (.cells #[.string ⟨#[114]⟩, .bool false, .slice none 0 0, .slice (some ⟨w.heap.size + 1, 0, none⟩) 4 4, .slice none 0 0] 40)).alloc (.cells #[.string ⟨#[112]⟩, .bool false, .int .i64 1, .slice none 0 0, .slice (some ⟨w.heap.size + 1 + 1, 0, none⟩) 1 1, .slice none 0 0, .slice none 0 0] 28)) (w.heap.size + 1 + 1 + 1) 28 #[.string ⟨#[112]⟩, .bool false, .int .i64 1, .slice none 0 0, .slice (some ⟨w.heap.size + 1 + 1, 0, none⟩) 1 1, .slice none 0 0, .slice none 0 0] ∧
    Rus ((((w.alloc (.cells #[.string ⟨#[112]⟩, .bool false, .int .i64 1, .slice A1 n1 c1, .slice A2 n2 c2, .slice A3 n3 c3, .slice A4 n4 c4] 28)).alloc (.cells #[.int .i64 2, .int .i64 0, .int .i64 0, .string ⟨#[]⟩, .int .i64 3, .string ⟨#[111, 119, 110, 101, 114]⟩, .bool false, .int .i64 3, .int .i64 0, .int .i64 0, .string ⟨#[]⟩, .int .i64 0, .string ⟨#[]⟩, .bool false, .int .i64 1, .int .i64 5, .int .i64 0, .string ⟨#[97, 110, 110]⟩, .int .i64 0, .string ⟨#[]⟩, .bool false, .int .i64 6, .int .i64 0, .int .i64 0, .string ⟨#[]⟩, .int .i64 0, .string ⟨#[]⟩, .bool false] 37)).alloc (.cells #[.string ⟨#[114]⟩, .bool false, .slice none 0 0, .slice (some ⟨w.heap.size + 1, 0, none⟩) 4 4, .slice none 0 0] 40)).alloc (.cells #[.string ⟨#[112]⟩, .bool false, .int .i64 1, .slice none 0 0, .slice (some ⟨w.heap.size + 1 + 1, 0, none⟩) 1 1, .slice none 0 0, .slice none 0 0] 28)) (fun _ => True) (some ⟨w.heap.size + 1 + 1, 0, none⟩) 1 1 [runR] := by
  obtain ⟨w1, h1⟩ : ∃ x, x = w.alloc (.cells #[.string ⟨#[112]⟩, .bool false, .int .i64 1, .slice A1 n1 c1, .slice A2 n2 c2, .slice A3 n3 c3, .slice A4 n4 c4] 28) := ⟨_, rfl⟩
  rw [← h1]
  have b1 : Below w.heap.size w w1 := h1 ▸ al9 _ _
  have s1 : w1.heap.size = w.heap.size + 1 := by rw [h1]; exact size_al _ _
  obtain ⟨w2, h2⟩ : ∃ x, x = w1.alloc (.cells #[.int .i64 2, .int .i64 0, .int .i64 0, .string ⟨#[]⟩, .int .i64 3, .string ⟨#[111, 119, 110, 101, 114]⟩, .bool false, .int .i64 3, .int .i64 0, .int .i64 0, .string ⟨#[]⟩, .int .i64 0, .string ⟨#[]⟩, .bool false, .int .i64 1, .int .i64 5, .int .i64 0, .string ⟨#[97, 110, 110]⟩, .int .i64 0, .string ⟨#[]⟩, .bool false, .int .i64 6, .int .i64 0, .int .i64 0, .string ⟨#[]⟩, .int .i64 0, .string ⟨#[]⟩, .bool false] 37) := ⟨_, rfl⟩
  rw [← h2]
  have b2 : Below w1.heap.size w1 w2 := h2 ▸ al9 _ _
  have s2 : w2.heap.size = w1.heap.size + 1 := by rw [h2]; exact size_al _ _
  obtain ⟨w3, h3⟩ : ∃ x, x = w2.alloc (.cells #[.string ⟨#[114]⟩, .bool false, .slice none 0 0, .slice (some ⟨w.heap.size + 1, 0, none⟩) 4 4, .slice none 0 0] 40) := ⟨_, rfl⟩
  rw [← h3]
  have b3 : Below w2.heap.size w2 w3 := h3 ▸ al9 _ _
  have s3 : w3.heap.size = w2.heap.size + 1 := by rw [h3]; exact size_al _ _
  obtain ⟨w4, h4⟩ : ∃ x, x = w3.alloc (.cells #[.string ⟨#[112]⟩, .bool false, .int .i64 1, .slice none 0 0, .slice (some ⟨w.heap.size + 1 + 1, 0, none⟩) 1 1, .slice none 0 0, .slice none 0 0] 28) := ⟨_, rfl⟩
  rw [← h4]
  have b4 : Below w3.heap.size w3 w4 := h4 ▸ al9 _ _
  have s4 : w4.heap.size = w3.heap.size + 1 := by rw [h4]; exact size_al _ _
  have e4 : Below w4.heap.size w4 w4 := Below.refl _ _
  have e3 : Below w3.heap.size w3 w4 := below_step b4 e4
  have e2 : Below w2.heap.size w2 w4 := below_step b3 e3
  have e1 : Below w1.heap.size w1 w4 := below_step b2 e2
  have e0 : Below w.heap.size w w4 := below_step b1 e1
  have hn : Nds w2 (fun _ => True) (some ⟨w1.heap.size, 0, none⟩) 4 4 [qOwner, qOne, qAnn, qEq] := by
    have := Nds.lit w1 (R := fun _ => True) [qOwner, qOne, qAnn, qEq] (n := 4) rfl (by omega) trivial (by decide +kernel)
    rw [h2]
    exact this
  have hn3 : Nds w3 (fun _ => True) (some ⟨w.heap.size + 1, 0, none⟩) 4 4 [qOwner, qOne, qAnn, qEq] := by
    have := hn.keep (Kept.all b3 _) (fun _ h _ => h)
    rwa [s1] at this
  have hr : Rus w3 (fun _ => True) (some ⟨w2.heap.size, 0, none⟩) 1 1 [runR] := by
    have := Rw.lit (k := 5) (P := RulAt w3 (fun _ => True)) (R := fun _ => True) w2 40 (fun _ => [.string ⟨#[114]⟩, .bool false, .slice none 0 0, .slice (some ⟨w.heap.size + 1, 0, none⟩) 4 4, .slice none 0 0]) [runR] (n := 1) rfl (by omega) trivial (fun _ _ => rfl) (fun x hx => by
      simp at hx
      subst hx
      exact ⟨none, 0, 0, some ⟨w.heap.size + 1, 0, none⟩, 4, 4, none, 0, 0, rfl, by decide +kernel, Rw.nil_ _ _ _ _, hn3, Rw.nil_ _ _ _ _⟩)
    unfold Rus
    conv => arg 3; rw [h3]
    exact this
  have hr4 := hr.keep (Kept.all b4 _) (fun _ h _ => h) (R' := fun _ => True)
  rw [show w2.heap.size = w.heap.size + 1 + 1 by omega] at hr4
  exact ⟨e0, made9 (w := w) (h1 ▸ e1) rfl, made9 (w := w3) (h4 ▸ e4) (by omega), hr4⟩
theorem runs_same {w : World} {R : Nat → Prop} {A1 A2 A3 A4 : Option Addr} {n1 n2 n3 n4 c1 c2 c3 c4 b : Nat} (hp : PolAt w R 5 [.string ⟨#[112]⟩, .bool false, .int .i64 1, .slice A1 n1 c1, .slice A2 n2 c2, .slice A3 n3 c3, .slice A4 n4 c4] runP) (hr : Rus w (fun _ => True) (some ⟨b, 0, none⟩) 1 1 [runR]) :
    Calls Try.prog 11 #[.agg #[.string ⟨#[112]⟩, .bool false, .int .i64 1, .slice A1 n1 c1, .slice A2 n2 c2, .slice A3 n3 c3, .slice A4 n4 c4], .agg #[.string ⟨#[112]⟩, .bool false, .int .i64 1, .slice none 0 0, .slice (some ⟨b, 0, none⟩) 1 1, .slice none 0 0, .slice none 0 0]] w fun e w' => e = .returned (.bool true) ∧ Below w.heap.size w w' := by
  obtain ⟨B1, m1, d1, B2, m2, d2, B3, m3, d3, B4, m4, d4, e, h0, h00, h1, h2, h3, h4⟩ := hp
  simp at e
  obtain ⟨_, _, _, ⟨rfl, rfl, rfl⟩, ⟨rfl, rfl, rfl⟩, ⟨rfl, rfl, rfl⟩, ⟨rfl, rfl, rfl⟩⟩ := e
  obtain rfl : n1 = 0 := (Rw.len h1).symm
  obtain rfl : n2 = 1 := (Rw.len h2).symm
  obtain rfl : n3 = 0 := (Rw.len h3).symm
  obtain rfl : n4 = 0 := (Rw.len h4).symm
  exact same_all 4 (R' := fun _ => True) (m := 0) (p := runP) h0 ⟨h1, h2, h3, h4⟩ ⟨Rw.nil_ _ _ _ _, hr, Rw.nil_ _ _ _ _, Rw.nil_ _ _ _ _⟩
set_option maxRecDepth 100000 in
set_option maxHeartbeats 3200000 in
theorem runs9_any (w : World) : Calls Try.prog 3 #[] w fun e w' => e = .returned (.bool true) ∧ Below w.heap.size w w' := by
  go_enter Try.func3, Try.ntmps3
  go_wp2_with fail
  go_at_call 10
  refine (parse_is run_1 (by decide +kernel)).mono ?_
  rintro e w1 ⟨y, rfl, hb, A1, n1, c1, A2, n2, c2, A3, n3, c3, A4, n4, c4, hy, hp⟩
  obtain rfl : y = .agg #[.string ⟨#[112]⟩, .bool false, .int .i64 1, .slice A1 n1 c1, .slice A2 n2 c2, .slice A3 n3 c3, .slice A4 n4 c4] := hy
  have B1 := Lib.hid hb
  obtain ⟨hw, hp1, hp2, hr⟩ := runs_want w1 (A1 := A1) (A2 := A2) (A3 := A3) (A4 := A4) (n1 := n1) (n2 := n2) (n3 := n3) (n4 := n4) (c1 := c1) (c2 := c2) (c3 := c3) (c4 := c4)
  have BW := Lib.hid hw
  have P1 := Lib.hid hp1
  have P2 := Lib.hid hp2
  have RU := Lib.hid hr
  have HP : Hid (PolAt w1 (fun b => w.heap.size ≤ b) 5 [.string ⟨#[112]⟩, .bool false, .int .i64 1, .slice A1 n1 c1, .slice A2 n2 c2, .slice A3 n3 c3, .slice A4 n4 c4] runP) := hp
  have HP2 := Lib.hid (PolAt.keep (Kept.all hw _) (fun _ h _ => h) HP.out)
  clear hp hb hw hp1 hp2 hr
  go_wp2_with fail
  go_at_call 10
  refine (parse_is run_2 (by decide +kernel)).mono ?_
  rintro e ua ⟨y, rfl, hb, E1a, m1a, d1a, E2a, m2a, d2a, E3a, m3a, d3a, E4a, m4a, d4a, rfl, hp⟩
  have BXa := Lib.hid hb
  have hb2 : Below _ _ (ua.alloc (.cells #[.string noPol.id, .bool noPol.set, .int .i64 noPol.alg, .slice E1a m1a d1a, .slice E2a m2a d2a, .slice E3a m3a d3a, .slice E4a m4a d4a] 28)) := hb.alloc hb.size _
  have BYa := Lib.hid hb2
  have P1a := Lib.hid (P1.out.below hb2 P1.out.lt)
  have P2a := Lib.hid (P2.out.below hb2 P2.out.lt)
  have RUa := Lib.hid (Rus.keep RU.out (Kept.all hb2 _) (fun _ h _ => h))
  have HQa := Lib.hid (PolAt.keep (Kept.all hb2 _) (fun _ h _ => h) HP2.out)
  clear hb hb2 hp
  go_wp2_with fail
  go_at_call 10
  refine (parse_is run_3 (by decide +kernel)).mono ?_
  rintro e ub ⟨y, rfl, hb, E1b, m1b, d1b, E2b, m2b, d2b, E3b, m3b, d3b, E4b, m4b, d4b, rfl, hp⟩
  have BXb := Lib.hid hb
  have hb2 : Below _ _ (ub.alloc (.cells #[.string noPol.id, .bool noPol.set, .int .i64 noPol.alg, .slice E1b m1b d1b, .slice E2b m2b d2b, .slice E3b m3b d3b, .slice E4b m4b d4b] 28)) := hb.alloc hb.size _
  have BYb := Lib.hid hb2
  have P1b := Lib.hid (P1a.out.below hb2 P1a.out.lt)
  have P2b := Lib.hid (P2a.out.below hb2 P2a.out.lt)
  have RUb := Lib.hid (Rus.keep RUa.out (Kept.all hb2 _) (fun _ h _ => h))
  have HQb := Lib.hid (PolAt.keep (Kept.all hb2 _) (fun _ h _ => h) HQa.out)
  clear hb hb2 hp
  go_wp2_with fail
  go_at_call 10
  refine (parse_is run_4 (by decide +kernel)).mono ?_
  rintro e uc ⟨y, rfl, hb, E1c, m1c, d1c, E2c, m2c, d2c, E3c, m3c, d3c, E4c, m4c, d4c, rfl, hp⟩
  have BXc := Lib.hid hb
  have hb2 : Below _ _ (uc.alloc (.cells #[.string noPol.id, .bool noPol.set, .int .i64 noPol.alg, .slice E1c m1c d1c, .slice E2c m2c d2c, .slice E3c m3c d3c, .slice E4c m4c d4c] 28)) := hb.alloc hb.size _
  have BYc := Lib.hid hb2
  have P1c := Lib.hid (P1b.out.below hb2 P1b.out.lt)
  have P2c := Lib.hid (P2b.out.below hb2 P2b.out.lt)
  have RUc := Lib.hid (Rus.keep RUb.out (Kept.all hb2 _) (fun _ h _ => h))
  have HQc := Lib.hid (PolAt.keep (Kept.all hb2 _) (fun _ h _ => h) HQb.out)
  clear hb hb2 hp
  have pc0 := P1c.out.cell 0
  have pd0 := P2c.out.cell 0
  have pc1 := P1c.out.cell 1
  have pd1 := P2c.out.cell 1
  have pc2 := P1c.out.cell 2
  have pd2 := P2c.out.cell 2
  have pc3 := P1c.out.cell 3
  have pd3 := P2c.out.cell 3
  have pc4 := P1c.out.cell 4
  have pd4 := P2c.out.cell 4
  have pc5 := P1c.out.cell 5
  have pd5 := P2c.out.cell 5
  have pc6 := P1c.out.cell 6
  have pd6 := P2c.out.cell 6
  go_wp2_with fail
  go_at_call 11
  refine (runs_same HQc.out RUc.out).mono ?_
  rintro e u ⟨rfl, hb⟩
  have BZ := Lib.hid hb
  clear hb
  go_wp2_with fail
  go_ret
  exact ⟨rfl, below_step B1.out (below_step BW.out (below_step BYa.out (below_step BYb.out (below_step BYc.out BZ.out))))⟩
end Go.Proofs.Ythppdgiobflfpaa
