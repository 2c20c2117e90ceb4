/- A policy and its kids, on the way through (the project's walk.policy, its closure, each over policies). -/
import Derived.Test.YtjpkemamfccfdaaGreatDoorPolRule
namespace Go.Proofs.YtjpkemamfccfdaaGreatDoor
set_option linter.unusedVariables false
open Go.RowKit Go.Sort

/-- How many names may be met at most. -/
def idsB : Nat → Nat
  | 0 => 0
  | d + 1 => 17 + 16 * idsB d
theorem firstS_ids {α : Type} {f : α → Seen → Int × Seen} {c : Nat} (hf : ∀ x s, (f x s).2.ids.length ≤ s.ids.length + c) : ∀ (l : List α) (s : Seen), (firstS f l s).2.ids.length ≤ s.ids.length + l.length * c
  | [], s => by simp [firstS]
  | x :: l, s => by
    have h1 := hf x s
    have h2 := firstS_ids hf l (f x s).2
    simp only [firstS, List.length_cons, Nat.add_mul, Nat.one_mul]
    split <;> omega
theorem polS_ids : ∀ (d : Nat) (p : Pol) (s : Seen), (polS d p s).2.ids.length ≤ s.ids.length + idsB d
  | 0, p, s => by simp [polS, idsB]
  | d + 1, p, s => by
    simp only [polS, idsB]
    split
    · simp only; omega
    · rename_i s1 h
      have h1 := idS_ids h
      split
      · simp only; omega
      split
      · simp only; omega
      split
      · simp only; omega
      rename_i hn
      have h2 := firstS_ids (c := 1) ruleS_ids p.rules s1
      have hr : p.rules.length ≤ 16 := by omega
      have hk : p.kids.length ≤ 16 := by omega
      split
      · omega
      have h3 := firstS_ids (c := idsB d) (polS_ids d) p.kids (firstS ruleS p.rules s1).2
      have h4 : p.kids.length * idsB d ≤ 16 * idsB d := Nat.mul_le_mul_right _ hk
      omega

/-- The project's walk over a policy, at a depth of which so many are left. -/
def PolOk (d : Nat) : Prop :=
  ∀ {w : World} {g B : Nat} {s : Seen} {R : Nat → Prop} {m : Nat} {p : Pol} {A1 A2 A3 A4 : Option Addr} {n1 k1 n2 k2 n3 k3 n4 k4 : Nat}, Wk w g B s → s.ids.length + idsB d < 800000 → (∀ b, R b → b ≠ g ∧ b ≠ B) →
    p.id.size ≤ maxLen → Tg w R A1 n1 k1 p.tg → Rus w R A2 n2 k2 p.rules → Pls w R m A3 n3 k3 p.kids → Dus w R A4 n4 k4 p.ob →
    Calls Tryz.prog 60 #[.pointer (some ⟨g, 0, none⟩), .agg #[.string p.id, .bool p.set, .int .i64 p.alg, .slice A1 n1 k1, .slice A2 n2 k2, .slice A3 n3 k3, .slice A4 n4 k4], .int .i64 (5 - (d : Int))] w
      fun e w' => e = .returned (.int .i64 (polS d p s).1) ∧ Only2 g B w w' ∧ WkE w' g B (polS d p s)

theorem pol_zero : PolOk 0 := by
  intro w g B s R m p A1 A2 A3 A4 n1 k1 n2 k2 n3 k3 n4 k4 hk _ _ _ _ _ _ _
  go_enter Tryz.func60, Tryz.ntmps60
  go_wp2_with fail
  go_ret
  exact ⟨rfl, ((Only2.alloc _).trans (Only2.alloc _)).trans (Only2.alloc _), s, ((hk.alloc _).alloc _).alloc _, fun h => by cases h⟩

set_option maxHeartbeats 800000 in
/-- The closure that goes one deeper. -/
theorem deeper_any {d : Nat} (ih : PolOk d) {w : World} {g B h3 h5 : Nat} {s : Seen} {R : Nat → Prop} {m : Nat} {p : Pol} {A1 A2 A3 A4 : Option Addr} {n1 k1 n2 k2 n3 k3 n4 k4 : Nat} (hd : d ≤ 4) (hk : Wk w g B s) (hlen : s.ids.length + idsB d < 800000) (hR : ∀ b, R b → b ≠ g ∧ b ≠ B)
    (hid : p.id.size ≤ maxLen) (h1 : Tg w R A1 n1 k1 p.tg) (h2 : Rus w R A2 n2 k2 p.rules) (h3' : Pls w R m A3 n3 k3 p.kids) (h4 : Dus w R A4 n4 k4 p.ob)
    (hp : Ob w h3 123 #[.pointer (some ⟨g, 0, none⟩)]) (hi : Ob w h5 3 #[.int .i64 (4 - (d : Int))]) :
    Calls Tryz.prog 83 #[.agg #[.string p.id, .bool p.set, .int .i64 p.alg, .slice A1 n1 k1, .slice A2 n2 k2, .slice A3 n3 k3, .slice A4 n4 k4], .pointer (some ⟨h3, 0, none⟩), .pointer (some ⟨h5, 0, none⟩)] w
      fun e w' => e = .returned (.int .i64 (polS d p s).1) ∧ Only2 g B w w' ∧ WkE w' g B (polS d p s) := by
  have c3 := hp.cell 0
  have c5 := hi.cell 0
  have l3 := hp.lt
  have l5 := hi.lt
  have hka := Kept.all ((Below.refl _ w).alloc (Nat.le_refl _) (.cells #[.string p.id, .bool p.set, .int .i64 p.alg, .slice A1 n1 k1, .slice A2 n2 k2, .slice A3 n3 k3, .slice A4 n4 k4] 28)) R
  have hcon := ih (hk.alloc (.cells #[.string p.id, .bool p.set, .int .i64 p.alg, .slice A1 n1 k1, .slice A2 n2 k2, .slice A3 n3 k3, .slice A4 n4 k4] 28)) hlen hR hid (h1.keep hka (fun _ h _ => h)) (h2.keep hka (fun _ h _ => h)) (h3'.keep hka (fun _ h _ => h)) (h4.keep hka (fun _ h _ => h))
  have hdd : (4 - (d : Int)) + 1 = 5 - (d : Int) := by omega
  have hd2 : -10 ≤ (4 - (d : Int)) ∧ (4 - (d : Int)) ≤ 4 := by omega
  rw [← hdd] at hcon
  have HC := Lib.hid hcon
  clear hcon hka hk hlen hR hid h1 h2 h3' h4 hp hi hdd ih
  generalize 4 - (d : Int) = q at *
  go_enter Tryz.func83, Tryz.ntmps83
  go_wp2_with (go_at_call 60; refine HC.out.mono ?_; rintro e w1 ⟨rfl, hb1, hw1⟩)
  go_ret
  exact ⟨rfl, (Only2.alloc _).trans hb1, hw1⟩

set_option maxHeartbeats 1600000 in
theorem each_pol {d : Nat} (ih : PolOk d) {w : World} {g B h3 h5 : Nat} {s : Seen} {R : Nat → Prop} {m : Nat} {A : Option Addr} {n c : Nat} {l : List Pol} (hd : d ≤ 4) (hk : Wk w g B s) (hlen : s.ids.length + n * idsB d < 800000) (hR : ∀ b, R b → b ≠ g ∧ b ≠ B)
    (hp : Ob w h3 123 #[.pointer (some ⟨g, 0, none⟩)]) (hi : Ob w h5 3 #[.int .i64 (4 - (d : Int))]) (hh : (h3 ≠ g ∧ h3 ≠ B) ∧ h5 ≠ g ∧ h5 ≠ B) (h : Pls w R m A n c l) :
    Calls Tryz.prog 82 #[.slice A n c, .func (.func 83) #[] #[.pointer (some ⟨h3, 0, none⟩), .pointer (some ⟨h5, 0, none⟩)]] w
      fun e w' => e = .returned (.int .i64 (firstS (polS d) l s).1) ∧ Only2 g B w w' ∧ WkE w' g B (firstS (polS d) l s) := by
  have hle := Rw.le h
  have hcap := Rw.cap h
  have HL := Lib.hid (Rw.len h)
  unfold maxLen at hcap
  have H := Lib.hid h
  have HW := Lib.hid hk
  have HRR := Lib.hid hR
  have HP := Lib.hid hp
  have HII := Lib.hid hi
  have HH := Lib.hid hh
  have HLEN := Lib.hid hlen
  clear h hk hR hp hi hh hlen
  go_enter Tryz.func82, Tryz.ntmps82
  go_wp2
  go_loopw [10] (fun i wr => ∃ (k : Nat) (s' : Seen), k ≤ n ∧ i = .int .i64 k ∧ StTo (polS d) l s k s' ∧ s'.ids.length ≤ s.ids.length + k * idsB d ∧ Wk wr g B s' ∧ Only2 g B w wr) (fun i _ => n - (intOf i).toNat)
  case atStart => exact ⟨0, s, Nat.zero_le _, rfl, StTo.zero _ _ _, by omega, HW.out, Only2.refl⟩
  case round =>
    obtain ⟨k, s', hk, rfl, hf, hids, hw, hb⟩ := hrel
    have HF := Lib.hid hf
    have HB := Lib.hid hb
    have HW' := Lib.hid hw
    have HI := Lib.hid hids
    clear hf hb hw hids
    by_cases hlt : k < n
    · obtain ⟨b, o, x, m', A1, n1, k1, A2, n2, k2, A3, n3, k3, A4, n4, k4, rfl, hRb, hbl, hx, hm, ⟨hid, halg⟩, ⟨c0, c1, c2, c3, c4, c5, c6⟩, h1, h2, h3', h4⟩ := (H.out.keep (HB.out.kept HRR.out) (fun _ h _ => h)).at_ hlt
      have HX := Lib.hid hx
      have hbel := (Below.refl _ wr).alloc (Nat.le_refl _) (.cells #[.string x.id, .bool x.set, .int .i64 x.alg, .slice A1 n1 k1, .slice A2 n2 k2, .slice A3 n3 k3, .slice A4 n4 k4] 28)
      have hka := Kept.all hbel R
      have hp' := (HP.out.keep (HB.out.heap HP.out.lt HH.out.1.1 HH.out.1.2))
      have hi' := (HII.out.keep (HB.out.heap HII.out.lt HH.out.2.1 HH.out.2.2))
      have hlen' : s'.ids.length + idsB d < 800000 := by
        have e1 := HI.out
        have e2 := HLEN.out
        have e3 : (k + 1) * idsB d ≤ n * idsB d := Nat.mul_le_mul_right _ hlt
        rw [Nat.add_mul, Nat.one_mul] at e3
        omega
      have hcon := deeper_any ih hd (HW'.out.alloc (.cells #[.string x.id, .bool x.set, .int .i64 x.alg, .slice A1 n1 k1, .slice A2 n2 k2, .slice A3 n3 k3, .slice A4 n4 k4] 28)) hlen' HRR.out hid (h1.keep hka (fun _ h _ => h)) (h2.keep hka (fun _ h _ => h)) (h3'.keep hka (fun _ h _ => h)) (h4.keep hka (fun _ h _ => h))
        (hp'.below hbel hp'.lt) (hi'.below hbel hi'.lt)
      have HIX := Lib.hid (polS_ids d x s')
      have HRel : Hid ((k + 1) * idsB d = k * idsB d + idsB d) := by show (k + 1) * idsB d = _; rw [Nat.add_mul, Nat.one_mul]
      clear hx hka h1 h2 h3' h4 hbel hp' hi' hlen' halg hid hm
      by_cases hz : (polS d x s').1 = 0
      · have HZ := Lib.hid hz
        rw [hz] at hcon
        have HC := Lib.hid hcon
        clear hz hcon
        go_wp2_with (go_at_call 83; refine HC.out.mono ?_; rintro e w1 ⟨rfl, hb1, hw1⟩; have B1 := Lib.hid hb1; have W1 := Lib.hid (hw1.ok HZ.out))
        go_roundw
        case rel => exact ⟨k + 1, _, by omega, by go_num, HF.out.step HX.out HZ.out, by have := HI.out; have := HIX.out; have := HRel.out; omega, W1.out, HB.out.trans ((Only2.alloc _).trans B1.out)⟩
        case measure => simp [intOf]; omega
      · have HZ := Lib.hid hz
        obtain ⟨r, hr⟩ : ∃ r, r = polS d x s' := ⟨_, rfl⟩
        have HR := Lib.hid hr
        rw [← hr] at hz hcon
        have hne : (r.1 != 0) = true := by simpa using hz
        have HC := Lib.hid hcon
        clear hcon hr
        clear hz
        go_wp2_with (go_at_call 83; refine HC.out.mono ?_; rintro e w1 ⟨rfl, hb1, hw1⟩; have B1 := Lib.hid hb1; have W1 := Lib.hid hw1; clear hw1)
        go_ret
        rw [HF.out.err HX.out HZ.out, ← HR.out]
        exact ⟨rfl, HB.out.trans ((Only2.alloc _).trans B1.out), W1.out⟩
    · obtain rfl : k = n := by omega
      go_wp2
      go_ret
      rw [HF.out.all HL.out]
      exact ⟨rfl, HB.out, s', HW'.out, fun _ => rfl⟩
end Go.Proofs.YtjpkemamfccfdaaGreatDoor
