/- 'y.Bag = append([]Value{}, y.Bag...); out = append(out, y)': the two appends and the store between them. -/
import Derived.Test.YtjpkemamfccfdaaAskB
namespace Go.Proofs.Ytjpkemamfccfdaa
set_option linter.unusedVariables false
open Go.RowKit

theorem gr_only {w w' : World} {base g : Nat} {A : Option Addr} {n c : Nat} {l : List Giv} (h : Gr 3 GivAt w base 48 A n c l) (o : Only g w w') (hg : g < base) : Gr 3 GivAt w' base 48 A n c l := by
  have hk : Kept (Nb base (.slice A n c)) w w' := ⟨o.size, fun b hb hl => o.heap hl (by have := hb.1; omega)⟩
  refine ⟨(h.1.mapP (fun vs x _ hp => hp.keep hk (fun _ h _ => h))).grown o ?_, Nat.le_trans h.2 o.size⟩
  cases he : (Value.slice A n c).ownBlock with
  | none => exact .inl rfl
  | some b => exact .inr (fun e => by injection e with e; subst e; have := (h.1.lt b he).1; omega)
theorem push_copy {w0 V : World} {base0 base g k c ny cy : Nat} {A Ay : Option Addr} {L : List Giv} {yc : Int} {yn : ByteArray} {yb : List Vl} {R : Nat → Prop} (h : Gr 3 GivAt w0 base 48 A k c L) (hb0 : Below w0.heap.size w0 V)
    (hg : Ob V g 48 #[.int .i64 yc, .string yn, .slice Ay ny cy]) (hsep : w0.heap.size ≤ g ∨ g < base) (h0 : base0 ≤ base) (h0g : base0 ≤ g)
    (hok : Giv.ok ⟨yc, yn, yb⟩) (hv : Vls V R Ay ny cy yb) (hny : ny ≤ 100000) (hk : k < 1000000) :
    ∃ A5 c5 w5 A2 c2 w2, (Builtin.append_ #[45, 45] 45 #[.slice (some ⟨V.heap.size, 0, none⟩) 0 0, .slice Ay ny cy]).run Try.prog (V.alloc (.cells #[] 25)) = .ok (.slice A5 ny c5) w5 ∧
      (w5.cell? ⟨g, 0, none⟩ = some (.int .i64 yc) ∧ w5.cell? ⟨g, 1, none⟩ = some (.string yn) ∧ w5.cell? ⟨g, 2, none⟩ = some (.slice Ay ny cy) ∧ w5.frozen? ⟨g, 2, none⟩ = false) ∧ Below V.heap.size V w5 ∧
      (Builtin.append_ #[30, 30] 30 #[.slice A k c, .slice (some ⟨w5.heap.size, 0, none⟩) 1 1]).run Try.prog ((w5.setCell ⟨g, 2, none⟩ (.slice A5 ny c5)).alloc (.cells #[.int .i64 yc, .string yn, .slice A5 ny c5] 48)) = .ok (.slice A2 (k + 1) c2) w2 ∧
      Gr 3 GivAt w2 base 48 A2 (k + 1) c2 (L ++ [⟨yc, yn, yb⟩]) ∧ Below base0 V w2 := by
  obtain ⟨A5, c5, w5, r5, b5, v5⟩ := copy_bag hv (by omega)
  have q1 := Ob.below hg b5 hg.lt
  have on : Only g w5 (w5.setCell ⟨g, 2, none⟩ (.slice A5 ny c5)) := Only.refl.setCell rfl _
  have hlt := hg.lt
  have hV := hb0.size
  have b05 := hb0.trans (b5.mono hb0.size)
  have g6 : Gr 3 GivAt (w5.setCell ⟨g, 2, none⟩ (.slice A5 ny c5)) base 48 A k c L := by
    rcases hsep with hs | hs
    · exact Gr.below keeps_giv h (b05.setCell (p := ⟨g, 2, none⟩) hs _)
    · exact gr_only (Gr.below keeps_giv h b05) on hs
  have v6 : Vls (w5.setCell ⟨g, 2, none⟩ (.slice A5 ny c5)) (Nb base (.slice A k c)) A5 ny c5 yb := v5.keep ⟨on.size, fun b hb hl => on.heap hl (by have h1 : V.heap.size ≤ b := hb; omega)⟩ (fun b hb _ => h.apart b (Nat.le_trans hb0.size hb))
  obtain ⟨A2, c2, w2, r2, o2, b2⟩ := push_giv (g := ⟨yc, yn, yb⟩) g6 hok v6 hk
  have hz : (w5.setCell ⟨g, 2, none⟩ (.slice A5 ny c5)).heap.size = w5.heap.size := by simp [World.setCell]
  rw [hz] at r2
  have hbase := h.2
  refine ⟨A5, c5, w5, A2, c2, w2, r5, ⟨q1.cell 0, q1.cell 1, q1.cell 2, q1.frozen 2⟩, b5, r2, o2, ?_⟩
  exact ((b5.mono (by omega)).setCell (p := ⟨g, 2, none⟩) h0g _).trans (b2.mono h0)
end Go.Proofs.Ytjpkemamfccfdaa
