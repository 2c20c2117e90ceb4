/- An array of four bytes: as an argument, and held against the empty one. -/
import Derived.Test.YtfehafeopoejgaaMem
import Derived.Test.YtfehafeopoejgaaSumMath
import Derived.OpenShut
import Derived.ChangeSlices
import Derived.ChangeKeysEq
namespace Go.Proofs.Ytfehafeopoejgaa
set_option linter.unusedVariables false
open Go.RowKit Go.ChangeShapes Go.WideShapes

theorem okWide_array {P : Program} {w : World} {r : Reach} {base n : Nat} {t e : TypeId} {v : Value} (ht : P.underlying t = some (.array n e)) (h : Value.okWide P w r base t v) : ∃ cs, v = .agg cs ∧ cs.size = P.cellsOf t := by
  simp only [Value.okWide, ht] at h
  obtain ⟨cs, h1, h2, _⟩ := h
  exact ⟨cs, h1, h2⟩

theorem byte_of_wf {z : Int} (h : (Lit.int .u8 z).wf = true) : ∃ c : UInt8, z = (c.toNat : Int) := by
  simp only [Lit.wf, Bool.and_eq_true, decide_eq_true_eq] at h
  have h1 : (0 : Int) ≤ z := h.1
  have h2 : z ≤ 255 := h.2
  exact ⟨UInt8.ofNat z.toNat, by simp; omega⟩

theorem open_byte {H : Type} {enc : TypeId × Value → H} {P : Program} {w : World} {base m : Nat} {spare : Nat → Bool} {held : Bool} {e : TypeId} {v : Value} {y : DataW H × List MemPlace}
    (he : P.underlying e = some (.int .u8)) (h : DataW.trod enc P w base spare held m e [v] = some y) : ∃ c : UInt8, v = .int .u8 (c.toNat : Int) := by
  obtain ⟨n, hv, _, hw⟩ := DataW.trod_int he h
  obtain ⟨c, rfl⟩ := byte_of_wf hw
  exact ⟨c, by simpa using hv⟩

theorem open_arr4 {H : Type} {enc : TypeId × Value → H} {P : Program} {w w2 : World} {r : Reach} {base b0 : Nat} {spare : Nat → Bool} {held : Bool} {t e : TypeId} {v : Value} {d : DataW H} {p : List MemPlace}
    (ht : P.underlying t = some (.array 4 e)) (he : P.underlying e = some (.int .u8)) (hc : P.cellsOf e = 1) (hct : P.cellsOf t = 4) (hv : Value.okWide P w2 r b0 t v) (h : DataW.Trod enc P w base spare held t v d p) :
    ∃ t0 t1 t2 t3 : UInt8, v = .agg #[.int .u8 (t0.toNat : Int), .int .u8 (t1.toNat : Int), .int .u8 (t2.toNat : Int), .int .u8 (t3.toNat : Int)] := by
  obtain ⟨cs, rfl, hsz⟩ := okWide_array ht hv
  obtain ⟨c0, c1, c2, c3, rfl⟩ : ∃ c0 c1 c2 c3, cs = #[c0, c1, c2, c3] := by
    obtain ⟨l⟩ := cs
    have hl : l.length = 4 := hsz.trans hct
    match l, hl with
    | [c0, c1, c2, c3], _ => exact ⟨c0, c1, c2, c3, rfl⟩
  obtain ⟨fuel, hf⟩ := h
  obtain ⟨xs, m, _, _, _, hlen, hx⟩ := DataW.trod_array ht hf
  have g : ∀ i, i < 4 → ∃ y, DataW.trod enc P w base spare held m e (([c0, c1, c2, c3].drop i).take 1) = some y := by
    intro i hi
    have := hx i hi
    rw [hc, Nat.mul_one, List.getElem?_eq_getElem (by omega)] at this
    exact ⟨_, this⟩
  obtain ⟨y0, g0⟩ := g 0 (by omega)
  obtain ⟨y1, g1⟩ := g 1 (by omega)
  obtain ⟨y2, g2⟩ := g 2 (by omega)
  obtain ⟨y3, g3⟩ := g 3 (by omega)
  obtain ⟨t0, rfl⟩ := open_byte he g0
  obtain ⟨t1, rfl⟩ := open_byte he g1
  obtain ⟨t2, rfl⟩ := open_byte he g2
  obtain ⟨t3, rfl⟩ := open_byte he g3
  exact ⟨t0, t1, t2, t3, rfl⟩

theorem arr_info : ∃ i, Try.prog.info? 5 = some i := by
  cases h : Try.prog.info? 5 with
  | some i => exact ⟨i, rfl⟩
  | none =>
    have : (Try.prog.info? 5).isSome = true := by kernel_rfl
    rw [h] at this; cases this

theorem eq_step {xs ys : Array Value} {i : Nat} {is : List Nat} {a b : Int} {W : World} (hx : xs[i]? = some (.int .u8 a)) (hy : ys[i]? = some (.int .u8 b)) :
    (Op.eqItems 9999 5 1 xs ys (i :: is)).run Try.prog W = if (a == b) = true then (Op.eqItems 9999 5 1 xs ys is).run Try.prog W else .ok false W := by
  have hp : ∀ (xs : Array Value) (off : Nat) (v : Value), xs[off]? = some v → (part 5 xs off).run Try.prog W = .ok v W := fun xs off v h => run_part_plain W (by kernel_rfl) h
  have he := run_equalIn_int (P := Try.prog) W 9998 5 .u8 .u8 a b Try.underlying5
  simp only [Op.eqItems, Sem.run_bind, Nat.mul_one]
  rw [hp _ _ _ hx]
  simp only [Result.andThen_ok]
  rw [hp _ _ _ hy]
  simp only [Result.andThen_ok]
  rw [he]
  cases a == b <;> simp

theorem arr_eq (t0 t1 t2 t3 : UInt8) (W : World) :
    (Op.equalIn 10000 31 (.agg #[.int .u8 (t0.toNat : Int), .int .u8 (t1.toNat : Int), .int .u8 (t2.toNat : Int), .int .u8 (t3.toNat : Int)]) (.agg #[.int .u8 0, .int .u8 0, .int .u8 0, .int .u8 0])).run Try.prog W
      = .ok (allNought [0, 0, 0, 0] [t0, t1, t2, t3]) W := by
  obtain ⟨i, hi⟩ := arr_info
  have hc : Try.prog.cellsOf 5 = 1 := by kernel_rfl
  rw [show 10000 = 9999 + 1 from rfl, run_equalIn_array W 9999 _ _ Try.underlying31 hi, hc, show List.range 4 = [0, 1, 2, 3] from rfl, eq_step rfl rfl, eq_step rfl rfl, eq_step rfl rfl, eq_step rfl rfl]
  have z : ∀ t : UInt8, (((t.toNat : Int) == 0) = true) = ((t == 0) = true) := by
    intro t
    rw [beq_iff_eq, beq_iff_eq]
    apply propext
    constructor
    · intro h; exact UInt8.toNat_inj.1 (by show t.toNat = 0; omega)
    · intro h; rw [h]; rfl
  simp only [z, allNought, Bool.and_true]
  cases t0 == 0 <;> cases t1 == 0 <;> cases t2 == 0 <;> cases t3 == 0 <;> simp [Op.eqItems]
end Go.Proofs.Ytfehafeopoejgaa
