/- Opening arguments: an array of two or three bytes by value. The cells of its box. -/
import Derived.Test.YtjbgfpbidjhlkaaDoorGK
import Derived.Deep.Slices
namespace Go.Proofs.YtjbgfpbidjhlkaaDoor
open Go Go.RowKit Go.ChangeShapes Go.WideShapes Go.ChangeAt
set_option linter.unusedVariables false

theorem smallarr_in {H : Type} {enc : TypeId × Value → H} {P : Program} {w : World} {base b0 n : Nat} {spare : Nat → Bool} {held : Bool} {r : Reach} {t e : TypeId} {v : Value} {d : DataW H} {p : List MemPlace}
    (ht : P.underlying t = some (.array n e)) (he : P.underlying e = some (.int .u8)) (hc : P.cellsOf e = 1) (hC : P.cellsOf t = n) (hv : Value.okWide P w r b0 t v) (h : DataW.Trod enc P w base spare held t v d p) :
    ∃ f : Nat → Nat, (∀ i, f i < 256) ∧ v = .agg ((List.range n).map fun i => .int .u8 (f i : Int)).toArray := by
  obtain ⟨cs, rfl, hsz⟩ : ∃ cs, v = .agg cs ∧ cs.size = P.cellsOf t := by
    simp only [Value.okWide, ht] at hv
    obtain ⟨cs, h1, h2, _⟩ := hv
    exact ⟨cs, h1, h2⟩
  rw [hC] at hsz
  obtain ⟨fuel, hf⟩ := h
  obtain ⟨ys, m, _, _, hlen, hl, hel⟩ := DataW.trod_array ht hf
  have : (Value.agg cs).cells = cs := rfl
  rw [this] at hel
  have key : ∀ i (hi : i < n), ∃ x : Nat, x < 256 ∧ cs[i]'(by omega) = .int .u8 (x : Int) := fun i hi => by
    have q := hel i hi
    rw [hc, Nat.mul_one] at q
    have e1 : (cs.toList.drop i).take 1 = [cs[i]'(by omega)] := by
      rw [List.drop_eq_getElem_cons (by simp; omega), List.take_succ_cons, List.take_zero]
      simp
    rw [e1, List.getElem?_eq_getElem (by omega)] at q
    obtain ⟨z, ez, _, wz⟩ := DataW.trod_int he q
    obtain ⟨x, rfl, hx⟩ := u8_nat wz
    exact ⟨x, hx, by simpa using ez⟩
  refine ⟨fun i => if hi : i < n then (intOf (cs[i]'(by omega))).toNat else 0, fun i => ?_, ?_⟩
  · dsimp only
    split
    · rename_i hi
      obtain ⟨y, hy, e⟩ := key i hi
      rw [e]; simpa [intOf] using hy
    · decide
  · congr 1
    refine Array.ext (by simp [hsz]) fun i h1 h2 => ?_
    obtain ⟨y, hy, e⟩ := key i (by omega)
    simp only [List.getElem_toArray, List.getElem_map, List.getElem_range]
    rw [dif_pos (by omega), e]
    simp [intOf]
theorem two_in {H : Type} {enc : TypeId × Value → H} {P : Program} {w : World} {base b0 : Nat} {spare : Nat → Bool} {held : Bool} {r : Reach} {t e : TypeId} {v : Value} {d : DataW H} {p : List MemPlace}
    (ht : P.underlying t = some (.array 2 e)) (he : P.underlying e = some (.int .u8)) (hc : P.cellsOf e = 1) (hC : P.cellsOf t = 2) (hv : Value.okWide P w r b0 t v) (h : DataW.Trod enc P w base spare held t v d p) :
    ∃ x y : Nat, x < 256 ∧ y < 256 ∧ v = .agg #[.int .u8 (x : Int), .int .u8 (y : Int)] := by
  obtain ⟨f, hf, rfl⟩ := smallarr_in ht he hc hC hv h
  exact ⟨f 0, f 1, hf 0, hf 1, rfl⟩
theorem three_in {H : Type} {enc : TypeId × Value → H} {P : Program} {w : World} {base b0 : Nat} {spare : Nat → Bool} {held : Bool} {r : Reach} {t e : TypeId} {v : Value} {d : DataW H} {p : List MemPlace}
    (ht : P.underlying t = some (.array 3 e)) (he : P.underlying e = some (.int .u8)) (hc : P.cellsOf e = 1) (hC : P.cellsOf t = 3) (hv : Value.okWide P w r b0 t v) (h : DataW.Trod enc P w base spare held t v d p) :
    ∃ x y z : Nat, x < 256 ∧ y < 256 ∧ z < 256 ∧ v = .agg #[.int .u8 (x : Int), .int .u8 (y : Int), .int .u8 (z : Int)] := by
  obtain ⟨f, hf, rfl⟩ := smallarr_in ht he hc hC hv h
  exact ⟨f 0, f 1, f 2, hf 0, hf 1, hf 2, rfl⟩
end Go.Proofs.YtjbgfpbidjhlkaaDoor
