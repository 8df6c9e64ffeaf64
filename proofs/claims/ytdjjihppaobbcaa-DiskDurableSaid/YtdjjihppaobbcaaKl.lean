/- Opening a geometry and an array of three integers. -/
import Derived.Test.YtdjjihppaobbcaaGK
namespace Go.Proofs.Ytdjjihppaobbcaa
open Go Go.RowKit Go.ChangeShapes Go.WideShapes Go.ChangeAt
theorem geo_in {H : Type} {enc : TypeId × Value → H} {P : Program} {w : World} {base b0 : Nat} {spare : Nat → Bool} {held : Bool} {r : Reach} {t : TypeId} {fs : Array Field} {v : Value} {d : DataW H} {p : List MemPlace}
    (ht : P.underlying t = some (.struct fs)) (hC : P.cellsOf t = 5) (hf : ∀ i, i < 5 → ∃ f, fs[i]? = some f ∧ f.offset = i ∧ P.underlying f.type = some (.int .i64) ∧ P.cellsOf f.type = 1)
    (hv : Value.okWide P w r b0 t v) (h : DataW.Trod enc P w base spare held t v d p) : ∃ x0 x1 x2 x3 x4 : Int, v = .agg #[.int .i64 x0, .int .i64 x1, .int .i64 x2, .int .i64 x3, .int .i64 x4] := by
  obtain ⟨cs, rfl, hsz⟩ : ∃ cs, v = .agg cs ∧ cs.size = P.cellsOf t := by
    simp only [Value.okWide, ht] at hv
    obtain ⟨cs, h1, h2, _⟩ := hv
    exact ⟨cs, h1, h2⟩
  rw [hC] at hsz
  obtain ⟨fuel, hq⟩ := h
  obtain ⟨xs, m, _, _, _, hl, hel⟩ := DataW.trod_struct ht hq
  have key : ∀ i (hi : i < 5), ∃ x : Int, cs[i]'(by omega) = .int .i64 x := fun i hi => by
    obtain ⟨f, h1, h2, h3, h4⟩ := hf i hi
    have q := hel i f h1
    rw [h2, h4] at q
    have e1 : ((Value.agg cs).cells.toList.drop i).take 1 = [cs[i]'(by omega)] := by
      have : (Value.agg cs).cells = cs := rfl
      rw [this, List.drop_eq_getElem_cons (by simpa using (by omega : i < cs.size))]
      simp
    have hx : i < xs.length := by
      have := (Array.getElem?_eq_some_iff.1 h1).1
      omega
    rw [e1, List.getElem?_eq_getElem hx] at q
    obtain ⟨z, ez, _, _⟩ := DataW.trod_int h3 q
    exact ⟨z, by simpa using ez⟩
  obtain ⟨x0, e0⟩ := key 0 (by omega)
  obtain ⟨x1, e1⟩ := key 1 (by omega)
  obtain ⟨x2, e2⟩ := key 2 (by omega)
  obtain ⟨x3, e3⟩ := key 3 (by omega)
  obtain ⟨x4, e4⟩ := key 4 (by omega)
  refine ⟨x0, x1, x2, x3, x4, ?_⟩
  congr 1
  refine Array.ext (by simp [hsz]) fun i h1 h2 => ?_
  rcases (by omega : i = 0 ∨ i = 1 ∨ i = 2 ∨ i = 3 ∨ i = 4) with rfl | rfl | rfl | rfl | rfl
  · rw [e0]; rfl
  · rw [e1]; rfl
  · rw [e2]; rfl
  · rw [e3]; rfl
  · rw [e4]; rfl
theorem tri_in {H : Type} {enc : TypeId × Value → H} {P : Program} {w : World} {base b0 : Nat} {spare : Nat → Bool} {held : Bool} {r : Reach} {t e : TypeId} {v : Value} {d : DataW H} {p : List MemPlace}
    (ht : P.underlying t = some (.array 3 e)) (he : P.underlying e = some (.int .i64)) (hc : P.cellsOf e = 1) (hC : P.cellsOf t = 3) (hv : Value.okWide P w r b0 t v) (h : DataW.Trod enc P w base spare held t v d p) :
    ∃ x y z : Int, v = .agg #[.int .i64 x, .int .i64 y, .int .i64 z] := by
  obtain ⟨cs, rfl, hsz⟩ : ∃ cs, v = .agg cs ∧ cs.size = P.cellsOf t := by
    simp only [Value.okWide, ht] at hv
    obtain ⟨cs, h1, h2, _⟩ := hv
    exact ⟨cs, h1, h2⟩
  rw [hC] at hsz
  obtain ⟨fuel, hf⟩ := h
  obtain ⟨ys, m, _, _, _, hl, hel⟩ := DataW.trod_array ht hf
  have key : ∀ i (hi : i < 3), ∃ x : Int, cs[i]'(by omega) = .int .i64 x := fun i hi => by
    have q := hel i hi
    rw [hc, Nat.mul_one] at q
    have e1 : ((Value.agg cs).cells.toList.drop i).take 1 = [cs[i]'(by omega)] := by
      have : (Value.agg cs).cells = cs := rfl
      rw [this, List.drop_eq_getElem_cons (by simpa using (by omega : i < cs.size))]
      simp
    rw [e1, List.getElem?_eq_getElem (by omega)] at q
    obtain ⟨z, ez, _, wz⟩ := DataW.trod_int he q
    exact ⟨z, by simpa using ez⟩
  obtain ⟨x, ex⟩ := key 0 (by omega)
  obtain ⟨y, ey⟩ := key 1 (by omega)
  obtain ⟨z, ez⟩ := key 2 (by omega)
  refine ⟨x, y, z, ?_⟩
  congr 1
  refine Array.ext (by simp [hsz]) fun i h1 h2 => ?_
  rcases (by omega : i = 0 ∨ i = 1 ∨ i = 2) with rfl | rfl | rfl
  · rw [ex]; rfl
  · rw [ey]; rfl
  · rw [ez]; rfl
end Go.Proofs.Ytdjjihppaobbcaa
