/- Opening an array of two integers. -/
import Derived.Test.YtajeboigkpelgaaGK
namespace Go.Proofs.Ytajeboigkpelgaa
open Go Go.RowKit Go.ChangeShapes Go.WideShapes Go.ChangeAt
theorem two_in {H : Type} {enc : TypeId × Value → H} {P : Program} {w : World} {base b0 : Nat} {spare : Nat → Bool} {held : Bool} {r : Reach} {t e : TypeId} {v : Value} {d : DataW H} {p : List MemPlace}
    (ht : P.underlying t = some (.array 2 e)) (he : P.underlying e = some (.int .i64)) (hc : P.cellsOf e = 1) (hC : P.cellsOf t = 2) (hv : Value.okWide P w r b0 t v) (h : DataW.Trod enc P w base spare held t v d p) :
    ∃ x y : Int, v = .agg #[.int .i64 x, .int .i64 y] ∧ (Lit.int .i64 x).wf = true ∧ (Lit.int .i64 y).wf = true := by
  obtain ⟨cs, rfl, hsz⟩ : ∃ cs, v = .agg cs ∧ cs.size = P.cellsOf t := by
    simp only [Value.okWide, ht] at hv
    obtain ⟨cs, h1, h2, _⟩ := hv
    exact ⟨cs, h1, h2⟩
  rw [hC] at hsz
  obtain ⟨fuel, hf⟩ := h
  obtain ⟨ys, m, _, _, _, hl, hel⟩ := DataW.trod_array ht hf
  have key : ∀ i (hi : i < 2), ∃ x : Int, (Lit.int .i64 x).wf = true ∧ cs[i]'(by omega) = .int .i64 x := fun i hi => by
    have q := hel i hi
    rw [hc, Nat.mul_one] at q
    have e1 : ((Value.agg cs).cells.toList.drop i).take 1 = [cs[i]'(by omega)] := by
      have : (Value.agg cs).cells = cs := rfl
      rw [this, List.drop_eq_getElem_cons (by simpa using (by omega : i < cs.size))]
      simp
    rw [e1, List.getElem?_eq_getElem (by omega)] at q
    obtain ⟨z, ez, _, wz⟩ := DataW.trod_int he q
    exact ⟨z, wz, by simpa using ez⟩
  obtain ⟨x, wx, ex⟩ := key 0 (by omega)
  obtain ⟨y, wy, ey⟩ := key 1 (by omega)
  refine ⟨x, y, ?_, wx, wy⟩
  congr 1
  refine Array.ext (by simp [hsz]) fun i h1 h2 => ?_
  rcases (by omega : i = 0 ∨ i = 1) with rfl | rfl
  · rw [ex]; rfl
  · rw [ey]; rfl
theorem i64_in {x : Int} (h : (Lit.int .i64 x).wf = true) : -(2 ^ 63) ≤ x ∧ x < 2 ^ 63 := by
  have := bounds_i64 h
  exact ⟨by omega, by omega⟩
end Go.Proofs.Ytajeboigkpelgaa
