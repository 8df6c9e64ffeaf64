/- The table of the fields as the row lists it is the table in memory. -/
import Derived.Test.YtnnacofjogfkeaaDoorRows
import Derived.Test.YtnnacofjogfkeaaDoorGL
import Derived.ProofKit
import Derived.LaidMore
import Derived.OpenShut
import Derived.Lay
namespace Go.Proofs.YtnnacofjogfkeaaDoor
open Go Go.RowKit
set_option linter.unusedVariables false

theorem g_kinds : Tryd.prog.globalNamed "tegula/smallfield.kinds" = some 1 := by kernel_rfl
theorem t_kinds : (Tryd.prog.globals[1]?).map (·.type) = some 95 := by kernel_rfl

set_option maxRecDepth 100000 in
theorem kind_cells {H : Type} {enc : TypeId × Value → H} {W : World} {base : Nat} {sp : Nat → Bool} {held : Bool} {fuel : Nat} {cs : List Value} {a b c : Int} {p : List MemPlace}
    (h : DataW.trod enc Tryd.prog W base sp held fuel 94 cs = some (.agg [.lit (.int .i64 a), .lit (.int .i64 b), .lit (.int .i64 c)], p)) :
    cs = [.int .i64 a, .int .i64 b, .int .i64 c] := by
  obtain ⟨xs, n, -, hx, hl, hn, hf⟩ := DataW.trod_struct Tryd.underlying94 h
  have c3 : Tryd.prog.cellsOf 3 = 1 := by kernel_rfl
  have c46 : Tryd.prog.cellsOf 94 = 3 := by kernel_rfl
  rw [c46] at hl
  simp only [Prod.mk.injEq, DataW.agg.injEq] at hx
  obtain ⟨hx, -⟩ := hx
  match xs, hx with
  | [x0, x1, x2], hx =>
    simp only [List.map_cons, List.map_nil, List.cons.injEq, and_true] at hx
    obtain ⟨e0, e1, e2⟩ := hx
    have f0 : DataW.trod enc Tryd.prog W base sp held n 3 ((cs.drop 0).take (Tryd.prog.cellsOf 3)) = some x0 := hf 0 _ rfl
    have f1 : DataW.trod enc Tryd.prog W base sp held n 3 ((cs.drop 1).take (Tryd.prog.cellsOf 3)) = some x1 := hf 1 _ rfl
    have f2 : DataW.trod enc Tryd.prog W base sp held n 3 ((cs.drop 2).take (Tryd.prog.cellsOf 3)) = some x2 := hf 2 _ rfl
    rw [c3] at f0 f1 f2
    obtain ⟨n0, g0, h0, -⟩ := DataW.trod_int Tryd.underlying3 f0
    obtain ⟨n1, g1, h1, -⟩ := DataW.trod_int Tryd.underlying3 f1
    obtain ⟨n2, g2, h2, -⟩ := DataW.trod_int Tryd.underlying3 f2
    rw [h0] at e0; rw [h1] at e1; rw [h2] at e2
    simp only [DataW.lit.injEq, Lit.int.injEq, true_and] at e0 e1 e2
    subst e0 e1 e2
    match cs, hl with
    | [v0, v1, v2], _ =>
      simp at g0 g1 g2
      rw [g0, g1, g2]

set_option maxRecDepth 100000 in
theorem kd_core {W : World} {g0 : Nat} {t0 : TypeId} {cs0 : Array Value} {f0 : Nat} {p0 : List MemPlace} (hg0 : Tryd.prog.globalNamed "tegula/smallfield.kinds" = some g0) (ht0 : (Tryd.prog.globals[g0]?).map (·.type) = some t0) (hv0 : W.var? Tryd.prog "tegula/smallfield.kinds" = some cs0)
    (hd0 : DataW.trod (fun _ => ()) Tryd.prog W 0 (fun _ => true) false f0 t0 cs0.toList = some (Rows.laid_tegula_smallfield_kinds, p0)) : Kd W := by
  obtain rfl := Option.some.inj (g_kinds.symm.trans hg0)
  obtain rfl := Option.some.inj (t_kinds.symm.trans ht0)
  obtain ⟨xs, n, -, hx, hl, hn, hf⟩ := DataW.trod_array Tryd.underlying95 hd0
  have c46 : Tryd.prog.cellsOf 94 = 3 := by kernel_rfl
  have c47 : Tryd.prog.cellsOf 95 = 21 := by kernel_rfl
  rw [c47] at hl
  rw [c46] at hf
  simp only [Prod.mk.injEq, DataW.agg.injEq, Rows.laid_tegula_smallfield_kinds] at hx
  obtain ⟨hx, -⟩ := hx
  match xs, hn with
  | [x0, x1, x2, x3, x4, x5, x6], _ =>
    simp only [List.map_cons, List.map_nil, List.cons.injEq, and_true] at hx
    obtain ⟨e0, e1, e2, e3, e4, e5, e6⟩ := hx
    obtain ⟨d0, p0⟩ := x0; obtain ⟨d1, p1⟩ := x1; obtain ⟨d2, p2⟩ := x2; obtain ⟨d3, p3⟩ := x3; obtain ⟨d4, p4⟩ := x4; obtain ⟨d5, p5⟩ := x5; obtain ⟨d6, p6⟩ := x6
    simp only at e0 e1 e2 e3 e4 e5 e6
    subst e0 e1 e2 e3 e4 e5 e6
    have k0 := kind_cells (hf 0 (by decide))
    have k1 := kind_cells (hf 1 (by decide))
    have k2 := kind_cells (hf 2 (by decide))
    have k3 := kind_cells (hf 3 (by decide))
    have k4 := kind_cells (hf 4 (by decide))
    have k5 := kind_cells (hf 5 (by decide))
    have k6 := kind_cells (hf 6 (by decide))
    intro j v hv
    have hc := World.var?_cell hg0 hv0 j
    rw [Nat.zero_add] 
    rw [show (⟨1, j, none⟩ : Addr) = ⟨1, j, none⟩ from rfl, hc]
    obtain ⟨L⟩ := cs0
    have cell : ∀ i r : Nat, r < 3 → L[3 * i + r]? = ((L.drop (i * 3)).take 3)[r]? := by
      intro i r hr
      rw [List.getElem?_take, if_pos hr, List.getElem?_drop, Nat.mul_comm]
    have hj : j < 21 := by
      have := (List.getElem?_eq_some_iff.1 hv).1
      simpa [kindC] using this
    rw [List.getElem?_toArray]
    have all : ∀ i r : Nat, i < 7 → r < 3 → L[3 * i + r]? = kindC[3 * i + r]? := by
      intro i r hi hr
      rw [cell i r hr]
      have := hi
      rcases (by omega : i = 0 ∨ i = 1 ∨ i = 2 ∨ i = 3 ∨ i = 4 ∨ i = 5 ∨ i = 6) with rfl | rfl | rfl | rfl | rfl | rfl | rfl <;>
        first
        | (rw [k0]; rcases (by omega : r = 0 ∨ r = 1 ∨ r = 2) with rfl | rfl | rfl <;> rfl)
        | (rw [k1]; rcases (by omega : r = 0 ∨ r = 1 ∨ r = 2) with rfl | rfl | rfl <;> rfl)
        | (rw [k2]; rcases (by omega : r = 0 ∨ r = 1 ∨ r = 2) with rfl | rfl | rfl <;> rfl)
        | (rw [k3]; rcases (by omega : r = 0 ∨ r = 1 ∨ r = 2) with rfl | rfl | rfl <;> rfl)
        | (rw [k4]; rcases (by omega : r = 0 ∨ r = 1 ∨ r = 2) with rfl | rfl | rfl <;> rfl)
        | (rw [k5]; rcases (by omega : r = 0 ∨ r = 1 ∨ r = 2) with rfl | rfl | rfl <;> rfl)
        | (rw [k6]; rcases (by omega : r = 0 ∨ r = 1 ∨ r = 2) with rfl | rfl | rfl <;> rfl)
    have := all (j / 3) (j % 3) (by omega) (by omega)
    rw [show 3 * (j / 3) + j % 3 = j by omega] at this
    rw [this, hv]
theorem kd_of_laid {W : World} (h : laidMetH Tryd.prog [("tegula/smallfield.kinds", Rows.laid_tegula_smallfield_kinds)] W) : Kd W := by
  rw [MakeChecks.laidMetH_plain _ _ _ (by kernel_rfl)] at h
  obtain ⟨ps, ⟨g0, t0, cs0, f0, p0, q0, hg0, ht0, hv0, hd0, _, _⟩, _, _⟩ := h
  exact kd_core hg0 ht0 hv0 hd0
end Go.Proofs.YtnnacofjogfkeaaDoor
