/- The tables of the fields and of the planes as the row lists them are the tables in memory. -/
import Derived.Test.YtnnacofjogfkeaaDoorSp
import Derived.Test.YtnnacofjogfkeaaDoorYl
namespace Go.Proofs.YtnnacofjogfkeaaDoor
open Go Go.RowKit
set_option linter.unusedVariables false

theorem g_planes : Tryd.prog.globalNamed "tegula/design.planes" = some 0 := by kernel_rfl
theorem t_planes : (Tryd.prog.globals[0]?).map (·.type) = some 60 := by kernel_rfl
set_option maxRecDepth 100000 in
theorem plane_cells {H : Type} {enc : TypeId × Value → H} {W : World} {base : Nat} {sp : Nat → Bool} {held : Bool} {fuel : Nat} {cs : List Value} {a b c : Int} {d : Bool} {p : List MemPlace}
    (h : DataW.trod enc Tryd.prog W base sp held fuel 59 cs = some (.agg [.lit (.int .i64 a), .lit (.int .i64 b), .lit (.int .i64 c), .lit (.bool d)], p)) :
    cs = [.int .i64 a, .int .i64 b, .int .i64 c, .bool d] := by
  obtain ⟨xs, n, -, hx, hl, hn, hf⟩ := DataW.trod_struct Tryd.underlying59 h
  have c3 : Tryd.prog.cellsOf 3 = 1 := by kernel_rfl
  have cb : Tryd.prog.cellsOf 4 = 1 := by kernel_rfl
  have c46 : Tryd.prog.cellsOf 59 = 4 := by kernel_rfl
  rw [c46] at hl
  simp only [Prod.mk.injEq, DataW.agg.injEq] at hx
  obtain ⟨hx, -⟩ := hx
  match xs, hx with
  | [x0, x1, x2, x3], hx =>
    simp only [List.map_cons, List.map_nil, List.cons.injEq, and_true] at hx
    obtain ⟨e0, e1, e2, e3⟩ := hx
    have f0 : DataW.trod enc Tryd.prog W base sp held n 3 ((cs.drop 0).take (Tryd.prog.cellsOf 3)) = some x0 := hf 0 _ rfl
    have f1 : DataW.trod enc Tryd.prog W base sp held n 3 ((cs.drop 1).take (Tryd.prog.cellsOf 3)) = some x1 := hf 1 _ rfl
    have f2 : DataW.trod enc Tryd.prog W base sp held n 3 ((cs.drop 2).take (Tryd.prog.cellsOf 3)) = some x2 := hf 2 _ rfl
    have f3 : DataW.trod enc Tryd.prog W base sp held n 4 ((cs.drop 3).take (Tryd.prog.cellsOf 4)) = some x3 := hf 3 _ rfl
    rw [c3] at f0 f1 f2
    rw [cb] at f3
    obtain ⟨n0, g0, h0, -⟩ := DataW.trod_int Tryd.underlying3 f0
    obtain ⟨n1, g1, h1, -⟩ := DataW.trod_int Tryd.underlying3 f1
    obtain ⟨n2, g2, h2, -⟩ := DataW.trod_int Tryd.underlying3 f2
    obtain ⟨n3, g3, h3⟩ := DataW.trod_bool Tryd.underlying4 f3
    rw [h0] at e0; rw [h1] at e1; rw [h2] at e2; rw [h3] at e3
    simp only [DataW.lit.injEq, Lit.int.injEq, Lit.bool.injEq, true_and] at e0 e1 e2 e3
    subst e0 e1 e2 e3
    match cs, hl with
    | [v0, v1, v2, v3], _ =>
      simp at g0 g1 g2 g3
      rw [g0, g1, g2, g3]
set_option maxRecDepth 100000 in
theorem pd_core {W : World} {g0 : Nat} {t0 : TypeId} {cs0 : Array Value} {f0 : Nat} {p0 : List MemPlace} (hg0 : Tryd.prog.globalNamed "tegula/design.planes" = some g0) (ht0 : (Tryd.prog.globals[g0]?).map (·.type) = some t0) (hv0 : W.var? Tryd.prog "tegula/design.planes" = some cs0)
    (hd0 : DataW.trod (fun _ => ()) Tryd.prog W 0 (fun _ => true) false f0 t0 cs0.toList = some (Rows.laid_tegula_design_planes, p0)) : Pd W := by
  obtain rfl := Option.some.inj (g_planes.symm.trans hg0)
  obtain rfl := Option.some.inj (t_planes.symm.trans ht0)
  obtain ⟨xs, n, -, hx, hl, hn, hf⟩ := DataW.trod_array Tryd.underlying60 hd0
  have c46 : Tryd.prog.cellsOf 59 = 4 := by kernel_rfl
  have c47 : Tryd.prog.cellsOf 60 = 28 := by kernel_rfl
  rw [c47] at hl
  rw [c46] at hf
  simp only [Prod.mk.injEq, DataW.agg.injEq, Rows.laid_tegula_design_planes] at hx
  obtain ⟨hx, -⟩ := hx
  match xs, hn with
  | [x0, x1, x2, x3, x4, x5, x6], _ =>
    simp only [List.map_cons, List.map_nil, List.cons.injEq, and_true] at hx
    obtain ⟨e0, e1, e2, e3, e4, e5, e6⟩ := hx
    obtain ⟨d0, p0⟩ := x0; obtain ⟨d1, p1⟩ := x1; obtain ⟨d2, p2⟩ := x2; obtain ⟨d3, p3⟩ := x3; obtain ⟨d4, p4⟩ := x4; obtain ⟨d5, p5⟩ := x5; obtain ⟨d6, p6⟩ := x6
    simp only at e0 e1 e2 e3 e4 e5 e6
    subst e0 e1 e2 e3 e4 e5 e6
    have k0 := plane_cells (hf 0 (by decide))
    have k1 := plane_cells (hf 1 (by decide))
    have k2 := plane_cells (hf 2 (by decide))
    have k3 := plane_cells (hf 3 (by decide))
    have k4 := plane_cells (hf 4 (by decide))
    have k5 := plane_cells (hf 5 (by decide))
    have k6 := plane_cells (hf 6 (by decide))
    intro j v hv
    have hc := World.var?_cell hg0 hv0 j
    rw [Nat.zero_add] 
    rw [show (⟨0, j, none⟩ : Addr) = ⟨0, j, none⟩ from rfl, hc]
    obtain ⟨L⟩ := cs0
    have cell : ∀ i r : Nat, r < 4 → L[4 * i + r]? = ((L.drop (i * 4)).take 4)[r]? := by
      intro i r hr
      rw [List.getElem?_take, if_pos hr, List.getElem?_drop, Nat.mul_comm]
    have hj : j < 28 := by
      have := (List.getElem?_eq_some_iff.1 hv).1
      simpa [plC] using this
    rw [List.getElem?_toArray]
    have all : ∀ i r : Nat, i < 7 → r < 4 → L[4 * i + r]? = plC[4 * i + r]? := by
      intro i r hi hr
      rw [cell i r hr]
      have := hi
      rcases (by omega : i = 0 ∨ i = 1 ∨ i = 2 ∨ i = 3 ∨ i = 4 ∨ i = 5 ∨ i = 6) with rfl | rfl | rfl | rfl | rfl | rfl | rfl <;>
        first
        | (rw [k0]; rcases (by omega : r = 0 ∨ r = 1 ∨ r = 2 ∨ r = 3) with rfl | rfl | rfl | rfl <;> rfl)
        | (rw [k1]; rcases (by omega : r = 0 ∨ r = 1 ∨ r = 2 ∨ r = 3) with rfl | rfl | rfl | rfl <;> rfl)
        | (rw [k2]; rcases (by omega : r = 0 ∨ r = 1 ∨ r = 2 ∨ r = 3) with rfl | rfl | rfl | rfl <;> rfl)
        | (rw [k3]; rcases (by omega : r = 0 ∨ r = 1 ∨ r = 2 ∨ r = 3) with rfl | rfl | rfl | rfl <;> rfl)
        | (rw [k4]; rcases (by omega : r = 0 ∨ r = 1 ∨ r = 2 ∨ r = 3) with rfl | rfl | rfl | rfl <;> rfl)
        | (rw [k5]; rcases (by omega : r = 0 ∨ r = 1 ∨ r = 2 ∨ r = 3) with rfl | rfl | rfl | rfl <;> rfl)
        | (rw [k6]; rcases (by omega : r = 0 ∨ r = 1 ∨ r = 2 ∨ r = 3) with rfl | rfl | rfl | rfl <;> rfl)
    have := all (j / 4) (j % 4) (by omega) (by omega)
    rw [show 4 * (j / 4) + j % 4 = j by omega] at this
    rw [this, hv]
theorem kd_of_laid2 {W : World} (h : laidMetH Tryd.prog [("tegula/smallfield.kinds", Rows.laid_tegula_smallfield_kinds), ("tegula/design.planes", Rows.laid_tegula_design_planes)] W) : Kd W ∧ Pd W := by
  rw [MakeChecks.laidMetH_plain _ _ _ (by kernel_rfl)] at h
  obtain ⟨ps, ⟨g0, t0, cs0, f0, p0, q0, hg0, ht0, hv0, hd0, ⟨g1, t1, cs1, f1, p1, q1, hg1, ht1, hv1, hd1, _, _⟩, _⟩, _, _⟩ := h
  exact ⟨kd_core hg0 ht0 hv0 hd0, pd_core hg1 ht1 hv1 hd1⟩
end Go.Proofs.YtnnacofjogfkeaaDoor
