/- Contracts: common, Meet, Join. WRITTEN BY gen_Ui.py. -/
import Derived.Test.YtnnacofjogfkeaaDoorGO
namespace Go.Proofs.YtnnacofjogfkeaaDoor
open Go Go.RowKit Pl
set_option linter.unusedVariables false
set_option linter.unusedSimpArgs false

theorem Spc.list {w : World} {S q : Nat} (h : Spc w S q) : ∃ g cap, w.cell? ⟨S, 1, none⟩ = some (.slice (some ⟨g, 0, none⟩) (cN q) cap) := by
  obtain ⟨u, g, cap, M, h1, h2, h3⟩ := h; exact ⟨g, cap, h2⟩
theorem wp_mapPt {w : World} {o : Oper} {a : Act} {K : Act → World → Prop} {Q : Exit → Act → World → Prop} (m x : Operand) (ho : o.op = .lookup 78 m x false)
    (M q n : Nat) (c : C3) (h : Mp w M (all q)) (hq : q ∈ szs) (hn : n < cN q) (hc : pt q n = c) (hm : a.eval m = .map (some M)) (hx : a.eval x = .agg (ka c))
    (hK : K (a.put o.dst (.int .i64 (n : Int))) w) : o.wp Tryd.prog a w K Q := by
  have hl : n < (all q).length := by rw [all_pt hq]; simpa using hn
  have e : (all q)[n] = pt q n := by rw [← getD_in (x := (0, 0, 0)) hl]; exact all_at hq hn
  exact wp_mapGet m x ho M q n (all q) h (by have := (szs_ok hq).2.2.1; omega) hl (by rw [e]; exact (pt_el hq hn).1) hm (by rw [e, hc]; exact hx) hK

end Go.Proofs.YtnnacofjogfkeaaDoor
