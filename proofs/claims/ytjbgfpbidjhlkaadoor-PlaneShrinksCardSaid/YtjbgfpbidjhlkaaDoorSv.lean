/- Law walk: SmallfieldSizes; the reference's Prime. -/
import Derived.Test.YtjbgfpbidjhlkaaDoorSn
import Derived.Test.YtjbgfpbidjhlkaaDoorGK
namespace Go.Proofs.YtjbgfpbidjhlkaaDoor
open Go Go.RowKit
set_option linter.unusedVariables false

/-- The number of digits. -/
def digs (q : Nat) : Nat := [0, 0, 1, 1, 2, 1, 0, 1, 3, 2].getD q 0
theorem rprime_any (q : Nat) (w : World) (hq : q ∈ Sf.sizes) : Calls Tryd.prog 25 #[.int .i64 (q : Int)] w (still (.tuple #[.int .i64 (Sf.prm q : Int), .int .i64 (digs q : Int)]) w) := by
  rcases (show ∀ q ∈ Sf.sizes, q = 2 ∨ q = 3 ∨ q = 4 ∨ q = 5 ∨ q = 7 ∨ q = 8 ∨ q = 9 by decide) q hq with rfl | rfl | rfl | rfl | rfl | rfl | rfl
  all_goals
    clear hq
    go_enter Tryd.func25, Tryd.ntmps25
    go_wp2
    go_ret2
    exact ⟨rfl, rfl⟩

theorem szs_cell {w w' : World} {B : Nat} (h : w.rowIs B 3 7 (fun i => .int .i64 (kS i : Int))) (hb : Below w.heap.size w w') (k : Nat) (hk : k < 7) : w'.cell? ⟨B, k, none⟩ = some (.int .i64 (kS k : Int)) :=
  (hb.cell (World.block_lt_of_cell? w _ (h.cell hk))).trans (h.cell hk)
end Go.Proofs.YtjbgfpbidjhlkaaDoor
