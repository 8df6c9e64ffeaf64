/- Contracts: the law's field, awake, power. -/
import Derived.Test.YtjbgfpbidjhlkaaDoorSj
namespace Go.Proofs.YtjbgfpbidjhlkaaDoor
open Go Go.RowKit
set_option linter.unusedVariables false

theorem sizes_lit (w : World) (t : TypeId) (m : Nat) (hm : m < 7) : (w.alloc (.cells #[.int .i64 2, .int .i64 3, .int .i64 4, .int .i64 5, .int .i64 7, .int .i64 8, .int .i64 9] t)).cell? ⟨w.heap.size, m, none⟩ = some (.int .i64 (kS m : Int)) := by
  rw [cell_of_row _ _ _ _ _ _ (heap_alloc_new w _)]
  rcases (by omega : m = 0 ∨ m = 1 ∨ m = 2 ∨ m = 3 ∨ m = 4 ∨ m = 5 ∨ m = 6) with rfl | rfl | rfl | rfl | rfl | rfl | rfl <;> rfl
def fieldPost (q : Nat) (w : World) (e : Ending) (w' : World) : Prop := ∃ u, e = .returned (.tuple #[u, .int .i64 (q : Int), .bool true]) ∧ Fd w' u q ∧ Below w.heap.size w w'
/-- The law's power. -/
def powF (q a n : Nat) : Nat := Sf.rep (fun x => Sf.mulF q x a) (if n < 9 then n else 9) 1
theorem pow_lt {q a n : Nat} (hq : q ∈ Sf.sizes) (ha : a < q) : powF q a n < q := Sf.rep_lt (fun s hs => Sf.mul_lt hq hs ha) _ _ (by have := (Sf.prm_ok hq).2.2.2.1; omega)
end Go.Proofs.YtjbgfpbidjhlkaaDoor
