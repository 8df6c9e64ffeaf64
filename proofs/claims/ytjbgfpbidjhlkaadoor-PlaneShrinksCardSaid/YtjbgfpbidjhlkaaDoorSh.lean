/- Contracts: New, Sizes. -/
import Derived.Test.YtjbgfpbidjhlkaaDoorSg
namespace Go.Proofs.YtjbgfpbidjhlkaaDoor
open Go Go.RowKit
set_option linter.unusedVariables false

theorem new_ok (q : Nat) (w : World) (hK : Kd w) (hq : q ∈ Sf.sizes) : Calls Tryd.prog 39 #[.int .i64 (q : Int)] w (newPost q w) := by
  by_cases hp : Sf.prm q = q
  · exact new_prime q w hK hq hp
  · exact new_big q w hK hq ((show ∀ q ∈ Sf.sizes, Sf.prm q ≠ q → q = 4 ∨ q = 8 ∨ q = 9 by decide) q hq hp)

/-- The sizes, in memory. -/
def Szs (w : World) (v : Value) : Prop := ∃ B, v = .slice (some ⟨B, 0, none⟩) 7 7 ∧ w.rowIs B 3 7 (fun i => .int .i64 (kS i : Int))
end Go.Proofs.YtjbgfpbidjhlkaaDoor
