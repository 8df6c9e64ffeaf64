/- Law walks: PlaneProjective, PlaneAffine. WRITTEN BY gen_Wa.py. -/
import Derived.Test.YtnnacofjogfkeaaDoorUp
import Derived.Test.YtnnacofjogfkeaaDoorUq
import Derived.Test.YtnnacofjogfkeaaDoorGK
namespace Go.Proofs.YtnnacofjogfkeaaDoor
open Go Go.RowKit Pl
set_option linter.unusedVariables false
set_option linter.unusedSimpArgs false

theorem Row.rng {w : World} {g : Nat} {t : TypeId} {cs : Array Value} (h : Row w g t cs) : w.rangeAt g 0 cs.toList := fun j v hv => by
  rw [Nat.zero_add, h.cell]; simpa using hv
theorem Row.ran2 {w : World} {g : Nat} {t : TypeId} {a b : Value} (h : Row w g t #[a, b]) : w.rangeAt g 0 [a, b] := h.rng
theorem si2 (a b : Value) : (Tryd.prog.info? 25).map (·.size) = some [a, b].length := by kernel_rfl
theorem same_ag (n : Nat) (L : List (List Nat)) (va vb : Value) (w : World) (ha : Gs w va L) (hb : Gs w vb L) : Calls Tryd.prog 13 #[.agg #[.int .i64 (n : Int), va], .agg #[.int .i64 (n : Int), vb]] w (bel (.bool true) w) := same_any n L va vb w ha hb

end Go.Proofs.YtnnacofjogfkeaaDoor
