/- Contracts: awake. WRITTEN BY gen_Sn.py. -/
import Derived.Test.YtjbgfpbidjhlkaaDoorSk
namespace Go.Proofs.YtjbgfpbidjhlkaaDoor
open Go Go.RowKit
set_option linter.unusedVariables false

def awakePost (w : World) (e : Ending) (w' : World) : Prop := e = .returned (.bool true) ∧ Below w.heap.size w w'
end Go.Proofs.YtjbgfpbidjhlkaaDoor
