/- The contract of the reference's Fused: it appends one byte a round to a slice of its own. -/
import Derived.Test.YtfhgalfdlkdliaaGff
import Derived.Test.YtfhgalfdlkdliaaGfr
import Derived.Deep.DeepMust
import Derived.Deep.RegionHeld3
import Derived.Deep.AppendLies
namespace Go.Proofs.Ytfhgalfdlkdliaa
open Go Go.RowKit

def rfusedPost (d s : List Nat) (c : Nat) (w : World) (e : Ending) (w' : World) : Prop :=
  ∃ v, e = .returned v ∧ Bs w' v (fused d s c) ∧ Below w.heap.size w w'
/-- .. and the list lies in new memory. -/
def rfusedNew (d s : List Nat) (c : Nat) (w : World) (e : Ending) (w' : World) : Prop :=
  ∃ v, e = .returned v ∧ Bs w' v (fused d s c) ∧ (∀ k, v.ownBlock = some k → w.heap.size ≤ k) ∧ Below w.heap.size w w'
theorem fused_take (d s : List Nat) (c k : Nat) (hk : k < d.length) : (fused d s c).take (k + 1) = (fused d s c).take k ++ [d.getD k 0 ^^^ Gf.mul c (s.getD k 0)] := by
  rw [List.take_add_one, List.getElem?_eq_getElem (by rw [fused_len]; exact hk), ← getD_in (x := 0), fused_at d s c k hk]; rfl

end Go.Proofs.Ytfhgalfdlkdliaa
