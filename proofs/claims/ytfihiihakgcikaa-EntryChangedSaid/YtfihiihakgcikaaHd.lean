/- Contracts: the reference's Sum and Combine; two byte strings joined. -/
import Derived.Test.YtfihiihakgcikaaHc
import Derived.Test.YtfihiihakgcikaaGK
import Derived.Deep.DeepMust
namespace Go.Proofs.Ytfihiihakgcikaa
open Go Go.RowKit
set_option linter.unusedVariables false
set_option linter.unusedSimpArgs false
set_option maxHeartbeats 400000 in
set_option maxRecDepth 100000 in
theorem rcrcsum_any (v : Value) (b : List Nat) (w : World) (hb : Bs w v b) :
    Calls Try.prog 22 #[v] w fun e w' => e = .returned (.int .u64 (Crc.crc b : Nat)) ∧ w = w' := by
  have U := Lib.hid (rcrcupd_any 0 v b w (by decide) hb)
  obtain ⟨A1, c1, rfl⟩ := hb.form
  clear hb
  generalize b.length = n at *
  go_enter Try.func22, Try.ntmps22
  go_wp2_with (go_at_call 24; refine U.out.mono ?_; rintro e w' ⟨rfl, rfl⟩)
  go_ret
  exact ⟨rfl, rfl⟩
/-- Two byte strings joined, in new memory. -/
def bsNew (l : List Nat) (w : World) (e : Ending) (w' : World) : Prop := ∃ v, e = .returned v ∧ Bs w' v l ∧ (∀ k, v.ownBlock = some k → w.heap.size ≤ k) ∧ Below w.heap.size w w'
theorem bs_grown {w w1 w2 : World} {v u : Value} {b : List Nat} (h : Bs w u b) (hb : Below w.heap.size w w1) (hg : w1.grownBy w2 v.ownBlock) (hs : w.heap.size ≤ w1.heap.size) (ho : ∀ k, v.ownBlock = some k → w.heap.size ≤ k) : Bs w2 u b :=
  h.below (hb.grown hg hs ho)
end Go.Proofs.Ytfihiihakgcikaa
