/- Contracts: the reference's reduced and Independent. -/
import Derived.Test.YtfhgalfdlkdliaaMxl
import Derived.Test.YtfhgalfdlkdliaaMxg
import Derived.Test.YtfhgalfdlkdliaaGfs
namespace Go.Proofs.Ytfhgalfdlkdliaa
open Go Go.RowKit Lin

/-- What is left of a row, as a list. -/
def residL (C k : Nat) (b : List (List Nat)) (l : Nat → Nat) (row : List Nat) : List Nat := (List.range C).map (resid k (el b) l (fun j => row.getD j 0))
theorem leadOf (C : Nat) (v : Nat → Nat) (h : ∃ j, j < C ∧ v j ≠ 0) : ∃ q, Lead C v q := by
  obtain ⟨j, hj, hne⟩ := h
  induction j using Nat.strongRecOn with
  | ind j ih =>
    by_cases h0 : ∀ i, i < j → v i = 0
    · exact ⟨j, hj, hne, h0⟩
    · have : ∃ i, i < j ∧ v i ≠ 0 := by
        apply Classical.byContradiction
        intro hn
        exact h0 fun i hi => Classical.byContradiction fun hv => hn ⟨i, hi, hv⟩
      obtain ⟨i, hi, hv⟩ := this
      exact ih i hi (by omega) hv

end Go.Proofs.Ytfhgalfdlkdliaa
