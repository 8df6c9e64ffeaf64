/- Laws MediaOps, MediaClone. WRITTEN BY gen_Mdm.py. -/
import Derived.Test.YtbaclcpnnompnaaMdl
namespace Go.Proofs.Ytbaclcpnnompnaa
open Go Go.RowKit Med
set_option linter.unusedVariables false
set_option linter.unusedSimpArgs false

theorem geo_cells {w : World} {g : Nat} {t : TypeId} {a b c d e : Value} (h : Row w g t #[a, b, c, d, e]) : w.cell? ⟨g, 0, none⟩ = some a ∧ w.cell? ⟨g, 1, none⟩ = some b ∧ w.cell? ⟨g, 2, none⟩ = some c ∧ w.cell? ⟨g, 3, none⟩ = some d ∧ w.cell? ⟨g, 4, none⟩ = some e := by
  refine ⟨?_, ?_, ?_, ?_, ?_⟩ <;> (rw [h.cell]; rfl)
theorem Geo.fair_nat {r b t s o : Int} (h : Geo.fair r b t s o) : ∃ R B T S O : Nat, r = R ∧ b = B ∧ t = T ∧ s = S ∧ o = O := by
  obtain ⟨h, -⟩ := h
  unfold Geo.GV at h
  exact ⟨r.toNat, b.toNat, t.toNat, s.toNat, o.toNat, by omega, by omega, by omega, by omega, by omega⟩
end Go.Proofs.Ytbaclcpnnompnaa
