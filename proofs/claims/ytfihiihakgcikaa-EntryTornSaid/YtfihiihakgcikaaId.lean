/- The reference's AppendBlock. WRITTEN BY gen_Id.py. -/
import Derived.Test.YtfihiihakgcikaaIc
import Derived.Test.YtfihiihakgcikaaRr
import Derived.Deep.RegionHeld3
namespace Go.Proofs.Ytfihiihakgcikaa
open Go Go.RowKit
set_option linter.unusedVariables false
set_option linter.unusedSimpArgs false
theorem bs_blk {w : World} {g : Nat} {t : TypeId} {l : List Nat} (h : Row w g t (l.map bv).toArray) (hl : l.length = 8) (h8 : ∀ x ∈ l, x < 256) : Bs w (.slice (some ⟨g, 0, none⟩) 8 8) l :=
  Bs.of_row h hl ⟨by decide, by decide⟩ h8 fun k hk => by rw [List.getElem?_toArray]; exact getD_bv (by omega)
theorem run_blk {g : Nat} : ∀ w, (Instr.sliceAt 24 (.pointer (some ⟨g, 0, none⟩)) none none none).run Try.prog w = .ok (.slice (some ⟨g, 0, none⟩) 8 8) w := by
  intro w
  have hl : Try.prog.arrayLen 24 = 8 := by kernel_rfl
  obtain ⟨i, hi, hzz⟩ := Option.map_eq_some_iff.1 info_u8
  simp only [Prod.mk.injEq] at hzz
  have hel : Try.prog.elem 24 = 5 := by kernel_rfl
  rw [run_sliceAt_array_all w 24 ⟨g, 0, none⟩ (by rw [hl, hel]; exact Try.underlying24), hel, hl]
  simp [sizeOf, typeInfo, hi, hzz.2.1, Result.andThen, slicedAt]
  rfl

end Go.Proofs.Ytfihiihakgcikaa
