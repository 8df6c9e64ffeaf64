/- Layer 11: the law's same, play. WRITTEN BY gen_Mdl.py. -/
import Derived.Test.YtbaclcpnnompnaaMdj
namespace Go.Proofs.Ytbaclcpnnompnaa
open Go Go.RowKit Med
set_option linter.unusedVariables false
set_option linter.unusedSimpArgs false

theorem md_ne {w : World} {M X c R B T S O : Nat} {l : List Sec} {M' X' c' R' B' T' S' O' : Nat} {l' : List Sec} (h1 : PMd w M X c R B T S O l) (h2 : RMd w M' X' c' R' B' T' S' O' l') : M ≠ X' ∧ M' ≠ X ∧ X ≠ X' ∧ M ≠ M' := by
  obtain ⟨cs, hr, -⟩ := h1.sx
  obtain ⟨cs', hr', -⟩ := h2.sx
  have key : ∀ (a b : Nat) (x y : Array Value) (s t : TypeId), Row w a s x → Row w b t y → s ≠ t → a ≠ b := by
    rintro a b x y s t ha hb hn rfl
    have := ha.symm.trans hb
    injection this with this
    injection this with _ e _
    exact hn e
  exact ⟨key _ _ _ _ _ _ h1.row hr' (by decide), key _ _ _ _ _ _ h2.row hr (by decide), key _ _ _ _ _ _ hr hr' (by decide), key _ _ _ _ _ _ h1.row h2.row (by decide)⟩
theorem rng_fw {w w' : World} {b off : Nat} {cs : List Value} (h : w.rangeAt b off cs) (hb : Below w.heap.size w w') : w'.rangeAt b off cs := fun j v hv => ce_fw (h j v hv) hb
/-- What the law's play returns. -/
def plPost (M X c M' X' c' R B T S O : Nat) (l : List Sec) (w : World) (e : Ending) (w' : World) : Prop := e = .returned (.bool true) ∧ PMd w' M X c R B T S O l ∧ RMd w' M' X' c' R B T S O l ∧ Chg (fun j => j = X ∨ j = X') w w'
end Go.Proofs.Ytbaclcpnnompnaa
