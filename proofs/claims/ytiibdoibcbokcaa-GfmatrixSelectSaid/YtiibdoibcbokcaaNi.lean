/- The walk of the law on Select. WRITTEN BY gen_Nf.py. -/
import Derived.Test.YtiibdoibcbokcaaNg
import Derived.Test.YtiibdoibcbokcaaNh
namespace Go.Proofs.Ytiibdoibcbokcaa
open Go Go.RowKit Lin
set_option linter.unusedVariables false

theorem selectlaw_walk (v0 v1 v2 : Value) (a : List (List Nat)) (ri ci : List Int) (w : World) (h0 : Ms w v0 a) (h1 : Is w v1 ri) (h2 : Is w v2 ci) : Calls Try.prog 6 #[v0, v1, v2] w (lawPost w) := by
  by_cases s0 : smallB a = true
  · by_cases hl : ri.length ≤ 70
    · by_cases hl2 : ci.length ≤ 70
      · by_cases hv : validB a = true
        · obtain ⟨r, n, hR, k0, k2, k1, k3⟩ := Rect.of_valid h0 hv
          by_cases hp : 1 ≤ ri.length ∧ ri.length ≤ 64
          · by_cases hq : 1 ≤ ci.length ∧ ci.length ≤ 64
            · by_cases hg : belowB ri r = true ∧ belowB ci n = true
              · exact selw_ok v0 v1 v2 a ri ci w h0 h1 h2 s0 hl hl2 hR k0 k1 k2 k3 hp hq hg.1 hg.2
              · exact selw_range v0 v1 v2 a ri ci w h0 h1 h2 s0 hl hl2 hR k0 k1 k2 k3 hp hq hg
            · exact selw_arg v0 v1 v2 a ri ci w h0 h1 h2 s0 hl hl2 hR k0 k1 k2 k3 (by omega)
          · exact selw_arg v0 v1 v2 a ri ci w h0 h1 h2 s0 hl hl2 hR k0 k1 k2 k3 (by omega)
        · exact selw_inv v0 v1 v2 a ri ci w h0 h1 h2 s0 hl hl2 (by simpa using hv)
      · exact selw_c v0 v1 v2 a ri ci w h0 h1 h2 s0 hl (by omega)
    · exact selw_r v0 v1 v2 a ri ci w h0 h1 h2 s0 (by omega)
  · exact selw_e v0 v1 v2 a ri ci w h0 h1 h2 (by simpa using s0)
end Go.Proofs.Ytiibdoibcbokcaa
