/- The walk of the law DecodeLocates, another part. WRITTEN BY gen_Vfs.py k. -/
import Derived.Test.YtheijobnmdbodaaVi
import Derived.Test.YtheijobnmdbodaaVj
namespace Go.Proofs.Ytheijobnmdbodaa
open Go Go.RowKit Lin
set_option linter.unusedVariables false
set_option linter.unusedSimpArgs false

theorem locateslaw (D : List (List Nat)) (a : Nat) (K : List Nat) (C : List (List Nat)) (w : World) (h : D.length = 13) (hD : ∀ d ∈ D, B8 d) (ha : a < 256) (hK : K.length = 3) (hKb : ∀ x ∈ K, x < 256) (hC : C.length = 3) (hC8 : ∀ d ∈ C, B8 d) : Calls Try.prog 9 #[.agg (bcs D.flatten), .int .u8 (a : Int), .agg (bcs (lostL K C))] w (lawPost w) := by
  by_cases h0 : C.getD 0 [] = zeroB.1
  · exact locw_x0 D a K C w h hD ha hK hKb hC hC8 h0
  · by_cases h1 : C.getD 1 [] = zeroB.1
    · exact locw_y0 D a K C w h hD ha hK hKb hC hC8 ⟨h0, h1⟩
    · by_cases h2 : K.getD 0 0 % (1 + a % 13 + 3) = K.getD 1 0 % (1 + a % 13 + 3)
      · exact locw_same D a K C w h hD ha hK hKb hC hC8 ⟨h0, h1, h2⟩
      · exact locw_two D a K C w h hD ha hK hKb hC hC8 ⟨h0, h1, h2⟩
end Go.Proofs.Ytheijobnmdbodaa
