/- The walk of the law on products. WRITTEN BY gen_Nb.py. -/
import Derived.Test.YtfhgalfdlkdliaaNa
namespace Go.Proofs.Ytfhgalfdlkdliaa
open Go Go.RowKit Lin
set_option linter.unusedVariables false

theorem bsame_c (v1 v2 : Value) (d : List Nat) (w : World) (h1 : Bs w v1 d) (h2 : Bs w v2 d) : Calls Try.prog 36 #[v1, v2] w fun e w' => e = .returned (.bool true) ∧ w = w' :=
  (same_any v1 v2 d d w h1 h2).mono fun _ _ ⟨h, hw⟩ => ⟨by rw [h]; simp, hw⟩
theorem smallB_short {m : List (List Nat)} (h : smallB m = true) : Short m := by
  obtain ⟨h1, h2⟩ := (smallB_iff m).1 h
  exact ⟨by omega, fun i hi => by have := h2 i hi; omega⟩
theorem valid_of_rect {r n : Nat} {m : List (List Nat)} (hR : Rect r n m) (h0 : 0 < r) (hn0 : 0 < n) (hr64 : r ≤ 64) (hn64 : n ≤ 64) : validB m = true :=
  (validB_iff m).2 ⟨by rw [hR.len]; omega, by rw [hR.len]; omega, by rw [(hR.row 0 h0).1]; omega, by rw [(hR.row 0 h0).1]; omega, fun i hi => by rw [hR.len] at hi; rw [(hR.row i hi).1, (hR.row 0 h0).1]⟩

end Go.Proofs.Ytfhgalfdlkdliaa
