/- The walks of the laws on Valid and Identity, and on products. -/
import Derived.Test.YtfhgalfdlkdliaaMxp
namespace Go.Proofs.Ytfhgalfdlkdliaa
open Go Go.RowKit Lin

theorem bt {w a b : World} (h1 : Below w.heap.size w a) (h2 : Below a.heap.size a b) : Below w.heap.size w b := h1.trans (h2.mono h1.size)
theorem bd {w a : World} {B : Nat} (h1 : Below B w a) (q : Nat) : Below B w (a.drewN q) := h1.trans (Dr.below ⟨q, rfl⟩ _)
theorem Ms.to {w w' : World} {v : Value} {m : List (List Nat)} (h : Ms w v m) (hb : Below w.heap.size w w') : Ms w' v m := Sl.keeps Bs.keeps _ _ _ _ h (Below.toSame hb)
theorem Is.to {w w' : World} {v : Value} {m : List Int} (h : Is w v m) (hb : Below w.heap.size w w') : Is w' v m := Sl.keeps Iv.keeps _ _ _ _ h (Below.toSame hb)
theorem Bs.to {w w' : World} {v : Value} {l : List Nat} (h : Bs w v l) (hb : Below w.heap.size w w') : Bs w' v l := h.below hb
theorem bd2 {w a a' : World} {B : Nat} (h1 : Below B w a) (h2 : Dr a a') : Below B w a' := h1.trans (h2.below _)
theorem Ms.dr {w w' : World} {v : Value} {m : List (List Nat)} (h : Ms w v m) (hd : Dr w w') : Ms w' v m := Sl.keeps Bs.keeps _ _ _ _ h hd.same
theorem Is.dr {w w' : World} {v : Value} {m : List Int} (h : Is w v m) (hd : Dr w w') : Is w' v m := Sl.keeps Iv.keeps _ _ _ _ h hd.same
theorem Bs.dr {w w' : World} {v : Value} {l : List Nat} (h : Bs w v l) (hd : Dr w w') : Bs w' v l := h.keep hd.same.2
theorem valid_b (v : Value) (m : List (List Nat)) (w : World) (b : Bool) (h : Ms w v m) (hb : validB m = b) : Calls Try.prog 32 #[v] w fun e w' => e = .returned (.bool b) ∧ w = w' :=
  (valid_any v m w h).mono fun _ _ ⟨he, hw⟩ => ⟨by rw [he, hb], hw⟩
theorem idL_valid (n : Nat) (h1 : 1 ≤ n) (h2 : n ≤ 64) : validB (idL n) = true :=
  (validB_iff _).2 ⟨by rw [(idL_rect n).len]; omega, by rw [(idL_rect n).len]; omega, by rw [((idL_rect n).row 0 h1).1]; omega, by rw [((idL_rect n).row 0 h1).1]; omega, fun i hi => by rw [(idL_rect n).len] at hi; rw [((idL_rect n).row i hi).1, ((idL_rect n).row 0 h1).1]⟩

end Go.Proofs.Ytfhgalfdlkdliaa
