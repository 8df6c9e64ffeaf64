/- Contract of the reference's Independent. -/
import Derived.Test.YtfhgalfdlkdliaaMxr
namespace Go.Proofs.Ytfhgalfdlkdliaa
open Go Go.RowKit Lin

theorem bt' {w a b : World} (h1 : Below w.heap.size w a) (h2 : Below a.heap.size a b) : Below w.heap.size w b := h1.trans (h2.mono h1.size)
def indPost (C R : Nat) (m : List (List Nat)) (w : World) (e : Ending) (w' : World) : Prop :=
  ∃ v, e = .returned v ∧ Is w' v (natsI (indF C (el m) R)) ∧ Below w.heap.size w w'
/-- What stands behind i rows. -/
def indRel (C i base : Nat) (m : List (List Nat)) (w wr : World) (vr vb : Value) : Prop :=
  Below w.heap.size w wr ∧ base ≤ wr.heap.size ∧ OwnL Iv wr base 3 vr (natsI (indF C (el m) i)) ∧ ∃ b l k, Rect k C b ∧ BI C i (el m) (el b) k l ∧ (indF C (el m) i).length = k ∧ OwnX Bs wr base 27 vb vr.ownBlock b
theorem residL_getD {C k R : Nat} {m b : List (List Nat)} {l : Nat → Nat} {i : Nat} (hm : Rect R C m) (hb : Rect k C b) (j : Nat) : (residL C k b l (m.getD i [])).getD j 0 = resid k (el b) l (el m i) j := by
  rcases Nat.lt_or_ge j C with h | h
  · unfold residL; rw [range_getD _ _ _ _ h]; rfl
  · rw [getD_out (by simpa [residL] using h)]
    unfold resid
    rw [hm.out_col i h, xs_zero _ _ fun n _ => by rw [hb.out_col n h, Gf.mul_zero]]
    rfl
/-- The basis with the new row. -/
def basisF (b : List (List Nat)) (row : List Nat) (q : Nat) : List (List Nat) := (b.map fun r => fused r (normF row q) (r.getD q 0)) ++ [normF row q]
theorem getD_app {α : Type} (a c : List α) (i : Nat) (d : α) : (a ++ c).getD i d = if i < a.length then a.getD i d else c.getD (i - a.length) d := by
  rw [List.getD_eq_getElem?_getD, List.getElem?_append]
  split <;> rw [List.getD_eq_getElem?_getD]
theorem basis_getD {k C : Nat} {b : List (List Nat)} (hb : Rect k C b) (row : List Nat) (q i : Nat) : (basisF b row q).getD i [] = if i < k then fused (b.getD i []) (normF row q) (el b i q) else if i = k then normF row q else [] := by
  unfold basisF
  rw [getD_app, List.length_map, hb.len]
  by_cases h : i < k
  · rw [if_pos h, if_pos h, getD_in (l := List.map _ _) (by rw [List.length_map, hb.len]; exact h)]
    simp only [List.getElem_map]
    unfold el
    rw [getD_in (l := b) (by rw [hb.len]; exact h)]
  · rw [if_neg h, if_neg h]
    by_cases e : i = k
    · rw [if_pos e, e, Nat.sub_self]; rfl
    · rw [if_neg e, getD_out (by simp; omega)]
theorem basis_el {k C : Nat} {b : List (List Nat)} (hb : Rect k C b) {row : List Nat} (hl : row.length = C) (q : Nat) (r : Nat → Nat) (hr : ∀ j, row.getD j 0 = r j) : el (basisF b row q) = pushed (el b) k q r := by
  funext i j
  have hn : ∀ j, (normF row q).getD j 0 = Gf.mul (Gf.inv (r q)) (r j) := fun j => by rw [normF_at, hr, hr]
  have e : el (basisF b row q) i j = ((basisF b row q).getD i []).getD j 0 := rfl
  rw [e, basis_getD hb]
  unfold pushed
  rcases Nat.lt_trichotomy i k with h | h | h
  · rw [if_pos h, if_neg (by omega), fused_getD _ _ _ _ (by rw [(hb.row i h).1, normF_len, hl]), hn]; rfl
  · rw [if_neg (by omega), if_pos h, if_pos h]; exact hn j
  · rw [if_neg (by omega), if_neg (by omega), if_neg (by omega), hb.out_row (by omega), hb.out_row (by omega), Gf.zero_mul]; rfl
theorem basis_rect {k C : Nat} {b : List (List Nat)} (hb : Rect k C b) {row : List Nat} (hl : row.length = C) (hrb : ∀ x ∈ row, x < 256) (q : Nat) : Rect (k + 1) C (basisF b row q) := by
  refine ⟨by simp [basisF, hb.len], fun i hi => ?_⟩
  rw [basis_getD hb]
  by_cases h : i < k
  · rw [if_pos h]
    exact ⟨by rw [fused_len]; exact (hb.row i h).1, fused_bytes _ _ _ (hb.row i h).2 (hb.by i q)⟩
  · rw [if_neg h, if_pos (by omega)]
    exact ⟨by rw [normF_len, hl], normF_bytes _ _ hrb⟩

end Go.Proofs.Ytfhgalfdlkdliaa
