/- Contracts of functions that append rows: the reference's Identity, Rows; copied. -/
import Derived.Test.YtfhgalfdlkdliaaMxd
import Derived.Deep.DeepMust
namespace Go.Proofs.Ytfhgalfdlkdliaa
open Go Go.RowKit

theorem cell_new (w : World) (u : Value) (t : TypeId) (n : Nat) (hn : w.heap.size = n) : (w.alloc (.cells #[u] t)).cell? ⟨n, 0, none⟩ = some u := by
  subst hn
  rw [cell_of_row _ _ _ _ _ _ (heap_alloc_new w _)]; rfl
/-- What a push asks, of a row that has just been made. -/
theorem push_facts {w1 w2 : World} {base : Nat} {e : TypeId} {v u : Value} {m : List (List Nat)} {y : List Nat} (h : OwnL Bs w1 base e v m) (hb : Below w1.heap.size w1 w2) (hu : Bs w2 u y) (hn : ∀ k, u.ownBlock = some k → w1.heap.size ≤ k) (t : TypeId) (b : Nat) (hbn : w2.heap.size = b) :
    OwnL Bs (w2.alloc (.cells #[u] t)) base e v m ∧ (w2.alloc (.cells #[u] t)).cell? ⟨b, 0, none⟩ = some u ∧ Bs (w2.alloc (.cells #[u] t)) u y ∧
      (∀ g, v.ownBlock = some g → Off Bs (w2.alloc (.cells #[u] t)) g u y) ∧ u.oneCell' = true := by
  refine ⟨(h.below hb (Nat.le_refl _)).alloc _, cell_new w2 u t _ hbn, hu.alloc _, fun g hg => (hu.alloc _).off_of fun k hk => ?_, ?_⟩
  · have := hn k hk
    have := h.own g hg
    omega
  · obtain ⟨A, c, rfl⟩ := hu.form
    rfl
theorem take_snoc {α : Type} (d : α) (l : List α) (k : Nat) (hk : k < l.length) : l.take (k + 1) = l.take k ++ [l.getD k d] := by
  rw [List.take_add_one, List.getElem?_eq_getElem hk, getD_in hk]; rfl

def msNew (m : List (List Nat)) (w : World) (e : Ending) (w' : World) : Prop :=
  ∃ v, e = .returned v ∧ OwnL Bs w' w.heap.size 27 v m ∧ Below w.heap.size w w'

theorem idL_row (n k : Nat) (hk : k < n) (w : World) (hn : n ≤ maxLen) :
    Bs (w.alloc (.cells ((madeCells #[.int .u8 0] n).setIfInBounds k (.int .u8 1)) 5)) (.slice (some ⟨w.heap.size, 0, none⟩) n n) ((idL n).getD k []) := by
  refine Bs.of_row (t := 5) (heap_alloc_new w _) ((idL_rect n).row k hk).1 ⟨Nat.le_refl _, hn⟩ ((idL_rect n).row k hk).2 fun j hj => ?_
  have e : ((idL n).getD k []).getD j 0 = if j = k then 1 else 0 := gridL_el hk hj
  rw [e, Array.getElem?_setIfInBounds]
  by_cases h : k = j
  · rw [if_pos h, if_pos h.symm, if_pos (by rw [size_madeCells]; exact hk)]; rfl
  · rw [if_neg h, if_neg fun h' => h h'.symm]; simp [madeCells, hj, Nat.mod_one]
/-- All rows have at most 1000 bytes, and there are at most 1000 rows. -/
def Short (m : List (List Nat)) : Prop := m.length ≤ 1000 ∧ ∀ i, i < m.length → (m.getD i []).length ≤ 1000
end Go.Proofs.Ytfhgalfdlkdliaa
