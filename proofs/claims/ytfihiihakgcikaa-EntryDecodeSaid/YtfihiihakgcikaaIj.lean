/- The reference's Bytes. -/
import Derived.Test.YtfihiihakgcikaaIh
namespace Go.Proofs.Ytfihiihakgcikaa
open Go Go.RowKit
set_option linter.unusedVariables false
set_option linter.unusedSimpArgs false
theorem Bs.cap {w : World} {A : Option Addr} {m c : Nat} {l : List Nat} (h : Bs w (.slice A m c) l) : m = l.length ∧ m ≤ c ∧ c ≤ maxLen := by
  obtain ⟨A', c', e, hm, -⟩ := h
  injection e with e1 e2 e3
  subst e2 e3
  exact ⟨rfl, hm⟩
theorem bs_take {w : World} {A : Option Addr} {N c k : Nat} {l : List Nat} (h : Bs w (.slice A N c) l) (hk : k ≤ N) : Bs w (.slice A k c) (l.take k) := by
  obtain ⟨A', c', e, hm, hl, hn, hcell⟩ := h
  injection e with e1 e2 e3
  subst e1 e2 e3
  refine ⟨A, c, by rw [List.length_take, Nat.min_eq_left hk], by rw [List.length_take]; omega, fun x hx => hl x (List.mem_of_mem_take hx), hn, fun h => ?_⟩
  rw [List.length_take] at h
  obtain ⟨b, off, rfl, hq⟩ := hcell (by omega)
  refine ⟨b, off, rfl, fun j hj => ?_⟩
  rw [List.length_take] at hj
  rw [hq j (by omega)]
  congr 3
  rw [getD_in (by omega), getD_in (by rw [List.length_take]; omega), List.getElem_take]
theorem bs_from {w : World} {A : Option Addr} {N c k : Nat} {l : List Nat} (h : Bs w (.slice A N c) l) (hk : k ≤ N) : Bs w (.slice (if c = k then A else A.map (fun a => a.add k)) (N - k) (c - k)) (l.drop k) := by
  have h2 := h
  obtain ⟨A', c', e, hm, hl, hn, hcell⟩ := h
  injection e with e1 e2 e3
  subst e1 e2 e3
  by_cases hc : c = k
  · rw [if_pos hc]
    have e0 : l.drop k = [] := List.drop_eq_nil_of_le (by omega)
    rw [e0]
    exact ⟨A, c - k, by rw [show l.length - k = 0 by omega]; rfl, ⟨Nat.zero_le _, by omega⟩, fun _ h => (by cases h), fun h => by have := hn h; omega, fun h => absurd h (Nat.lt_irrefl 0)⟩
  · rw [if_neg hc]
    rcases A with _ | ad
    · have h0 := hn rfl
      have e0 : l.drop k = [] := List.drop_eq_nil_of_le (by omega)
      rw [e0]
      exact ⟨none, c - k, by rw [show l.length - k = 0 by omega]; rfl, ⟨Nat.zero_le _, by omega⟩, fun _ h => (by cases h), fun h => by omega, fun h => absurd h (Nat.lt_irrefl 0)⟩
    · refine ⟨some (ad.add k), c - k, by rw [List.length_drop]; rfl, by rw [List.length_drop]; omega, fun x hx => hl x (List.mem_of_mem_drop hx), fun h => (by cases h), fun h => ?_⟩
      rw [List.length_drop] at h
      obtain ⟨b, off, h6, hq⟩ := hcell (by omega)
      cases h6
      refine ⟨b, off + k, by rw [Go.WideShapes.add_plain], fun j hj => ?_⟩
      rw [List.length_drop] at hj
      rw [Nat.add_assoc, hq (k + j) (by omega)]
      congr 3
      rw [getD_in (by omega), getD_in (by rw [List.length_drop]; omega), List.getElem_drop]
theorem own_same {A A' : Option Addr} {n k c c' m' : Nat} {g : Nat} (he : A' = A ∨ A' = A.map (fun a => a.add k)) (hg : (Value.slice A' m' c').ownBlock = some g) : (Value.slice A n c).ownBlock = some g := by
  rcases he with rfl | rfl
  · cases A' with
    | none => cases hg
    | some a => exact hg
  · rcases A with _ | ⟨b, off, sp⟩
    · cases hg
    · cases sp <;> (simp [Value.ownBlock, Addr.add] at hg ⊢; split at hg <;> exact hg)
/-- Bytes: a value, in new memory. -/
def bPost (l : List Nat) (bad : Bool) (R : World → List Nat → Bool → Prop) (o : Nat → Prop) (w : World) (e : Ending) (w' : World) : Prop :=
  ∃ v, e = .returned (.tuple #[v, .int .i64 ((Cod.rB l bad).2.1 : Int)]) ∧ Bs w' v (Cod.rB l bad).1 ∧ (∀ k, v.ownBlock = some k → w.heap.size ≤ k) ∧ R w' (Cod.rB l bad).2.2.1 (Cod.rB l bad).2.2.2 ∧ Chg o w w'
namespace Cod
theorem rB_none {l : List Nat} {bad : Bool} (h : dec 0 l = none) : rB l bad = ([], 5, [], true) := by unfold rB; rw [h]
theorem rB_in {l r : List Nat} {bad : Bool} {n : Nat} (h : dec 0 l = some (n, r)) (hn : n ≤ r.length) : rB l bad = (r.take n, 0, r.drop n, bad) := by unfold rB; rw [h]; exact if_neg (by omega)
theorem rB_out {l r : List Nat} {bad : Bool} {n : Nat} (h : dec 0 l = some (n, r)) (hn : r.length < n) : rB l bad = ([], 5, [], true) := by unfold rB; rw [h]; exact if_pos hn
end Cod
end Go.Proofs.Ytfihiihakgcikaa
