/- Contracts: the reference's Rows, Apply, Mul. -/
import Derived.Test.YtfhgalfdlkdliaaMxe
namespace Go.Proofs.Ytfhgalfdlkdliaa
open Go Go.RowKit

/-- A matrix of r rows of n bytes each, open. -/
def MsAt (w : World) (b off r n : Nat) (m : List (List Nat)) : Prop := ∀ i, i < r → ∃ b' o' c', w.cell? ⟨b, off + i, none⟩ = some (.slice (some ⟨b', o', none⟩) n c') ∧ Bs w (.slice (some ⟨b', o', none⟩) n c') (m.getD i []) ∧ (n ≤ c' ∧ c' ≤ maxLen) ∧ ∀ k, k < n → w.cell? ⟨b', o' + k, none⟩ = some (.int .u8 ((el m i k : Nat) : Int))
theorem MsAt.keep {w w' : World} {b off r n : Nat} {m : List (List Nat)} (h : MsAt w b off r n m) (hs : Same w w') : MsAt w' b off r n m := fun i hi => by
  obtain ⟨b', o', c', h1, h2, h3, h4⟩ := h i hi
  exact ⟨b', o', c', (hs.2 _ (World.block_lt_of_cell? w _ h1)).trans h1, h2.keep hs.2, h3, fun k hk => (hs.2 _ (World.block_lt_of_cell? w _ (h4 k hk))).trans (h4 k hk)⟩
theorem Ms.open_ {w : World} {v : Value} {m : List (List Nat)} {r n : Nat} (h : Ms w v m) (hR : Rect r n m) (hr : 0 < r) (hn : 0 < n) : ∃ b off c, v = .slice (some ⟨b, off, none⟩) r c ∧ (r ≤ c ∧ c ≤ maxLen) ∧ MsAt w b off r n m := by
  obtain ⟨b, off, c, hv, hm, hrow⟩ := Ms.at_ h (by rw [hR.len]; exact hr)
  rw [hR.len] at hv hm
  refine ⟨b, off, c, hv, hm, fun i hi => ?_⟩
  obtain ⟨A, c', q, hb⟩ := hrow i (by rw [hR.len]; exact hi)
  have hl := (hR.row i hi).1
  obtain ⟨b', o', c'', hv', hm', hcell⟩ := Bs.at_ hb (by omega)
  rw [hl] at q hb hv' hm' hcell
  injection hv' with e1 e2 e3
  subst e1 e3
  exact ⟨b', o', c', q, hb, hm', hcell⟩
theorem Rect.of_valid {w : World} {v : Value} {m : List (List Nat)} (h : Ms w v m) (hv : validB m = true) : ∃ r n, Rect r n m ∧ 1 ≤ r ∧ r ≤ 64 ∧ 1 ≤ n ∧ n ≤ 64 := by
  obtain ⟨h1, h2, h3, h4, h5⟩ := (validB_iff m).1 hv
  refine ⟨m.length, (m.getD 0 []).length, ⟨rfl, fun i hi => ⟨h5 i hi, ?_⟩⟩, h1, h2, h3, h4⟩
  obtain ⟨b, off, c, _, _, hrow⟩ := Ms.at_ h h1
  obtain ⟨A, c', _, hb⟩ := hrow i hi
  exact hb.lt

def rowsL (m : List (List Nat)) (rows : List Nat) : List (List Nat) := rows.map fun i => m.getD i []
def natsI (l : List Nat) : List Int := l.map fun x : Nat => (x : Int)
theorem natsI_len (l : List Nat) : (natsI l).length = l.length := by simp [natsI]
theorem natsI_at (l : List Nat) (k : Nat) (hk : k < l.length) : (natsI l).getD k 0 = ((l.getD k 0 : Nat) : Int) := by
  rw [getD_in (by rw [natsI_len]; exact hk), getD_in hk]; simp [natsI]

end Go.Proofs.Ytfhgalfdlkdliaa
