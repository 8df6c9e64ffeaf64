/- Slices of bytes in memory: what a slice reads as, and the blocks that a call makes itself. -/
import Derived.WalkKit
import Derived.WalkSpells
import Derived.WalkLawsBesides
import Derived.Lib.Hide
namespace Go.Proofs.Ytlggemhgoipjmaa
open Go Go.RowKit

theorem getD_in {α : Type} {l : List α} {k : Nat} {x : α} (h : k < l.length) : l.getD k x = l[k] := by simp [List.getD, List.getElem?_eq_getElem h]
theorem getD_out {α : Type} {l : List α} {k : Nat} {x : α} (h : l.length ≤ k) : l.getD k x = x := by simp [List.getD, List.getElem?_eq_none h]

/-- The slice value `v` reads as the bytes `l`. -/
def Bs (w : World) (v : Value) (l : List Nat) : Prop :=
  ∃ A c, v = .slice A l.length c ∧ l.length ≤ maxLen ∧ (∀ x ∈ l, x < 256) ∧
    (0 < l.length → ∃ b off, A = some ⟨b, off, none⟩ ∧ ∀ k, k < l.length → w.cell? ⟨b, off + k, none⟩ = some (.int .u8 ((l.getD k 0 : Nat) : Int)))

/-- Block `g` is just these cells of element type `t`, none frozen. -/
def Row (w : World) (g : Nat) (t : TypeId) (cs : Array Value) : Prop := w.heap[g]? = some (.cells cs t (0, 0))

section
variable {w w' : World} {g : Nat} {t : TypeId} {cs : Array Value} {v : Value} {l : List Nat}
theorem Row.lt (h : Row w g t cs) : g < w.heap.size := by
  rcases Nat.lt_or_ge g w.heap.size with hlt | hge
  · exact hlt
  · unfold Row at h; rw [Array.getElem?_eq_none hge] at h; cases h
theorem Row.cell (h : Row w g t cs) (i : Nat) : w.cell? ⟨g, i, none⟩ = cs[i]? := cell_of_row w g i cs t (0, 0) h
theorem Row.frozen (h : Row w g t cs) (i : Nat) : w.frozen? ⟨g, i, none⟩ = false := by
  unfold Row at h
  simp [World.frozen?, h]
theorem Row.store (h : Row w g t cs) (i : Nat) (u : Value) : Row (w.setCell ⟨g, i, none⟩ u) g t (cs.setIfInBounds i u) := by
  unfold Row at h ⊢
  simp [World.setCell, Array.getElem?_modify, h]
theorem Row.below {B : Nat} (h : Row w g t cs) (hb : Below B w w') (hg : g < B) : Row w' g t cs := (hb.block g hg).trans h

theorem Bs.keep (h : Bs w v l) (hk : ∀ p : Addr, p.block < w.heap.size → w'.cell? p = w.cell? p) : Bs w' v l := by
  obtain ⟨A, c, rfl, hm, hl, hc⟩ := h
  refine ⟨A, c, rfl, hm, hl, fun hn => ?_⟩
  obtain ⟨b, off, rfl, hcell⟩ := hc hn
  refine ⟨b, off, rfl, fun k hk' => ?_⟩
  rw [hk ⟨b, off + k, none⟩ (World.block_lt_of_cell? w _ (hcell k hk'))]
  exact hcell k hk'
theorem Bs.below (h : Bs w v l) (hb : Below w.heap.size w w') : Bs w' v l := h.keep fun _ hp => hb.cell hp
theorem Bs.lt (h : Bs w v l) : ∀ x ∈ l, x < 256 := by obtain ⟨_, _, _, _, hl, _⟩ := h; exact hl
theorem Bs.len (h : Bs w v l) : l.length ≤ maxLen := by obtain ⟨_, _, _, hm, _⟩ := h; exact hm
theorem Bs.nil_ (w : World) : Bs w (.slice none 0 0) [] := ⟨none, 0, rfl, by decide, fun _ h => (by cases h), fun h => absurd h (by decide)⟩
theorem Bs.getD_lt (h : Bs w v l) (k : Nat) : l.getD k 0 < 256 := by
  rcases Nat.lt_or_ge k l.length with hk | hk
  · rw [getD_in hk]; exact h.lt _ (List.getElem_mem hk)
  · rw [getD_out hk]; decide
/-- A whole row of bytes reads as a slice. -/
theorem Bs.of_row {n c : Nat} (h : Row w g t cs) (hl : l.length = n) (hm : n ≤ maxLen) (hb : ∀ x ∈ l, x < 256) (hc : ∀ k, k < n → cs[k]? = some (.int .u8 ((l.getD k 0 : Nat) : Int))) :
    Bs w (.slice (some ⟨g, 0, none⟩) n c) l := by
  subst hl
  refine ⟨_, c, rfl, hm, hb, fun _ => ⟨g, 0, rfl, fun k hk => ?_⟩⟩
  rw [Nat.zero_add, h.cell]; exact hc k hk
end

/-- The string of some bytes. -/
def strOf (l : List Nat) : ByteArray := strOfNums (l.map fun x : Nat => (x : Int))
theorem strOf_toList (l : List Nat) : (strOf l).toList = l.map UInt8.ofNat := by
  rw [ByteArray.toList_eq, strOf, strOfNums_data, List.map_map]
  exact List.map_congr_left fun x _ => by simp
theorem strOf_eq (d s : List Nat) (hd : ∀ x ∈ d, x < 256) (hs : ∀ x ∈ s, x < 256) : ((strOf d).toList == (strOf s).toList) = decide (d = s) := by
  rw [strOf_toList, strOf_toList, Bool.eq_iff_iff, beq_iff_eq, decide_eq_true_eq]
  constructor
  · intro h
    have h' := congrArg (List.map UInt8.toNat) h
    rw [List.map_map, List.map_map] at h'
    have key : ∀ l : List Nat, (∀ x ∈ l, x < 256) → l.map (UInt8.toNat ∘ UInt8.ofNat) = l := fun l hl => by
      conv => rhs; rw [← List.map_id l]
      refine List.map_congr_left fun x hx => ?_
      have := hl x hx
      simp; omega
    rw [key d hd, key s hs] at h'
    exact h'
  · rintro rfl; rfl
theorem conv_bs {P : Program} {w : World} {v : Value} {l : List Nat} (src e dst : TypeId) (hs : P.underlying src = some (.slice e)) (he : P.underlying e = some (.int .u8)) (hd : P.underlying dst = some .string) (h : Bs w v l) :
    (convert src dst v).run P w = .ok (.string (strOf l)) w := by
  obtain ⟨A, c, rfl, -, -, hc⟩ := h
  by_cases h0 : 0 < l.length
  · obtain ⟨b, off, rfl, hcell⟩ := hc h0
    refine run_convert_bytes_arg w src e hs he b off l.length c _ (by simp) (fun i hi => ?_) dst hd
    rw [hcell i hi]
    simp [List.getD, List.getElem?_map, List.getElem?_eq_getElem hi]
  · obtain rfl : l = [] := List.length_eq_zero_iff.1 (by omega)
    rw [run_convert_bytes_string w src dst e _ _ c hs he hd]
    cases A <;> simp [Conv.bytesToString, loadCells]
    all_goals rfl
end Go.Proofs.Ytlggemhgoipjmaa
