/- Opening arguments: a block, an array of blocks, by value. -/
import Derived.Test.YtfhgalfdlkdliaaOpb
namespace Go.Proofs.Ytfhgalfdlkdliaa
open Go Go.RowKit Go.ChangeShapes Go.WideShapes Go.ChangeAt

theorem agg_in {H : Type} {enc : TypeId × Value → H} {P : Program} {w : World} {base b0 n : Nat} {spare : Nat → Bool} {held : Bool} {r : Reach} {t e : TypeId} {v : Value} {d : DataW H} {p : List MemPlace}
    (ht : P.underlying t = some (.array n e)) (he : P.underlying e = some (.int .u8)) (hc : P.cellsOf e = 1) (hC : P.cellsOf t = n) (hv : Value.okWide P w r b0 t v) (h : DataW.Trod enc P w base spare held t v d p) :
    ∃ l : List Nat, l.length = n ∧ (∀ x ∈ l, x < 256) ∧ v = .agg (bcs l) := by
  obtain ⟨cs, rfl, hsz⟩ : ∃ cs, v = .agg cs ∧ cs.size = P.cellsOf t := by
    simp only [Value.okWide, ht] at hv
    obtain ⟨cs, h1, h2, _⟩ := hv
    exact ⟨cs, h1, h2⟩
  obtain ⟨fuel, hf⟩ := h
  obtain ⟨l, h1, h2, h3⟩ := u8s_cells ht he hc hC hf
  refine ⟨l, h1, h2, ?_⟩
  have h4 : cs.toList = l.map bv := h3
  rw [bcs, ← h4]
theorem blk_in {H : Type} {enc : TypeId × Value → H} {P : Program} {w : World} {base b0 : Nat} {spare : Nat → Bool} {held : Bool} {r : Reach} {t e : TypeId} {v : Value} {d : DataW H} {p : List MemPlace}
    (ht : P.underlying t = some (.array 8 e)) (he : P.underlying e = some (.int .u8)) (hc : P.cellsOf e = 1) (hC : P.cellsOf t = 8) (hv : Value.okWide P w r b0 t v) (h : DataW.Trod enc P w base spare held t v d p) :
    ∃ b : Blk, v = .agg (bcs b.1) := by
  obtain ⟨l, h1, h2, h3⟩ := agg_in ht he hc hC hv h
  exact ⟨⟨l, h1, h2⟩, h3⟩
/-- An array of n blocks. -/
theorem blks_in {H : Type} {enc : TypeId × Value → H} {P : Program} {w : World} {base b0 n : Nat} {spare : Nat → Bool} {held : Bool} {r : Reach} {t e q : TypeId} {v : Value} {d : DataW H} {p : List MemPlace}
    (ht : P.underlying t = some (.array n e)) (he : P.underlying e = some (.array 8 q)) (hq : P.underlying q = some (.int .u8)) (cq : P.cellsOf q = 1) (ce : P.cellsOf e = 8) (hC : P.cellsOf t = n * 8) (hv : Value.okWide P w r b0 t v) (h : DataW.Trod enc P w base spare held t v d p) :
    ∃ D : List (List Nat), D.length = n ∧ (∀ d ∈ D, B8 d) ∧ v = .agg (bcs D.flatten) := by
  obtain ⟨cs, rfl, hsz⟩ : ∃ cs, v = .agg cs ∧ cs.size = P.cellsOf t := by
    simp only [Value.okWide, ht] at hv
    obtain ⟨cs, h1, h2, _⟩ := hv
    exact ⟨cs, h1, h2⟩
  rw [hC] at hsz
  obtain ⟨fuel, hf⟩ := h
  obtain ⟨ys, m, _, _, hlen, hl, hel⟩ := DataW.trod_array ht hf
  have : (Value.agg cs).cells = cs := rfl
  rw [this] at hel
  obtain ⟨f, hf⟩ := Go.Deep.choose_lt (α := List Nat) (n := n) (p := fun i y => B8 y ∧ (cs.toList.drop (i * 8)).take 8 = y.map bv) (fun i hi => by
    have a := hel i hi
    rw [ce, List.getElem?_eq_getElem (by omega)] at a
    obtain ⟨l, h1, h2, h3⟩ := u8s_cells he hq cq ce a
    exact ⟨l, ⟨h1, h2⟩, h3⟩)
  have hD : ∀ d ∈ (List.range n).map f, B8 d := fun d hd => by
    obtain ⟨i, hi, rfl⟩ := List.mem_map.1 hd
    exact (hf i (List.mem_range.1 hi)).1
  refine ⟨(List.range n).map f, by simp, hD, ?_⟩
  have e : cs.toList = ((List.range n).map f).flatten.map bv := by
    refine List.ext_getElem? fun p => ?_
    rcases Nat.lt_or_ge p (n * 8) with hp | hp
    · have h8 : p % 8 < 8 := Nat.mod_lt _ (by decide)
      have hi : p / 8 < n := by omega
      have e1 := congrArg (fun l => l[p % 8]?) (hf (p / 8) hi).2
      simp only [List.getElem?_take_of_lt h8, List.getElem?_drop] at e1
      rw [show p / 8 * 8 + p % 8 = p by omega] at e1
      have e2 := flat_at (fun d hd => (hD d hd).1) (i := p / 8) (by simpa using hi) h8
      rw [show p / 8 * 8 + p % 8 = p by omega] at e2
      rw [e1, List.getElem?_map, List.getElem?_map, e2]
      simp
    · rw [List.getElem?_eq_none (by simpa [hsz] using hp), List.getElem?_eq_none (by rw [List.length_map, flat_len fun d hd => (hD d hd).1]; simpa using hp)]
  rw [bcs, ← e]
end Go.Proofs.Ytfhgalfdlkdliaa
