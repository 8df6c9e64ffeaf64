/- Opening arguments: slices of bools; the record of a loss. -/
import Derived.Test.YtheijobnmdbodaaGJ
import Derived.Test.YtheijobnmdbodaaDc
import Derived.Deep.Grids
namespace Go.Proofs.Ytheijobnmdbodaa
open Go Go.RowKit Go.ChangeShapes Go.WideShapes Go.ChangeAt

theorem bos_in {H : Type} {enc : TypeId × Value → H} {P : Program} {w : World} {base : Nat} {held : Bool} {t e : TypeId} {a : Option Addr} {len cap : Nat} {x : DataW H × List MemPlace}
    (ht : P.underlying t = some (.slice e)) (he : P.underlying e = some .bool) (hc : P.cellsOf e = 1) (h : ∃ fuel, DataW.trod enc P w base (fun _ => true) held fuel t (Value.slice a len cap).cells.toList = some x) : ∃ l, Bos w (.slice a len cap) l := by
  obtain ⟨fuel, hf⟩ := h
  rcases Go.Deep.open_bools ht he hc hf with ⟨hcs, _⟩ | ⟨ad, l, c, B, hcs, _, hl, hm, _, hcell⟩
  · simp [Value.cells] at hcs
    obtain ⟨rfl, rfl, rfl⟩ := hcs
    exact ⟨[], Sl.nil_ w⟩
  · simp [Value.cells] at hcs
    obtain ⟨rfl, rfl, rfl⟩ := hcs
    refine ⟨(List.range len).map B, some ad, cap, by simp, ⟨by simpa using hl, hm⟩, fun h => (by cases h), fun hn => ?_⟩
    have hn' : 0 < len := by simpa using hn
    obtain ⟨b, off, spot⟩ := ad
    have hspot : spot = none := by
      have h0 := hcell 0 (by omega)
      simpa [Addr.add] using World.cell?_spot h0
    subst hspot
    refine ⟨b, off, rfl, fun k hk => ?_⟩
    have hk' : k < len := by simpa using hk
    have h1 := hcell k (by omega)
    rw [add_plain] at h1
    exact ⟨_, h1, by simp [Bb]⟩
/-- The cells of an array of n blocks. -/
theorem blks_cells {H : Type} {enc : TypeId × Value → H} {P : Program} {w : World} {base n fuel : Nat} {spare : Nat → Bool} {held : Bool} {t e q : TypeId} {cs : List Value} {x : DataW H × List MemPlace}
    (ht : P.underlying t = some (.array n e)) (he : P.underlying e = some (.array 8 q)) (hq : P.underlying q = some (.int .u8)) (cq : P.cellsOf q = 1) (ce : P.cellsOf e = 8) (hl8 : cs.length = n * 8) (hf : DataW.trod enc P w base spare held fuel t cs = some x) :
    ∃ D : List (List Nat), D.length = n ∧ (∀ d ∈ D, B8 d) ∧ cs = D.flatten.map bv := by
  obtain ⟨ys, m, _, _, hlen, hl, hel⟩ := DataW.trod_array ht hf
  obtain ⟨f, hf⟩ := Go.Deep.choose_lt (α := List Nat) (n := n) (p := fun i y => B8 y ∧ (cs.drop (i * 8)).take 8 = y.map bv) (fun i hi => by
    have a := hel i hi
    rw [ce, List.getElem?_eq_getElem (by omega)] at a
    obtain ⟨l, h1, h2, h3⟩ := u8s_cells he hq cq ce a
    exact ⟨l, ⟨h1, h2⟩, h3⟩)
  have hD : ∀ d ∈ (List.range n).map f, B8 d := fun d hd => by
    obtain ⟨i, hi, rfl⟩ := List.mem_map.1 hd
    exact (hf i (List.mem_range.1 hi)).1
  refine ⟨(List.range n).map f, by simp, hD, ?_⟩
  refine List.ext_getElem? fun p => ?_
  rcases Nat.lt_or_ge p (n * 8) with hp | hp
  · have h8 : p % 8 < 8 := Nat.mod_lt _ (by decide)
    have hi : p / 8 < n := by omega
    have e1 := congrArg (fun l => l[p % 8]?) (hf (p / 8) hi).2
    simp only [List.getElem?_take_of_lt h8, List.getElem?_drop] at e1
    rw [show p / 8 * 8 + p % 8 = p by omega] at e1
    have e2 := flat_at (fun d hd => (hD d hd).1) (i := p / 8) (by simpa using hi) h8
    rw [show p / 8 * 8 + p % 8 = p by omega] at e2
    rw [e1, List.getElem?_map, List.getElem?_map, e2]
    simp
  · rw [List.getElem?_eq_none (by omega), List.getElem?_eq_none (by rw [List.length_map, flat_len fun d hd => (hD d hd).1]; simpa using hp)]
/-- The cells of a loss. -/
def lostL (K : List Nat) (C : List (List Nat)) : List Nat := K ++ C.flatten
/-- A loss. -/
theorem lost_in {H : Type} {enc : TypeId × Value → H} {P : Program} {w : World} {base b0 : Nat} {spare : Nat → Bool} {held : Bool} {r : Reach} {t e q : TypeId} {fs : Array Field} {f0 f1 : Field} {v : Value} {d : DataW H} {p : List MemPlace}
    (he : P.underlying t = some (.struct fs)) (h0 : fs[0]? = some f0) (o0 : f0.offset = 0) (h1 : fs[1]? = some f1) (o1 : f1.offset = 3) (t0 : P.underlying f0.type = some (.array 3 q)) (c0 : P.cellsOf f0.type = 3)
    (t1 : P.underlying f1.type = some (.array 3 e)) (c1 : P.cellsOf f1.type = 24) (te : P.underlying e = some (.array 8 q)) (ce : P.cellsOf e = 8) (hq : P.underlying q = some (.int .u8)) (cq : P.cellsOf q = 1) (hC : P.cellsOf t = 27)
    (hv : Value.okWide P w r b0 t v) (h : DataW.Trod enc P w base spare held t v d p) : ∃ (K : List Nat) (C : List (List Nat)), K.length = 3 ∧ (∀ x ∈ K, x < 256) ∧ C.length = 3 ∧ (∀ d ∈ C, B8 d) ∧ v = .agg (bcs (lostL K C)) := by
  obtain ⟨cs, rfl, hsz⟩ : ∃ cs, v = .agg cs ∧ cs.size = P.cellsOf t := by
    simp only [Value.okWide, he] at hv
    obtain ⟨cs, h1, h2, _⟩ := hv
    exact ⟨cs, h1, h2⟩
  rw [hC] at hsz
  obtain ⟨fuel, hf⟩ := h
  obtain ⟨xs, n, _, _, hlen, hl, hel⟩ := DataW.trod_struct he hf
  have hcells : (Value.agg cs).cells = cs := rfl
  rw [hcells] at hel
  have a0 := hel 0 f0 h0
  have a1 := hel 1 f1 h1
  have l0 : 0 < xs.length := by
    have := (Array.getElem?_eq_some_iff.1 h0).1
    omega
  have l1 : 1 < xs.length := by
    have := (Array.getElem?_eq_some_iff.1 h1).1
    omega
  have hll : cs.toList.length = 27 := by simpa using hsz
  rw [o0, c0, List.drop_zero, List.getElem?_eq_getElem l0] at a0
  rw [o1, c1, List.getElem?_eq_getElem l1] at a1
  obtain ⟨K, k1, k2, k3⟩ := u8s_cells t0 hq cq c0 a0
  obtain ⟨C, g1, g2, g3⟩ := blks_cells t1 te hq cq ce (by rw [List.length_take, List.length_drop, hll]; decide) a1
  refine ⟨K, C, k1, k2, g1, g2, ?_⟩
  have : cs.toList = (lostL K C).map bv := by
    unfold lostL
    rw [List.map_append, ← k3, ← g3, List.take_of_length_le (l := cs.toList.drop 3) (by rw [List.length_drop, hll]; decide), List.take_append_drop]
  rw [bcs, ← this]
end Go.Proofs.Ytheijobnmdbodaa
