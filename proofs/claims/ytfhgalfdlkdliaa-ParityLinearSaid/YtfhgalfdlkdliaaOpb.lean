/- Opening arguments: arrays of bytes; slices of blocks. -/
import Derived.Test.YtfhgalfdlkdliaaOpen
import Derived.Test.YtfhgalfdlkdliaaPb
import Derived.Deep.Slices
namespace Go.Proofs.Ytfhgalfdlkdliaa
open Go Go.RowKit Go.ChangeShapes Go.WideShapes Go.ChangeAt

theorem u8s_cells {H : Type} {enc : TypeId × Value → H} {P : Program} {w : World} {base fuel n : Nat} {spare : Nat → Bool} {held : Bool} {t e : TypeId} {cs : List Value} {x : DataW H × List MemPlace}
    (ht : P.underlying t = some (.array n e)) (he : P.underlying e = some (.int .u8)) (hc : P.cellsOf e = 1) (hC : P.cellsOf t = n) (h : DataW.trod enc P w base spare held fuel t cs = some x) :
    ∃ l : List Nat, l.length = n ∧ (∀ x ∈ l, x < 256) ∧ cs = l.map bv := by
  obtain ⟨ys, m, _, _, hlen, hl, hel⟩ := DataW.trod_array ht h
  rw [hC] at hlen
  have key : ∀ i (hi : i < n), ∃ x : Nat, x < 256 ∧ cs[i]'(by omega) = bv x := fun i hi => by
    have q := hel i hi
    rw [hc, Nat.mul_one] at q
    have e1 : (cs.drop i).take 1 = [cs[i]'(by omega)] := by
      rw [List.drop_eq_getElem_cons (by omega), List.take_succ_cons, List.take_zero]
    rw [e1, List.getElem?_eq_getElem (by omega)] at q
    obtain ⟨z, ez, _, wz⟩ := DataW.trod_int he q
    obtain ⟨x, rfl, hx⟩ := u8_nat wz
    exact ⟨x, hx, by simpa [bv] using ez⟩
  refine ⟨cs.map fun v => (intOf v).toNat, by simpa using hlen, fun x hx => ?_, ?_⟩
  · obtain ⟨v, hv, rfl⟩ := List.mem_map.1 hx
    obtain ⟨i, hi, rfl⟩ := List.getElem_of_mem hv
    obtain ⟨y, hy, e⟩ := key i (by omega)
    rw [e]; simpa [intOf, bv] using hy
  · rw [List.map_map]
    refine List.ext_getElem (by simp) fun i h1 h2 => ?_
    obtain ⟨y, hy, e⟩ := key i (by omega)
    simp only [List.getElem_map, Function.comp]
    rw [e]; simp [intOf, bv]
theorem bl_in {H : Type} {enc : TypeId × Value → H} {P : Program} {w : World} {base : Nat} {spare : Nat → Bool} {held : Bool} {t e q : TypeId} {a : Option Addr} {len cap : Nat} {x : DataW H × List MemPlace}
    (ht : P.underlying t = some (.slice e)) (he : P.underlying e = some (.array 8 q)) (hq : P.underlying q = some (.int .u8)) (ce : P.cellsOf e = 8) (cq : P.cellsOf q = 1)
    (h : ∃ fuel, DataW.trod enc P w base spare held fuel t (Value.slice a len cap).cells.toList = some x) : ∃ D, Bl w (.slice a len cap) D := by
  obtain ⟨fuel, hf⟩ := h
  rcases Go.Deep.open_slice ht hf with ⟨hcs, _⟩ | ⟨ad, l, c, m, n, DD, Pl, hcs, _, hl, hm, hmm, _, hel⟩
  · simp [Value.cells] at hcs
    obtain ⟨rfl, rfl, rfl⟩ := hcs
    exact ⟨[], Bl.nil_ w⟩
  · simp [Value.cells] at hcs
    obtain ⟨rfl, rfl, rfl⟩ := hcs
    have hlm : len ≤ m := by rw [hmm]; split <;> omega
    obtain ⟨f, hf⟩ := Go.Deep.choose_lt (α := List Nat) (p := fun i b => B8 b ∧ ∀ j, j < 8 → w.cell? (ad.add (i * 8 + j)) = some (.int .u8 ((b.getD j 0 : Nat) : Int))) (n := len) (fun i hi => by
      obtain ⟨cs', h1, h2⟩ := hel i (by omega)
      rw [ce] at h1
      obtain ⟨b, hb, hb2, rfl⟩ := u8s_cells he hq cq ce h2
      obtain ⟨_, _, hc⟩ := World.cells?_some h1
      refine ⟨b, ⟨hb, hb2⟩, fun j hj => ?_⟩
      have := hc j hj
      rw [Go.Deep.add_add, getD_bv (by omega)] at this
      exact this)
    have hD : ∀ d ∈ (List.range len).map f, B8 d := fun d hd => by
      obtain ⟨i, hi, rfl⟩ := List.mem_map.1 hd
      exact (hf i (List.mem_range.1 hi)).1
    refine ⟨(List.range len).map f, some ad, cap, by simp, ⟨by simpa using hl, hm⟩, hD, fun h => (by cases h), fun hn => ?_⟩
    have hn' : 0 < len := by simpa using hn
    obtain ⟨b, off, spot⟩ := ad
    have hspot : spot = none := by
      have h0 := (hf 0 hn').2 0 (by omega)
      simpa [Addr.add] using World.cell?_spot h0
    subst hspot
    refine ⟨b, off, rfl, fun j u hu => ?_⟩
    have hj : j < len * 8 := by
      have := (List.getElem?_eq_some_iff.1 hu).1
      rw [List.length_map, flat_len fun d hd => (hD d hd).1] at this
      simpa using this
    have h8 : j % 8 < 8 := Nat.mod_lt _ (by decide)
    have hi : j / 8 < len := by omega
    have e1 := flat_at (fun d hd => (hD d hd).1) (i := j / 8) (by simpa using hi) h8
    have hB := hf (j / 8) hi
    rw [List.getElem?_map, show j = j / 8 * 8 + j % 8 by omega, e1, List.getElem_map, List.getElem_range, ← List.getElem?_map, getD_bv (by rw [hB.1.1]; exact h8)] at hu
    have := hB.2 (j % 8) h8
    rw [add_plain, show j / 8 * 8 + j % 8 = j by omega] at this
    rw [this]; exact hu
end Go.Proofs.Ytfhgalfdlkdliaa
