/- Opening arguments: arrays of bytes, and arrays of such arrays, by value. -/
import Derived.Test.YtfhgalfdlkdliaaOpen
import Derived.Test.YtfhgalfdlkdliaaBk
import Derived.Deep.Slices
namespace Go.Proofs.Ytfhgalfdlkdliaa
open Go Go.RowKit Go.ChangeShapes Go.WideShapes Go.ChangeAt

theorem u8s_cells {H : Type} {enc : TypeId × Value → H} {P : Program} {w : World} {base fuel n : Nat} {spare : Nat → Bool} {held : Bool} {t e : TypeId} {cs : List Value} {x : DataW H × List MemPlace}
    (ht : P.underlying t = some (.array n e)) (he : P.underlying e = some (.int .u8)) (hc : P.cellsOf e = 1) (hC : P.cellsOf t = n) (h : DataW.trod enc P w base spare held fuel t cs = some x) :
    ∃ l : List Nat, l.length = n ∧ (∀ x ∈ l, x < 256) ∧ cs = l.map bv := by
  obtain ⟨ys, m, _, _, hlen, hl, hel⟩ := DataW.trod_array ht h
  rw [hC] at hlen
  have key : ∀ i (hi : i < n), ∃ x : Nat, x < 256 ∧ cs[i]'(by omega) = bv x := fun i hi => by
    have q := hel i hi
    rw [hc, Nat.mul_one] at q
    have e1 : (cs.drop i).take 1 = [cs[i]'(by omega)] := by
      rw [List.drop_eq_getElem_cons (by omega), List.take_succ_cons, List.take_zero]
    rw [e1, List.getElem?_eq_getElem (by omega)] at q
    obtain ⟨z, ez, _, wz⟩ := DataW.trod_int he q
    obtain ⟨x, rfl, hx⟩ := u8_nat wz
    exact ⟨x, hx, by simpa [bv] using ez⟩
  refine ⟨cs.map fun v => (intOf v).toNat, by simpa using hlen, fun x hx => ?_, ?_⟩
  · obtain ⟨v, hv, rfl⟩ := List.mem_map.1 hx
    obtain ⟨i, hi, rfl⟩ := List.getElem_of_mem hv
    obtain ⟨y, hy, e⟩ := key i (by omega)
    rw [e]; simpa [intOf, bv] using hy
  · rw [List.map_map]
    refine List.ext_getElem (by simp) fun i h1 h2 => ?_
    obtain ⟨y, hy, e⟩ := key i (by omega)
    simp only [List.getElem_map, Function.comp]
    rw [e]; simp [intOf, bv]
theorem grid_in {H : Type} {enc : TypeId × Value → H} {P : Program} {w : World} {base b0 n m : Nat} {spare : Nat → Bool} {held : Bool} {r : Reach} {t e q : TypeId} {v : Value} {d : DataW H} {p : List MemPlace} (hm0 : 0 < m)
    (ht : P.underlying t = some (.array n e)) (he : P.underlying e = some (.array m q)) (hq : P.underlying q = some (.int .u8)) (cq : P.cellsOf q = 1) (ce : P.cellsOf e = m) (hC : P.cellsOf t = n * m) (hv : Value.okWide P w r b0 t v) (h : DataW.Trod enc P w base spare held t v d p) :
    ∃ l : List Nat, l.length = n * m ∧ (∀ x ∈ l, x < 256) ∧ v = .agg (bcs l) := by
  obtain ⟨cs, rfl, hsz⟩ : ∃ cs, v = .agg cs ∧ cs.size = P.cellsOf t := by
    simp only [Value.okWide, ht] at hv
    obtain ⟨cs, h1, h2, _⟩ := hv
    exact ⟨cs, h1, h2⟩
  rw [hC] at hsz
  obtain ⟨fuel, hf⟩ := h
  obtain ⟨ys, mm, _, _, hlen, hl, hel⟩ := DataW.trod_array ht hf
  have : (Value.agg cs).cells = cs := rfl
  rw [this] at hel
  have key : ∀ i (hi : i < n * m), ∃ x : Nat, x < 256 ∧ cs[i]'(by omega) = bv x := fun i hi => by
    have hin : i / m < n := Nat.div_lt_of_lt_mul (by rw [Nat.mul_comm]; exact hi)
    have hjm : i % m < m := Nat.mod_lt _ hm0
    have a := hel (i / m) hin
    rw [ce, List.getElem?_eq_getElem (by omega)] at a
    obtain ⟨l, h1, h2, h3⟩ := u8s_cells he hq cq ce a
    have e1 := congrArg (fun l => l[i % m]?) h3
    simp only [List.getElem?_take_of_lt hjm, List.getElem?_drop] at e1
    have e0 : i / m * m + i % m = i := by rw [Nat.mul_comm]; exact Nat.div_add_mod i m
    rw [e0] at e1
    have hil : i < cs.size := by omega
    have hjl : i % m < l.length := by omega
    have a1 : cs.toList[i]? = some cs[i] := by rw [Array.getElem?_toList, Array.getElem?_eq_getElem hil]
    have a2 : (l.map bv)[i % m]? = some (bv l[i % m]) := by rw [List.getElem?_map, List.getElem?_eq_getElem hjl]; rfl
    rw [a1, a2] at e1
    exact ⟨l[i % m], h2 _ (List.getElem_mem _), Option.some.inj e1⟩
  refine ⟨cs.toList.map fun v => (intOf v).toNat, by simpa using hsz, fun x hx => ?_, ?_⟩
  · obtain ⟨v, hv, rfl⟩ := List.mem_map.1 hx
    obtain ⟨i, hi, rfl⟩ := List.getElem_of_mem hv
    obtain ⟨y, hy, e⟩ := key i (by simpa [hsz] using hi)
    rw [Array.getElem_toList, e]; simpa [intOf, bv] using hy
  · congr 1
    refine Array.ext (by simp [bcs]) fun i h1 h2 => ?_
    obtain ⟨y, hy, e⟩ := key i (by omega)
    rw [e]
    simp [bcs, e, intOf, bv]
end Go.Proofs.Ytfhgalfdlkdliaa
