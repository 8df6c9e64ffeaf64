/- Opening a design: a number and a slice of slices of ints. -/
import Derived.Test.YtnnacofjogfkeaaDoorGQ
import Derived.Test.YtnnacofjogfkeaaDoorGK
namespace Go.Proofs.YtnnacofjogfkeaaDoor
open Go Go.RowKit Go.ChangeShapes Go.WideShapes Go.ChangeAt
set_option linter.unusedVariables false

theorem gi_in {H : Type} {enc : TypeId × Value → H} {P : Program} {w : World} {base fuel : Nat} {held : Bool} {t e q : TypeId} {cs : List Value} {x : DataW H × List MemPlace}
    (ht : P.underlying t = some (.slice e)) (he : P.underlying e = some (.slice q)) (hq : P.underlying q = some (.int .i64)) (ce : P.cellsOf e = 1) (cq : P.cellsOf q = 1)
    (hf : DataW.trod enc P w base (fun _ => true) held fuel t cs = some x) : ∃ (u : Value) (m : List (List Int)), cs = [u] ∧ Gi w u m ∧ ∀ l ∈ m, ∀ n ∈ l, (Lit.int .i64 n).wf = true := by
  rcases Go.Deep.open_int_rows ht he hq ce cq hf with ⟨hcs, _⟩ | ⟨ad, len, cap, A, L, C, Z, hcs, _, hl, hm, _, hrow⟩
  · exact ⟨_, [], hcs, Sl.nil_ w, fun _ h => (by cases h)⟩
  · refine ⟨_, (List.range len).map fun r => (Z r).take (L r), hcs, ⟨some ad, cap, by simp, ⟨by simpa using hl, hm⟩, fun h => (by cases h), fun hn => ?_⟩, fun l hl2 n hn => ?_⟩
    · have hn' : 0 < len := by simpa using hn
      obtain ⟨b, off, spot⟩ := ad
      have hspot : spot = none := by
        have h0 := (hrow 0 (by omega)).1
        simpa [Addr.add] using World.cell?_spot h0
      subst hspot
      refine ⟨b, off, rfl, fun r hr => ?_⟩
      have hr' : r < len := by simpa using hr
      obtain ⟨h1, h2, h3, h4, h5, h6, h7⟩ := hrow r (by omega)
      rw [add_plain] at h1
      refine ⟨_, h1, ?_⟩
      simp only [List.getElem_map, List.getElem_range]
      have hlen : ((Z r).take (L r)).length = L r := by simp; omega
      refine ⟨A r, C r, by rw [hlen], ⟨by omega, h3⟩, h6, fun hn => ?_⟩
      rw [hlen] at hn
      cases hA : A r with
      | none => have := h6 hA; omega
      | some a' =>
        have hc' := (h7 a' hA).2
        obtain ⟨b', off', rfl, hat⟩ := ints_at (zs := Z r) (fun i hi => hc' i (by omega)) (by omega)
        refine ⟨b', off', rfl, fun k hk => ⟨_, hat k (by omega), ?_⟩⟩
        have hk' : k < L r := by omega
        rw [getD_in (show k < (Z r).length by omega)]
        simp [Iv]
    · obtain ⟨r, hr, rfl⟩ := List.mem_map.1 hl2
      rw [List.mem_range] at hr
      exact (hrow r (by omega)).2.2.2.2.1 n (List.mem_of_mem_take hn)
theorem design_in {H : Type} {enc : TypeId × Value → H} {P : Program} {w : World} {base b0 : Nat} {held : Bool} {r : Reach} {t e q : TypeId} {fs : Array Field} {f0 f1 : Field} {v : Value} {d : DataW H} {p : List MemPlace}
    (he : P.underlying t = some (.struct fs)) (h0 : fs[0]? = some f0) (o0 : f0.offset = 0) (h1 : fs[1]? = some f1) (o1 : f1.offset = 1) (t0 : P.underlying f0.type = some (.int .i64)) (c0 : P.cellsOf f0.type = 1)
    (t1 : P.underlying f1.type = some (.slice e)) (c1 : P.cellsOf f1.type = 1) (te : P.underlying e = some (.slice q)) (ce : P.cellsOf e = 1) (hq : P.underlying q = some (.int .i64)) (cq : P.cellsOf q = 1) (hC : P.cellsOf t = 2)
    (hv : Value.okWide P w r b0 t v) (h : DataW.Trod enc P w base (fun _ => true) held t v d p) : ∃ (k : Int) (u : Value) (m : List (List Int)), v = .agg #[.int .i64 k, u] ∧ (Lit.int .i64 k).wf = true ∧ Gi w u m ∧ ∀ l ∈ m, ∀ n ∈ l, (Lit.int .i64 n).wf = true := by
  obtain ⟨cs, rfl, hsz⟩ : ∃ cs, v = .agg cs ∧ cs.size = P.cellsOf t := by
    simp only [Value.okWide, he] at hv
    obtain ⟨cs, h1, h2, _⟩ := hv
    exact ⟨cs, h1, h2⟩
  rw [hC] at hsz
  obtain ⟨fuel, hf⟩ := h
  obtain ⟨xs, n, _, _, hlen, hl, hel⟩ := DataW.trod_struct he hf
  have hcells : (Value.agg cs).cells = cs := rfl
  rw [hcells] at hel
  have a0 := hel 0 f0 h0
  have a1 := hel 1 f1 h1
  have l0 : 0 < xs.length := by
    have := (Array.getElem?_eq_some_iff.1 h0).1
    omega
  have l1 : 1 < xs.length := by
    have := (Array.getElem?_eq_some_iff.1 h1).1
    omega
  have hll : cs.toList.length = 2 := by simpa using hsz
  rw [o0, c0, List.drop_zero, List.getElem?_eq_getElem l0] at a0
  rw [o1, c1, List.getElem?_eq_getElem l1] at a1
  obtain ⟨z, ez, _, wz⟩ := DataW.trod_int t0 a0
  obtain ⟨u, m, eu, hg, hw⟩ := gi_in t1 te hq ce cq a1
  refine ⟨z, u, m, ?_, wz, hg, hw⟩
  obtain ⟨l⟩ := cs
  match l, hll with
  | [c, c'], _ =>
    have e1 : c = .int .i64 z := by simpa using ez
    have e2 : c' = u := by simpa using eu
    rw [e1, e2]
end Go.Proofs.YtnnacofjogfkeaaDoor
