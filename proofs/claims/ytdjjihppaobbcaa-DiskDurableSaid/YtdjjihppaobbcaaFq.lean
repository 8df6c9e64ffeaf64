/- Layer 13: opening a list of faults; how long it may be. -/
import Derived.Test.YtdjjihppaobbcaaFe
import Derived.Test.YtdjjihppaobbcaaGK
import Derived.SizedLaws
namespace Go.Proofs.Ytdjjihppaobbcaa
open Go Go.RowKit Go.ChangeShapes Go.WideShapes Go.ChangeAt Flt
theorem i64_in {z : Int} (h : (Lit.int .i64 z).wf = true) : -9223372036854775808 ≤ z ∧ z < 9223372036854775808 := by
  have h1 : IntKind.i64.min = -9223372036854775808 := rfl
  have h2 : IntKind.i64.max = 9223372036854775807 := rfl
  simp only [Lit.wf, Bool.and_eq_true, decide_eq_true_eq] at h
  omega
theorem ft_cells {H : Type} {enc : TypeId × Value → H} {P : Program} {w : World} {base fuel : Nat} {spare : Nat → Bool} {held : Bool} {e : TypeId} {fs : Array Field} {f0 f1 f2 : Field} {cs : List Value} {x : DataW H × List MemPlace}
    (he : P.underlying e = some (.struct fs)) (h0 : fs[0]? = some f0) (o0 : f0.offset = 0) (h1 : fs[1]? = some f1) (o1 : f1.offset = 1) (h2 : fs[2]? = some f2) (o2 : f2.offset = 2) (t0 : P.underlying f0.type = some (.int .i64)) (c0 : P.cellsOf f0.type = 1)
    (t1 : P.underlying f1.type = some (.int .i64)) (c1 : P.cellsOf f1.type = 1) (t2 : P.underlying f2.type = some (.int .i64)) (c2 : P.cellsOf f2.type = 1) (ce : P.cellsOf e = 3)
    (h : DataW.trod enc P w base spare held fuel e cs = some x) : ∃ f : F, cs = fcs f ∧ fits [f] := by
  obtain ⟨xs, n, _, _, hlen, hl, hel⟩ := DataW.trod_struct he h
  rw [ce] at hlen
  have a0 := hel 0 f0 h0
  have a1 := hel 1 f1 h1
  have a2 := hel 2 f2 h2
  have l2 : 2 < xs.length := by
    have := (Array.getElem?_eq_some_iff.1 h2).1
    omega
  match cs, hlen with
  | [x0, x1, x2], _ =>
    rw [o0, c0, List.getElem?_eq_getElem (by omega)] at a0
    rw [o1, c1, List.getElem?_eq_getElem (by omega)] at a1
    rw [o2, c2, List.getElem?_eq_getElem (by omega)] at a2
    simp only [List.drop_zero, List.drop_succ_cons, List.take_succ_cons, List.take_zero] at a0 a1 a2
    obtain ⟨z0, e0, _, w0⟩ := DataW.trod_int t0 a0
    obtain ⟨z1, e1, _, w1⟩ := DataW.trod_int t1 a1
    obtain ⟨z2, e2, _, w2⟩ := DataW.trod_int t2 a2
    obtain rfl : x0 = .int .i64 z0 := by simpa using e0
    obtain rfl : x1 = .int .i64 z1 := by simpa using e1
    obtain rfl : x2 = .int .i64 z2 := by simpa using e2
    refine ⟨⟨z0, z1, z2⟩, rfl, fun f hf => ?_⟩
    obtain rfl := List.mem_singleton.1 hf
    exact ⟨i64_in w0, i64_in w1, i64_in w2⟩
theorem fts_in {H : Type} {enc : TypeId × Value → H} {P : Program} {w : World} {base : Nat} {spare : Nat → Bool} {held : Bool} {t e : TypeId} {fs : Array Field} {f0 f1 f2 : Field} {a : Option Addr} {len cap : Nat} {x : DataW H × List MemPlace}
    (ht : P.underlying t = some (.slice e))
    (he : P.underlying e = some (.struct fs)) (h0 : fs[0]? = some f0) (o0 : f0.offset = 0) (h1 : fs[1]? = some f1) (o1 : f1.offset = 1) (h2 : fs[2]? = some f2) (o2 : f2.offset = 2) (t0 : P.underlying f0.type = some (.int .i64)) (c0 : P.cellsOf f0.type = 1)
    (t1 : P.underlying f1.type = some (.int .i64)) (c1 : P.cellsOf f1.type = 1) (t2 : P.underlying f2.type = some (.int .i64)) (c2 : P.cellsOf f2.type = 1) (ce : P.cellsOf e = 3)
    (h : ∃ fuel, DataW.trod enc P w base spare held fuel t (Value.slice a len cap).cells.toList = some x) : ∃ L, Fts w (.slice a len cap) L ∧ (L = [] ∨ ∃ elems sp, x.1 = .slice elems sp ∧ elems.length = L.length) := by
  obtain ⟨fuel, hf⟩ := h
  rcases Go.Deep.open_slice ht hf with ⟨hcs, _⟩ | ⟨ad, l, c, m, n, DD, Pl, hcs, _, hl, hm, hmm, hx, hel⟩
  · simp [Value.cells] at hcs
    obtain ⟨rfl, rfl, rfl⟩ := hcs
    exact ⟨[], Fts.nil_ w, .inl rfl⟩
  · simp [Value.cells] at hcs
    obtain ⟨rfl, rfl, rfl⟩ := hcs
    have hlm : len ≤ m := by rw [hmm]; split <;> omega
    haveI : Inhabited F := ⟨⟨0, 0, 0⟩⟩
    obtain ⟨f, hf⟩ := Go.Deep.choose_lt (α := F) (n := len) (p := fun i o => (∀ j, j < 3 → w.cell? (ad.add (i * 3 + j)) = (fcs o)[j]?) ∧ fits [o]) (fun i hi => by
      obtain ⟨cs', g1, g2⟩ := hel i (by omega)
      rw [ce] at g1
      obtain ⟨o, rfl, hb⟩ := ft_cells he h0 o0 h1 o1 h2 o2 t0 c0 t1 c1 t2 c2 ce g2
      obtain ⟨_, _, hc⟩ := World.cells?_some g1
      refine ⟨o, fun j hj => ?_, hb⟩
      have := hc j hj
      rw [Go.Deep.add_add] at this
      exact this)
    refine ⟨(List.range len).map f, ⟨some ad, cap, by simp, ⟨by simpa using hl, hm⟩, fun g hg => ?_, fun hn => ?_⟩, .inr ⟨_, _, by rw [hx], by simp⟩⟩
    · obtain ⟨i, hi, rfl⟩ := List.mem_map.1 hg
      exact (hf i (List.mem_range.1 hi)).2 _ (List.mem_singleton.2 rfl)
    have hn' : 0 < len := by simpa using hn
    obtain ⟨b, off, spot⟩ := ad
    have hspot : spot = none := by
      have h0 := (hf 0 hn').1 0 (by omega)
      simp at h0
      simpa [Addr.add] using World.cell?_spot h0
    subst hspot
    refine ⟨b, off, rfl, fun k hk => ?_⟩
    have hk' : k < len := by simpa using hk
    intro j v hv
    simp only [List.getElem_map, List.getElem_range] at hv
    have hj : j < 3 := (List.getElem?_eq_some_iff.1 hv).1
    have := (hf k hk').1 j hj
    rw [hv, add_plain] at this
    rw [Nat.add_assoc]
    exact this
end Go.Proofs.Ytdjjihppaobbcaa
