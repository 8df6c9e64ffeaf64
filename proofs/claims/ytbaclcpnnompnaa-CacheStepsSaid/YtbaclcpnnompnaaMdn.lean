/- Opening arguments: operations. -/
import Derived.Test.YtbaclcpnnompnaaMdj
import Derived.Test.YtbaclcpnnompnaaGK
namespace Go.Proofs.Ytbaclcpnnompnaa
open Go Go.RowKit Go.ChangeShapes Go.WideShapes Go.ChangeAt
theorem op_cells {H : Type} {enc : TypeId × Value → H} {P : Program} {w : World} {base fuel : Nat} {spare : Nat → Bool} {held : Bool} {e q : TypeId} {fs : Array Field} {f0 f1 f2 : Field} {cs : List Value} {x : DataW H × List MemPlace}
    (he : P.underlying e = some (.struct fs)) (h0 : fs[0]? = some f0) (o0 : f0.offset = 0) (h1 : fs[1]? = some f1) (o1 : f1.offset = 1) (h2 : fs[2]? = some f2) (o2 : f2.offset = 2) (t0 : P.underlying f0.type = some .bool) (c0 : P.cellsOf f0.type = 1)
    (t1 : P.underlying f1.type = some (.int .i64)) (c1 : P.cellsOf f1.type = 1) (t2 : P.underlying f2.type = some (.slice q)) (c2 : P.cellsOf f2.type = 1) (hq : P.underlying q = some (.int .u8)) (cq : P.cellsOf q = 1) (ce : P.cellsOf e = 3)
    (h : DataW.trod enc P w base spare held fuel e cs = some x) : ∃ (o : Med.Op) (u : Value), cs = [.bool o.erase, .int .i64 o.pos, u] ∧ Bs w u o.bytes := by
  obtain ⟨xs, n, _, _, hlen, hl, hel⟩ := DataW.trod_struct he h
  rw [ce] at hlen
  have a0 := hel 0 f0 h0
  have a1 := hel 1 f1 h1
  have a2 := hel 2 f2 h2
  have l2 : 2 < xs.length := by
    have := (Array.getElem?_eq_some_iff.1 h2).1
    omega
  match cs, hlen with
  | [x0, x1, x2], _ =>
    rw [o0, c0, List.getElem?_eq_getElem (by omega)] at a0
    rw [o1, c1, List.getElem?_eq_getElem (by omega)] at a1
    rw [o2, c2, List.getElem?_eq_getElem (by omega)] at a2
    simp only [List.drop_zero, List.drop_succ_cons, List.take_succ_cons, List.take_zero] at a0 a1 a2
    obtain ⟨b, eb, _⟩ := DataW.trod_bool t0 a0
    obtain ⟨z, ez, _, wz⟩ := DataW.trod_int t1 a1
    obtain ⟨l, hb⟩ : ∃ l, Bs w x2 l := by
      rcases Go.Deep.open_slice t2 a2 with ⟨hcs, _⟩ | ⟨ad, len, cap, m, k, D, Pl, hcs, _⟩
      · obtain rfl : x2 = .slice none 0 0 := by simpa using hcs
        exact ⟨[], Bs.nil_ w⟩
      · obtain rfl : x2 = .slice (some ad) len cap := by simpa using hcs
        exact bs_in t2 hq cq ⟨_, a2⟩
    obtain rfl : x0 = .bool b := by simpa using eb
    obtain rfl : x1 = .int .i64 z := by simpa using ez
    exact ⟨⟨b, z, l⟩, x2, rfl, hb⟩
theorem ops_in {H : Type} {enc : TypeId × Value → H} {P : Program} {w : World} {base : Nat} {spare : Nat → Bool} {held : Bool} {t e q : TypeId} {fs : Array Field} {f0 f1 f2 : Field} {a : Option Addr} {len cap : Nat} {x : DataW H × List MemPlace}
    (ht : P.underlying t = some (.slice e))
    (he : P.underlying e = some (.struct fs)) (h0 : fs[0]? = some f0) (o0 : f0.offset = 0) (h1 : fs[1]? = some f1) (o1 : f1.offset = 1) (h2 : fs[2]? = some f2) (o2 : f2.offset = 2) (t0 : P.underlying f0.type = some .bool) (c0 : P.cellsOf f0.type = 1)
    (t1 : P.underlying f1.type = some (.int .i64)) (c1 : P.cellsOf f1.type = 1) (t2 : P.underlying f2.type = some (.slice q)) (c2 : P.cellsOf f2.type = 1) (hq : P.underlying q = some (.int .u8)) (cq : P.cellsOf q = 1) (ce : P.cellsOf e = 3)
    (h : ∃ fuel, DataW.trod enc P w base spare held fuel t (Value.slice a len cap).cells.toList = some x) : ∃ L, Ols w (.slice a len cap) L := by
  obtain ⟨fuel, hf⟩ := h
  rcases Go.Deep.open_slice ht hf with ⟨hcs, _⟩ | ⟨ad, l, c, m, n, DD, Pl, hcs, _, hl, hm, hmm, _, hel⟩
  · simp [Value.cells] at hcs
    obtain ⟨rfl, rfl, rfl⟩ := hcs
    exact ⟨[], none, 0, rfl, ⟨Nat.le_refl _, by decide⟩, fun h => absurd h (Nat.lt_irrefl 0)⟩
  · simp [Value.cells] at hcs
    obtain ⟨rfl, rfl, rfl⟩ := hcs
    have hlm : len ≤ m := by rw [hmm]; split <;> omega
    haveI : Inhabited Med.Op := ⟨⟨false, 0, []⟩⟩
    obtain ⟨f, hf⟩ := Go.Deep.choose_lt (α := Med.Op) (n := len) (p := fun i o => ∃ u, (∀ j, j < 3 → w.cell? (ad.add (i * 3 + j)) = ([.bool o.erase, .int .i64 o.pos, u] : List Value)[j]?) ∧ Bs w u o.bytes) (fun i hi => by
      obtain ⟨cs', g1, g2⟩ := hel i (by omega)
      rw [ce] at g1
      obtain ⟨o, u, rfl, hb⟩ := op_cells he h0 o0 h1 o1 h2 o2 t0 c0 t1 c1 t2 c2 hq cq ce g2
      obtain ⟨_, _, hc⟩ := World.cells?_some g1
      refine ⟨o, u, fun j hj => ?_, hb⟩
      have := hc j hj
      rw [Go.Deep.add_add] at this
      exact this)
    refine ⟨(List.range len).map f, some ad, cap, by simp, ⟨by simpa using hl, hm⟩, fun hn => ?_⟩
    have hn' : 0 < len := by simpa using hn
    obtain ⟨b, off, spot⟩ := ad
    have hspot : spot = none := by
      obtain ⟨u, h0, _⟩ := hf 0 hn'
      have h0 := h0 0 (by omega)
      simp at h0
      simpa [Addr.add] using World.cell?_spot h0
    subst hspot
    refine ⟨b, off, rfl, fun k hk => ?_⟩
    have hk' : k < len := by simpa using hk
    obtain ⟨u, hc, hb⟩ := hf k hk'
    simp only [List.getElem_map, List.getElem_range]
    have e0 := hc 0 (by omega)
    have e1 := hc 1 (by omega)
    have e2 := hc 2 (by omega)
    rw [add_plain] at e0 e1 e2
    exact ⟨e0, e1, u, e2, hb⟩
theorem op_in {H : Type} {enc : TypeId × Value → H} {P : Program} {w : World} {base b0 : Nat} {spare : Nat → Bool} {held : Bool} {r : Reach} {e q : TypeId} {fs : Array Field} {f0 f1 f2 : Field} {v : Value} {d : DataW H} {p : List MemPlace}
    (he : P.underlying e = some (.struct fs)) (h0 : fs[0]? = some f0) (o0 : f0.offset = 0) (h1 : fs[1]? = some f1) (o1 : f1.offset = 1) (h2 : fs[2]? = some f2) (o2 : f2.offset = 2) (t0 : P.underlying f0.type = some .bool) (c0 : P.cellsOf f0.type = 1)
    (t1 : P.underlying f1.type = some (.int .i64)) (c1 : P.cellsOf f1.type = 1) (t2 : P.underlying f2.type = some (.slice q)) (c2 : P.cellsOf f2.type = 1) (hq : P.underlying q = some (.int .u8)) (cq : P.cellsOf q = 1) (ce : P.cellsOf e = 3)
    (hv : Value.okWide P w r b0 e v) (h : DataW.Trod enc P w base spare held e v d p) : ∃ (o : Med.Op) (u : Value), v = .agg #[.bool o.erase, .int .i64 o.pos, u] ∧ Bs w u o.bytes := by
  obtain ⟨cs, rfl, hsz⟩ : ∃ cs, v = .agg cs ∧ cs.size = P.cellsOf e := by
    simp only [Value.okWide, he] at hv
    obtain ⟨cs, h1, h2, _⟩ := hv
    exact ⟨cs, h1, h2⟩
  obtain ⟨fuel, hf⟩ := h
  have : (Value.agg cs).cells = cs := rfl
  rw [this] at hf
  obtain ⟨o, u, e1, hb⟩ := op_cells he h0 o0 h1 o1 h2 o2 t0 c0 t1 c1 t2 c2 hq cq ce hf
  refine ⟨o, u, ?_, hb⟩
  rw [← e1]
end Go.Proofs.Ytbaclcpnnompnaa
