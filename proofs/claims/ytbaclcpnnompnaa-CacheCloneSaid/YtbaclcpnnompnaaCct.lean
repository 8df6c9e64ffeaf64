/- Opening arguments: steps. -/
import Derived.Test.YtbaclcpnnompnaaCcm
import Derived.Test.YtbaclcpnnompnaaMdn
namespace Go.Proofs.Ytbaclcpnnompnaa
open Go Go.RowKit Go.ChangeShapes Go.WideShapes Go.ChangeAt
theorem stp_cells {H : Type} {enc : TypeId × Value → H} {P : Program} {w : World} {base fuel : Nat} {spare : Nat → Bool} {held : Bool} {e0 e q : TypeId} {gs fs : Array Field} {g0 g1 g2 f0 f1 f2 : Field} {cs : List Value} {x : DataW H × List MemPlace}
    (he0 : P.underlying e0 = some (.struct gs)) (k0 : gs[0]? = some g0) (p0 : g0.offset = 0) (k1 : gs[1]? = some g1) (p1 : g1.offset = 1) (k2 : gs[2]? = some g2) (p2 : g2.offset = 4) (u0 : P.underlying g0.type = some (.int .u8)) (d0 : P.cellsOf g0.type = 1)
    (u1 : g1.type = e) (u2 : P.underlying g2.type = some (.int .i64)) (d2 : P.cellsOf g2.type = 1) (ce0 : P.cellsOf e0 = 5)
    (he : P.underlying e = some (.struct fs)) (h0 : fs[0]? = some f0) (o0 : f0.offset = 0) (h1 : fs[1]? = some f1) (o1 : f1.offset = 1) (h2 : fs[2]? = some f2) (o2 : f2.offset = 2) (t0 : P.underlying f0.type = some .bool) (c0 : P.cellsOf f0.type = 1)
    (t1 : P.underlying f1.type = some (.int .i64)) (c1 : P.cellsOf f1.type = 1) (t2 : P.underlying f2.type = some (.slice q)) (c2 : P.cellsOf f2.type = 1) (hq : P.underlying q = some (.int .u8)) (cq : P.cellsOf q = 1) (ce : P.cellsOf e = 3)
    (h : DataW.trod enc P w base spare held fuel e0 cs = some x) : ∃ (s : Stp) (u : Value), s.kind < 256 ∧ cs = [.int .u8 (s.kind : Int), .bool s.op.erase, .int .i64 s.op.pos, u, .int .i64 s.keep] ∧ Bs w u s.op.bytes := by
  obtain ⟨xs, n, _, _, hlen, hl, hel⟩ := DataW.trod_struct he0 h
  rw [ce0] at hlen
  have a0 := hel 0 g0 k0
  have a1 := hel 1 g1 k1
  have a2 := hel 2 g2 k2
  have l2 : 2 < xs.length := by
    have := (Array.getElem?_eq_some_iff.1 k2).1
    omega
  match cs, hlen with
  | [x0, x1, x2, x3, x4], _ =>
    rw [p0, d0, List.getElem?_eq_getElem (by omega)] at a0
    rw [p1, u1, ce, List.getElem?_eq_getElem (by omega)] at a1
    rw [p2, d2, List.getElem?_eq_getElem (by omega)] at a2
    simp only [List.drop_zero, List.drop_succ_cons, List.take_succ_cons, List.take_zero] at a0 a1 a2
    obtain ⟨y, ey, _, wy⟩ := DataW.trod_int u0 a0
    obtain ⟨z, ez, _, wz⟩ := DataW.trod_int u2 a2
    obtain ⟨m, rfl, hm⟩ := u8_nat wy
    obtain ⟨o, u, eo, hb⟩ := op_cells he h0 o0 h1 o1 h2 o2 t0 c0 t1 c1 t2 c2 hq cq ce a1
    obtain rfl : x0 = .int .u8 (m : Int) := by simpa using ey
    obtain rfl : x4 = .int .i64 z := by simpa using ez
    injection eo with e1 eo
    injection eo with e2 eo
    injection eo with e3 _
    subst e1 e2 e3
    exact ⟨⟨m, o, z⟩, x3, hm, rfl, hb⟩
theorem stps_in {H : Type} {enc : TypeId × Value → H} {P : Program} {w : World} {base : Nat} {spare : Nat → Bool} {held : Bool} {t e0 e q : TypeId} {gs fs : Array Field} {g0 g1 g2 f0 f1 f2 : Field} {a : Option Addr} {len cap : Nat} {x : DataW H × List MemPlace}
    (ht : P.underlying t = some (.slice e0))
    (he0 : P.underlying e0 = some (.struct gs)) (k0 : gs[0]? = some g0) (p0 : g0.offset = 0) (k1 : gs[1]? = some g1) (p1 : g1.offset = 1) (k2 : gs[2]? = some g2) (p2 : g2.offset = 4) (u0 : P.underlying g0.type = some (.int .u8)) (d0 : P.cellsOf g0.type = 1)
    (u1 : g1.type = e) (u2 : P.underlying g2.type = some (.int .i64)) (d2 : P.cellsOf g2.type = 1) (ce0 : P.cellsOf e0 = 5)
    (he : P.underlying e = some (.struct fs)) (h0 : fs[0]? = some f0) (o0 : f0.offset = 0) (h1 : fs[1]? = some f1) (o1 : f1.offset = 1) (h2 : fs[2]? = some f2) (o2 : f2.offset = 2) (t0 : P.underlying f0.type = some .bool) (c0 : P.cellsOf f0.type = 1)
    (t1 : P.underlying f1.type = some (.int .i64)) (c1 : P.cellsOf f1.type = 1) (t2 : P.underlying f2.type = some (.slice q)) (c2 : P.cellsOf f2.type = 1) (hq : P.underlying q = some (.int .u8)) (cq : P.cellsOf q = 1) (ce : P.cellsOf e = 3)
    (h : ∃ fuel, DataW.trod enc P w base spare held fuel t (Value.slice a len cap).cells.toList = some x) : ∃ L, Sls w (.slice a len cap) L := by
  obtain ⟨fuel, hf⟩ := h
  rcases Go.Deep.open_slice ht hf with ⟨hcs, _⟩ | ⟨ad, l, c, m, n, DD, Pl, hcs, _, hl, hm, hmm, _, hel⟩
  · simp [Value.cells] at hcs
    obtain ⟨rfl, rfl, rfl⟩ := hcs
    exact ⟨[], Sls.nil_ _⟩
  · simp [Value.cells] at hcs
    obtain ⟨rfl, rfl, rfl⟩ := hcs
    have hlm : len ≤ m := by rw [hmm]; split <;> omega
    haveI : Inhabited Stp := ⟨⟨0, ⟨false, 0, []⟩, 0⟩⟩
    obtain ⟨f, hf⟩ := Go.Deep.choose_lt (α := Stp) (n := len) (p := fun i s => ∃ u, s.kind < 256 ∧ (∀ j, j < 5 → w.cell? (ad.add (i * 5 + j)) = ([.int .u8 (s.kind : Int), .bool s.op.erase, .int .i64 s.op.pos, u, .int .i64 s.keep] : List Value)[j]?) ∧ Bs w u s.op.bytes) (fun i hi => by
      obtain ⟨cs', y1, y2⟩ := hel i (by omega)
      rw [ce0] at y1
      obtain ⟨s, u, hk, rfl, hb⟩ := stp_cells he0 k0 p0 k1 p1 k2 p2 u0 d0 u1 u2 d2 ce0 he h0 o0 h1 o1 h2 o2 t0 c0 t1 c1 t2 c2 hq cq ce y2
      obtain ⟨_, _, hc⟩ := World.cells?_some y1
      refine ⟨s, u, hk, fun j hj => ?_, hb⟩
      have := hc j hj
      rw [Go.Deep.add_add] at this
      exact this)
    refine ⟨(List.range len).map f, some ad, cap, by simp, ⟨by simpa using hl, hm⟩, fun hn => ?_⟩
    have hn' : 0 < len := by simpa using hn
    obtain ⟨b, off, spot⟩ := ad
    have hspot : spot = none := by
      obtain ⟨u, _, h0, _⟩ := hf 0 hn'
      have h0 := h0 0 (by omega)
      simp at h0
      simpa [Addr.add] using World.cell?_spot h0
    subst hspot
    refine ⟨b, off, rfl, fun k hk => ?_⟩
    have hk' : k < len := by simpa using hk
    obtain ⟨u, hkd, hc, hb⟩ := hf k hk'
    simp only [List.getElem_map, List.getElem_range]
    have e0 := hc 0 (by omega)
    have e1 := hc 1 (by omega)
    have e2 := hc 2 (by omega)
    have e3 := hc 3 (by omega)
    have e4 := hc 4 (by omega)
    rw [add_plain] at e0 e1 e2 e3 e4
    exact ⟨⟨hkd, e0⟩, e1, e2, ⟨u, e3, hb⟩, e4⟩
end Go.Proofs.Ytbaclcpnnompnaa
