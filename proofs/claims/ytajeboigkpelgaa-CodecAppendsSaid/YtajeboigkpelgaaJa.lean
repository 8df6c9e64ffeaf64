/- Opening arguments: values of every kind (a natural number, an integer, bytes, a block), alone and in slices. -/
import Derived.Test.YtajeboigkpelgaaGK
import Derived.Test.YtajeboigkpelgaaIv
import Derived.Deep.Slices
namespace Go.Proofs.Ytajeboigkpelgaa
open Go Go.RowKit Go.ChangeShapes Go.WideShapes Go.ChangeAt
set_option linter.unusedVariables false
set_option linter.unusedSimpArgs false
theorem u8c_cells {H : Type} {enc : TypeId × Value → H} {P : Program} {w : World} {base fuel n : Nat} {spare : Nat → Bool} {held : Bool} {t e : TypeId} {cs : List Value} {x : DataW H × List MemPlace}
    (ht : P.underlying t = some (.array n e)) (he : P.underlying e = some (.int .u8)) (hc : P.cellsOf e = 1) (hC : P.cellsOf t = n) (h : DataW.trod enc P w base spare held fuel t cs = some x) :
    ∃ l : List Nat, l.length = n ∧ (∀ x ∈ l, x < 256) ∧ cs = l.map bv := by
  obtain ⟨ys, m, _, _, hlen, hl, hel⟩ := DataW.trod_array ht h
  rw [hC] at hlen
  have key : ∀ i (hi : i < n), ∃ x : Nat, x < 256 ∧ cs[i]'(by omega) = bv x := fun i hi => by
    have q := hel i hi
    rw [hc, Nat.mul_one] at q
    have e1 : (cs.drop i).take 1 = [cs[i]'(by omega)] := by
      rw [List.drop_eq_getElem_cons (by omega), List.take_succ_cons, List.take_zero]
    rw [e1, List.getElem?_eq_getElem (by omega)] at q
    obtain ⟨z, ez, _, wz⟩ := DataW.trod_int he q
    obtain ⟨x, rfl, hx⟩ := u8_nat wz
    exact ⟨x, hx, by simpa [bv] using ez⟩
  refine ⟨cs.map fun v => (intOf v).toNat, by simpa using hlen, fun x hx => ?_, ?_⟩
  · obtain ⟨v, hv, rfl⟩ := List.mem_map.1 hx
    obtain ⟨i, hi, rfl⟩ := List.getElem_of_mem hv
    obtain ⟨y, hy, e⟩ := key i (by omega)
    rw [e]; simpa [intOf, bv] using hy
  · rw [List.map_map]
    refine List.ext_getElem (by simp) fun i h1 h2 => ?_
    obtain ⟨y, hy, e⟩ := key i (by omega)
    simp only [List.getElem_map, Function.comp]
    rw [e]; simp [intOf, bv]
theorem bs_cells {H : Type} {enc : TypeId × Value → H} {P : Program} {w : World} {base fuel : Nat} {spare : Nat → Bool} {held : Bool} {t e : TypeId} {cs : List Value} {x : DataW H × List MemPlace}
    (ht : P.underlying t = some (.slice e)) (he : P.underlying e = some (.int .u8)) (hc : P.cellsOf e = 1) (h : DataW.trod enc P w base spare held fuel t cs = some x) : ∃ s l, cs = [s] ∧ Bs w s l := by
  have h0 := h
  rcases open_ints ht he hc h with ⟨hcs, _⟩ | ⟨ad, l, c, zs, hcs, _⟩
  · exact ⟨.slice none 0 0, [], hcs, Bs.nil_ w⟩
  · rw [hcs] at h0
    obtain ⟨l', hl'⟩ := bs_in (a := some ad) (len := l) (cap := c) ht he hc ⟨fuel, h0⟩
    exact ⟨_, l', hcs, hl'⟩
/-- A value of every kind. -/
structure VL where
  n : Nat
  x : Int
  l : List Nat
  k : List Nat
def VL.ok (e : VL) : Prop := e.n < 2 ^ 64 ∧ (-(2 ^ 63) ≤ e.x ∧ e.x < 2 ^ 63) ∧ E8 e.k
/-- The eleven cells. -/
def vc (n : Nat) (x : Int) (s : Value) (k : List Nat) : List Value := .int .u64 (n : Int) :: .int .i64 x :: s :: k.map bv
theorem val_cells {H : Type} {enc : TypeId × Value → H} {P : Program} {w : World} {base fuel : Nat} {spare : Nat → Bool} {held : Bool} {e q u : TypeId} {fs : Array Field} {f0 f1 f2 f3 : Field} {cs : List Value} {x : DataW H × List MemPlace}
    (he : P.underlying e = some (.struct fs)) (h0 : fs[0]? = some f0) (o0 : f0.offset = 0) (h1 : fs[1]? = some f1) (o1 : f1.offset = 1) (h2 : fs[2]? = some f2) (o2 : f2.offset = 2) (h3 : fs[3]? = some f3) (o3 : f3.offset = 3)
    (t0 : P.underlying f0.type = some (.int .u64)) (c0 : P.cellsOf f0.type = 1) (t1 : P.underlying f1.type = some (.int .i64)) (c1 : P.cellsOf f1.type = 1) (t2 : P.underlying f2.type = some (.slice u)) (c2 : P.cellsOf f2.type = 1)
    (t3 : P.underlying f3.type = some (.array 8 q)) (c3 : P.cellsOf f3.type = 8) (hq : P.underlying q = some (.int .u8)) (cq : P.cellsOf q = 1) (hu : P.underlying u = some (.int .u8)) (cu : P.cellsOf u = 1) (ce : P.cellsOf e = 11)
    (h : DataW.trod enc P w base spare held fuel e cs = some x) : ∃ (v : VL) (s : Value), cs = vc v.n v.x s v.k ∧ Bs w s v.l ∧ v.ok := by
  obtain ⟨xs, n, _, _, hlen, hl, hel⟩ := DataW.trod_struct he h
  rw [ce] at hlen
  have a0 := hel 0 f0 h0
  have a1 := hel 1 f1 h1
  have a2 := hel 2 f2 h2
  have a3 := hel 3 f3 h3
  have l3 : 3 < xs.length := by
    have := (Array.getElem?_eq_some_iff.1 h3).1
    omega
  rw [o0, c0, List.drop_zero, List.getElem?_eq_getElem (by omega)] at a0
  rw [o1, c1, List.getElem?_eq_getElem (by omega)] at a1
  rw [o2, c2, List.getElem?_eq_getElem (by omega)] at a2
  rw [o3, c3, List.getElem?_eq_getElem l3] at a3
  obtain ⟨z0, e0, _, w0⟩ := DataW.trod_int t0 a0
  obtain ⟨z1, e1, _, w1⟩ := DataW.trod_int t1 a1
  obtain ⟨s, l, e2, hs⟩ := bs_cells t2 hu cu a2
  obtain ⟨b, hb, hb2, e3⟩ := u8c_cells t3 hq cq c3 a3
  have b0 := bounds_u64 w0
  have b1 := bounds_i64 w1
  refine ⟨⟨z0.toNat, z1, l, b⟩, s, ?_, hs, by show z0.toNat < _; omega, ⟨by show -_ ≤ z1; omega, by show z1 < _; omega⟩, hb, hb2⟩
  show cs = .int .u64 ((z0.toNat : Nat) : Int) :: .int .i64 z1 :: s :: b.map bv
  rw [← e3, List.take_of_length_le (by rw [List.length_drop, hlen]; omega), show ((z0.toNat : Nat) : Int) = z0 by omega]
  match cs, hlen with
  | a :: b :: c :: r, _ =>
    have x0 : a = .int .u64 z0 := by simpa using e0
    have x1 : b = .int .i64 z1 := by simpa using e1
    have x2 : c = s := by simpa using e2
    rw [x0, x1, x2]; rfl
/-- One value that comes in by value. -/
theorem val_in {H : Type} {enc : TypeId × Value → H} {P : Program} {w : World} {base b0 : Nat} {spare : Nat → Bool} {held : Bool} {r : Reach} {e q u : TypeId} {fs : Array Field} {f0 f1 f2 f3 : Field} {v : Value} {d : DataW H} {p : List MemPlace}
    (he : P.underlying e = some (.struct fs)) (h0 : fs[0]? = some f0) (o0 : f0.offset = 0) (h1 : fs[1]? = some f1) (o1 : f1.offset = 1) (h2 : fs[2]? = some f2) (o2 : f2.offset = 2) (h3 : fs[3]? = some f3) (o3 : f3.offset = 3)
    (t0 : P.underlying f0.type = some (.int .u64)) (c0 : P.cellsOf f0.type = 1) (t1 : P.underlying f1.type = some (.int .i64)) (c1 : P.cellsOf f1.type = 1) (t2 : P.underlying f2.type = some (.slice u)) (c2 : P.cellsOf f2.type = 1)
    (t3 : P.underlying f3.type = some (.array 8 q)) (c3 : P.cellsOf f3.type = 8) (hq : P.underlying q = some (.int .u8)) (cq : P.cellsOf q = 1) (hu : P.underlying u = some (.int .u8)) (cu : P.cellsOf u = 1) (ce : P.cellsOf e = 11)
    (hv : Value.okWide P w r b0 e v) (h : DataW.Trod enc P w base spare held e v d p) : ∃ (y : VL) (s : Value), v = .agg (vcs y.n y.x s y.k) ∧ Bs w s y.l ∧ y.ok := by
  obtain ⟨cs, rfl, hsz⟩ : ∃ cs, v = .agg cs ∧ cs.size = P.cellsOf e := by
    simp only [Value.okWide, he] at hv
    obtain ⟨cs, h1, h2, _⟩ := hv
    exact ⟨cs, h1, h2⟩
  obtain ⟨fuel, hf⟩ := h
  obtain ⟨y, s, e1, hs, hk⟩ := val_cells he h0 o0 h1 o1 h2 o2 h3 o3 t0 c0 t1 c1 t2 c2 t3 c3 hq cq hu cu ce hf
  refine ⟨y, s, ?_, hs, hk⟩
  have e2 : cs.toList = vc y.n y.x s y.k := e1
  have : cs = (vc y.n y.x s y.k).toArray := by rw [← e2]
  rw [this]; rfl
/-- A value at a place of memory. -/
def Va (w : World) (b o : Nat) (y : VL) : Prop := y.ok ∧ ∃ s, Bs w s y.l ∧ w.rangeAt b o (vc y.n y.x s y.k)
/-- The slice value reads as n values. -/
def Vs (w : World) (v : Value) (n : Nat) (V : Nat → VL) : Prop :=
  ∃ A c, v = .slice A n c ∧ (n ≤ c ∧ c ≤ maxLen) ∧ (0 < n → ∃ b off, A = some ⟨b, off, none⟩ ∧ ∀ i, i < n → Va w b (off + i * 11) (V i))
theorem Va.to {w w' : World} {b o : Nat} {y : VL} (h : Va w b o y) (hb : Below w.heap.size w w') : Va w' b o y := by
  obtain ⟨h1, s, h2, h3⟩ := h
  refine ⟨h1, s, h2.below hb, fun j v hv => ?_⟩
  have := h3 j v hv
  exact (hb.cell (World.block_lt_of_cell? w _ this)).trans this
theorem Vs.to {w w' : World} {v : Value} {n : Nat} {V : Nat → VL} (h : Vs w v n V) (hb : Below w.heap.size w w') : Vs w' v n V := by
  obtain ⟨A, c, rfl, hm, hr⟩ := h
  refine ⟨A, c, rfl, hm, fun hn => ?_⟩
  obtain ⟨b, off, rfl, hr2⟩ := hr hn
  exact ⟨b, off, rfl, fun i hi => (hr2 i hi).to hb⟩
theorem vs_in {H : Type} {enc : TypeId × Value → H} {P : Program} {w : World} {base : Nat} {spare : Nat → Bool} {held : Bool} {t e q u : TypeId} {fs : Array Field} {f0 f1 f2 f3 : Field} {a : Option Addr} {len cap : Nat} {x : DataW H × List MemPlace}
    (ht : P.underlying t = some (.slice e))
    (he : P.underlying e = some (.struct fs)) (h0 : fs[0]? = some f0) (o0 : f0.offset = 0) (h1 : fs[1]? = some f1) (o1 : f1.offset = 1) (h2 : fs[2]? = some f2) (o2 : f2.offset = 2) (h3 : fs[3]? = some f3) (o3 : f3.offset = 3)
    (t0 : P.underlying f0.type = some (.int .u64)) (c0 : P.cellsOf f0.type = 1) (t1 : P.underlying f1.type = some (.int .i64)) (c1 : P.cellsOf f1.type = 1) (t2 : P.underlying f2.type = some (.slice u)) (c2 : P.cellsOf f2.type = 1)
    (t3 : P.underlying f3.type = some (.array 8 q)) (c3 : P.cellsOf f3.type = 8) (hq : P.underlying q = some (.int .u8)) (cq : P.cellsOf q = 1) (hu : P.underlying u = some (.int .u8)) (cu : P.cellsOf u = 1) (ce : P.cellsOf e = 11)
    (h : ∃ fuel, DataW.trod enc P w base spare held fuel t (Value.slice a len cap).cells.toList = some x) : ∃ V, Vs w (.slice a len cap) len V := by
  obtain ⟨fuel, hf⟩ := h
  rcases Go.Deep.open_slice ht hf with ⟨hcs, _⟩ | ⟨ad, l, c, m, n, DD, Pl, hcs, _, hl, hm, hmm, _, hel⟩
  · simp [Value.cells] at hcs
    obtain ⟨rfl, rfl, rfl⟩ := hcs
    exact ⟨fun _ => ⟨0, 0, [], []⟩, none, 0, rfl, ⟨Nat.le_refl _, by decide⟩, fun h => absurd h (Nat.lt_irrefl 0)⟩
  · simp [Value.cells] at hcs
    obtain ⟨rfl, rfl, rfl⟩ := hcs
    have hlm : len ≤ m := by rw [hmm]; split <;> omega
    haveI : Inhabited VL := ⟨⟨0, 0, [], []⟩⟩
    obtain ⟨f, hf⟩ := Go.Deep.choose_lt (α := VL) (n := len) (p := fun i y => y.ok ∧ ∃ s, Bs w s y.l ∧ ∀ j, j < 11 → w.cell? (ad.add (i * 11 + j)) = (vc y.n y.x s y.k)[j]?) (fun i hi => by
      obtain ⟨cs', g1, g2⟩ := hel i (by omega)
      rw [ce] at g1
      obtain ⟨y, s, rfl, hs, hk⟩ := val_cells he h0 o0 h1 o1 h2 o2 h3 o3 t0 c0 t1 c1 t2 c2 t3 c3 hq cq hu cu ce g2
      obtain ⟨_, _, hc⟩ := World.cells?_some g1
      refine ⟨y, hk, s, hs, fun j hj => ?_⟩
      have := hc j hj
      rw [Go.Deep.add_add] at this
      exact this)
    refine ⟨f, some ad, cap, rfl, ⟨hl, hm⟩, fun hn => ?_⟩
    obtain ⟨b, off, spot⟩ := ad
    have hspot : spot = none := by
      obtain ⟨_, s, _, h0⟩ := hf 0 hn
      have h0 := h0 0 (by omega)
      rw [show (vc (f 0).n (f 0).x s (f 0).k)[0]? = some (.int .u64 ((f 0).n : Int)) from rfl] at h0
      simpa [Addr.add] using World.cell?_spot h0
    subst hspot
    refine ⟨b, off, rfl, fun i hi => ?_⟩
    obtain ⟨g1, s, g2, g3⟩ := hf i hi
    refine ⟨g1, s, g2, fun j u hu => ?_⟩
    have hj : j < 11 := by
      have := (List.getElem?_eq_some_iff.1 hu).1
      have h8 : ((f i).k.map bv).length = 8 := by rw [List.length_map]; exact g1.2.2.1
      simp only [vc, List.length_cons, h8] at this
      omega
    have := g3 j hj
    rw [add_plain, ← Nat.add_assoc] at this
    rw [this]; exact hu
end Go.Proofs.Ytajeboigkpelgaa
