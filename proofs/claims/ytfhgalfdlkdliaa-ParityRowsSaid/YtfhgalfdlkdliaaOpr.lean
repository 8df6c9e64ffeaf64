/- Opening arguments: arrays and slices of records of a number and a block. -/
import Derived.Test.YtfhgalfdlkdliaaOpb
import Derived.Test.YtfhgalfdlkdliaaRec
namespace Go.Proofs.Ytfhgalfdlkdliaa
open Go Go.RowKit Go.ChangeShapes Go.WideShapes Go.ChangeAt

theorem rec_cells {H : Type} {enc : TypeId × Value → H} {P : Program} {w : World} {base fuel : Nat} {spare : Nat → Bool} {held : Bool} {e q : TypeId} {fs : Array Field} {f0 f1 : Field} {cs : List Value} {x : DataW H × List MemPlace}
    (he : P.underlying e = some (.struct fs)) (h0 : fs[0]? = some f0) (o0 : f0.offset = 0) (h1 : fs[1]? = some f1) (o1 : f1.offset = 1) (t0 : P.underlying f0.type = some (.int .i64)) (c0 : P.cellsOf f0.type = 1)
    (t1 : P.underlying f1.type = some (.array 8 q)) (c1 : P.cellsOf f1.type = 8) (hq : P.underlying q = some (.int .u8)) (cq : P.cellsOf q = 1) (ce : P.cellsOf e = 9)
    (h : DataW.trod enc P w base spare held fuel e cs = some x) : ∃ (k : Int) (b : Blk), cs = rec1 k b ∧ (Lit.int .i64 k).wf = true := by
  obtain ⟨xs, n, _, _, hlen, hl, hel⟩ := DataW.trod_struct he h
  rw [ce] at hlen
  have a0 := hel 0 f0 h0
  have a1 := hel 1 f1 h1
  have l0 : 0 < xs.length := by
    have := (Array.getElem?_eq_some_iff.1 h0).1
    omega
  have l1 : 1 < xs.length := by
    have := (Array.getElem?_eq_some_iff.1 h1).1
    omega
  rw [o0, c0, List.drop_zero, List.getElem?_eq_getElem l0] at a0
  rw [o1, c1, List.getElem?_eq_getElem l1] at a1
  obtain ⟨z, ez, _, wz⟩ := DataW.trod_int t0 a0
  obtain ⟨b, hb, hb2, eb⟩ := u8s_cells t1 hq cq c1 a1
  refine ⟨z, ⟨b, hb, hb2⟩, ?_, wz⟩
  rw [rec1, ← eb, List.take_of_length_le (by rw [List.length_drop, hlen]; omega)]
  match cs, hlen with
  | c :: r, _ =>
    have : c = .int .i64 z := by simpa using ez
    rw [this]; rfl
theorem recs_ext {cs : List Value} {n : Nat} {K : Nat → Int} {B : Nat → Blk} (hl : cs.length = n * 9) (h : ∀ i, i < n → (cs.drop (i * 9)).take 9 = rec1 (K i) (B i)) : cs = recs n K B := by
  refine List.ext_getElem? fun p => ?_
  rcases Nat.lt_or_ge p (n * 9) with hp | hp
  · have h9 : p % 9 < 9 := Nat.mod_lt _ (by decide)
    have hi : p / 9 < n := by omega
    have e := congrArg (fun l => l[p % 9]?) (h (p / 9) hi)
    simp only [List.getElem?_take_of_lt h9, List.getElem?_drop] at e
    rw [show p / 9 * 9 + p % 9 = p by omega] at e
    have e2 := recs_at K B hi h9
    rw [show p / 9 * 9 + p % 9 = p by omega] at e2
    rw [e, e2]
  · rw [List.getElem?_eq_none (by omega), List.getElem?_eq_none (by rw [recs_len]; exact hp)]
theorem recs_in {H : Type} {enc : TypeId × Value → H} {P : Program} {w : World} {base b0 n : Nat} {spare : Nat → Bool} {held : Bool} {r : Reach} {t e q : TypeId} {fs : Array Field} {f0 f1 : Field} {v : Value} {d : DataW H} {p : List MemPlace}
    (ht : P.underlying t = some (.array n e)) (hC : P.cellsOf t = n * 9)
    (he : P.underlying e = some (.struct fs)) (h0 : fs[0]? = some f0) (o0 : f0.offset = 0) (h1 : fs[1]? = some f1) (o1 : f1.offset = 1) (t0 : P.underlying f0.type = some (.int .i64)) (c0 : P.cellsOf f0.type = 1)
    (t1 : P.underlying f1.type = some (.array 8 q)) (c1 : P.cellsOf f1.type = 8) (hq : P.underlying q = some (.int .u8)) (cq : P.cellsOf q = 1) (ce : P.cellsOf e = 9)
    (hv : Value.okWide P w r b0 t v) (h : DataW.Trod enc P w base spare held t v d p) : ∃ (K : Nat → Int) (B : Nat → Blk), v = .agg (recs n K B).toArray ∧ ∀ i, i < n → (Lit.int .i64 (K i)).wf = true := by
  obtain ⟨cs, rfl, hsz⟩ : ∃ cs, v = .agg cs ∧ cs.size = P.cellsOf t := by
    simp only [Value.okWide, ht] at hv
    obtain ⟨cs, h1, h2, _⟩ := hv
    exact ⟨cs, h1, h2⟩
  rw [hC] at hsz
  obtain ⟨fuel, hf⟩ := h
  obtain ⟨ys, m, _, _, hlen, hl, hel⟩ := DataW.trod_array ht hf
  have : (Value.agg cs).cells = cs := rfl
  rw [this] at hel
  haveI : Inhabited (Int × Blk) := ⟨(0, zeroB)⟩
  obtain ⟨f, hf⟩ := Go.Deep.choose_lt (α := Int × Blk) (n := n) (p := fun i y => (cs.toList.drop (i * 9)).take 9 = rec1 y.1 y.2 ∧ (Lit.int .i64 y.1).wf = true) (fun i hi => by
    have a := hel i hi
    rw [ce, List.getElem?_eq_getElem (by omega)] at a
    obtain ⟨k, b, e1, e2⟩ := rec_cells he h0 o0 h1 o1 t0 c0 t1 c1 hq cq ce a
    exact ⟨(k, b), e1, e2⟩)
  refine ⟨fun i => (f i).1, fun i => (f i).2, ?_, fun i hi => (hf i hi).2⟩
  have := recs_ext (cs := cs.toList) (n := n) (K := fun i => (f i).1) (B := fun i => (f i).2) (by simpa using hsz) fun i hi => (hf i hi).1
  rw [← this]
/-- The slice value `v` reads as n records. -/
def Rs (w : World) (v : Value) (n : Nat) (K : Nat → Int) (B : Nat → Blk) : Prop :=
  ∃ A c, v = .slice A n c ∧ (n ≤ c ∧ c ≤ maxLen) ∧ (0 < n → ∃ b off, A = some ⟨b, off, none⟩ ∧ w.rangeAt b off (recs n K B))
theorem Rs.to {w w' : World} {v : Value} {n : Nat} {K : Nat → Int} {B : Nat → Blk} (h : Rs w v n K B) (hb : Below w.heap.size w w') : Rs w' v n K B := by
  obtain ⟨A, c, rfl, hm, hr⟩ := h
  refine ⟨A, c, rfl, hm, fun hn => ?_⟩
  obtain ⟨b, off, rfl, hr2⟩ := hr hn
  exact ⟨b, off, rfl, rangeTo hr2 hb⟩
theorem rs_in {H : Type} {enc : TypeId × Value → H} {P : Program} {w : World} {base : Nat} {spare : Nat → Bool} {held : Bool} {t e q : TypeId} {fs : Array Field} {f0 f1 : Field} {a : Option Addr} {len cap : Nat} {x : DataW H × List MemPlace}
    (ht : P.underlying t = some (.slice e))
    (he : P.underlying e = some (.struct fs)) (h0 : fs[0]? = some f0) (o0 : f0.offset = 0) (h1 : fs[1]? = some f1) (o1 : f1.offset = 1) (t0 : P.underlying f0.type = some (.int .i64)) (c0 : P.cellsOf f0.type = 1)
    (t1 : P.underlying f1.type = some (.array 8 q)) (c1 : P.cellsOf f1.type = 8) (hq : P.underlying q = some (.int .u8)) (cq : P.cellsOf q = 1) (ce : P.cellsOf e = 9)
    (h : ∃ fuel, DataW.trod enc P w base spare held fuel t (Value.slice a len cap).cells.toList = some x) : ∃ K B, Rs w (.slice a len cap) len K B ∧ ∀ i, i < len → (Lit.int .i64 (K i)).wf = true := by
  obtain ⟨fuel, hf⟩ := h
  rcases Go.Deep.open_slice ht hf with ⟨hcs, _⟩ | ⟨ad, l, c, m, n, DD, Pl, hcs, _, hl, hm, hmm, _, hel⟩
  · simp [Value.cells] at hcs
    obtain ⟨rfl, rfl, rfl⟩ := hcs
    exact ⟨fun _ => 0, fun _ => zeroB, ⟨none, 0, rfl, ⟨Nat.le_refl _, by decide⟩, fun h => absurd h (Nat.lt_irrefl 0)⟩, fun i hi => absurd hi (Nat.not_lt_zero i)⟩
  · simp [Value.cells] at hcs
    obtain ⟨rfl, rfl, rfl⟩ := hcs
    have hlm : len ≤ m := by rw [hmm]; split <;> omega
    haveI : Inhabited (Int × Blk) := ⟨(0, zeroB)⟩
    obtain ⟨f, hf⟩ := Go.Deep.choose_lt (α := Int × Blk) (n := len) (p := fun i y => (Lit.int .i64 y.1).wf = true ∧ ∀ j, j < 9 → w.cell? (ad.add (i * 9 + j)) = (rec1 y.1 y.2)[j]?) (fun i hi => by
      obtain ⟨cs', g1, g2⟩ := hel i (by omega)
      rw [ce] at g1
      obtain ⟨k, b, rfl, wz⟩ := rec_cells he h0 o0 h1 o1 t0 c0 t1 c1 hq cq ce g2
      obtain ⟨_, _, hc⟩ := World.cells?_some g1
      refine ⟨(k, b), wz, fun j hj => ?_⟩
      have := hc j hj
      rw [Go.Deep.add_add] at this
      exact this)
    refine ⟨fun i => (f i).1, fun i => (f i).2, ⟨some ad, cap, rfl, ⟨hl, hm⟩, fun hn => ?_⟩, fun i hi => (hf i hi).1⟩
    obtain ⟨b, off, spot⟩ := ad
    have hspot : spot = none := by
      have h0 := (hf 0 hn).2 0 (by omega)
      rw [List.getElem?_eq_getElem (by rw [rec1_len]; omega)] at h0
      simpa [Addr.add] using World.cell?_spot h0
    subst hspot
    refine ⟨b, off, rfl, fun p u hu => ?_⟩
    have hp : p < len * 9 := by
      have := (List.getElem?_eq_some_iff.1 hu).1
      rwa [recs_len] at this
    have h9 : p % 9 < 9 := Nat.mod_lt _ (by decide)
    have hi : p / 9 < len := by omega
    have e2 := recs_at (fun i => (f i).1) (fun i => (f i).2) hi h9
    have := (hf (p / 9) hi).2 (p % 9) h9
    rw [show p / 9 * 9 + p % 9 = p by omega] at e2 this
    rw [add_plain, ← e2] at this
    rw [this]; exact hu
end Go.Proofs.Ytfhgalfdlkdliaa
