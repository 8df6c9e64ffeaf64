/- Joined: Open Opu Opb Opk Opm. -/
import Derived.Test.YtheijobnmdbodaaGA
import Derived.ProofKit
import Derived.OpenShut
import Derived.Test.YtheijobnmdbodaaGC
import Derived.Deep.Slices
import Derived.Deep.Matrix
namespace Go.Proofs.Ytheijobnmdbodaa
open Go Go.RowKit Go.ChangeShapes Go.WideShapes Go.ChangeAt

/-- What a law's walk ends with. -/
def lawPost (w : World) (e : Ending) (w' : World) : Prop := e = .returned (.bool true) ∧ Below w.heap.size w w'

theorem u8_nat {a : Int} (h : (Lit.int .u8 a).wf = true) : ∃ n : Nat, a = n ∧ n < 256 := by
  have := bounds_u8 h
  exact ⟨a.toNat, by omega, by omega⟩
theorem bs_in {H : Type} {enc : TypeId × Value → H} {P : Program} {w : World} {base : Nat} {spare : Nat → Bool} {held : Bool} {t e : TypeId} {a : Option Addr} {len cap : Nat} {x : DataW H × List MemPlace}
    (ht : P.underlying t = some (.slice e)) (he : P.underlying e = some (.int .u8)) (hc : P.cellsOf e = 1) (h : ∃ fuel, DataW.trod enc P w base spare held fuel t (Value.slice a len cap).cells.toList = some x) : ∃ l, Bs w (.slice a len cap) l := by
  obtain ⟨fuel, hf⟩ := h
  rcases open_ints ht he hc hf with ⟨hcs, _⟩ | ⟨ad, l, c, zs, hcs, _, hl, hm, hz, _, hcell, hwz⟩
  · simp [Value.cells] at hcs
    obtain ⟨rfl, rfl, rfl⟩ := hcs
    exact ⟨[], Bs.nil_ w⟩
  · simp [Value.cells] at hcs
    obtain ⟨rfl, rfl, rfl⟩ := hcs
    have hzl : len ≤ zs.length := by rw [hz]; split <;> omega
    have hlen : ((zs.take len).map Int.toNat).length = len := by simp; omega
    refine ⟨(zs.take len).map Int.toNat, some ad, cap, by rw [hlen], by omega, fun y hy => ?_, fun h => (by cases h), fun hn => ?_⟩
    · obtain ⟨z, hz', rfl⟩ := List.mem_map.1 hy
      have := bounds_u8 (hwz z (List.mem_of_mem_take hz'))
      omega
    · rw [hlen] at hn
      obtain ⟨b, off, rfl, hat⟩ := ints_at hcell (by omega)
      refine ⟨b, off, rfl, fun k hk => ?_⟩
      have hk' : k < len := by omega
      rw [hat k (by omega)]
      have hb := bounds_u8 (hwz zs[k] (List.getElem_mem (by omega)))
      rw [getD_in (show k < ((zs.take len).map Int.toNat).length by omega), getD_in (show k < zs.length by omega)]
      simp
      omega
end Go.Proofs.Ytheijobnmdbodaa
namespace Go.Proofs.Ytheijobnmdbodaa
open Go Go.RowKit Go.ChangeShapes Go.WideShapes Go.ChangeAt

theorem u8s_cells {H : Type} {enc : TypeId × Value → H} {P : Program} {w : World} {base fuel n : Nat} {spare : Nat → Bool} {held : Bool} {t e : TypeId} {cs : List Value} {x : DataW H × List MemPlace}
    (ht : P.underlying t = some (.array n e)) (he : P.underlying e = some (.int .u8)) (hc : P.cellsOf e = 1) (hC : P.cellsOf t = n) (h : DataW.trod enc P w base spare held fuel t cs = some x) :
    ∃ l : List Nat, l.length = n ∧ (∀ x ∈ l, x < 256) ∧ cs = l.map bv := by
  obtain ⟨ys, m, _, _, hlen, hl, hel⟩ := DataW.trod_array ht h
  rw [hC] at hlen
  have key : ∀ i (hi : i < n), ∃ x : Nat, x < 256 ∧ cs[i]'(by omega) = bv x := fun i hi => by
    have q := hel i hi
    rw [hc, Nat.mul_one] at q
    have e1 : (cs.drop i).take 1 = [cs[i]'(by omega)] := by
      rw [List.drop_eq_getElem_cons (by omega), List.take_succ_cons, List.take_zero]
    rw [e1, List.getElem?_eq_getElem (by omega)] at q
    obtain ⟨z, ez, _, wz⟩ := DataW.trod_int he q
    obtain ⟨x, rfl, hx⟩ := u8_nat wz
    exact ⟨x, hx, by simpa [bv] using ez⟩
  refine ⟨cs.map fun v => (intOf v).toNat, by simpa using hlen, fun x hx => ?_, ?_⟩
  · obtain ⟨v, hv, rfl⟩ := List.mem_map.1 hx
    obtain ⟨i, hi, rfl⟩ := List.getElem_of_mem hv
    obtain ⟨y, hy, e⟩ := key i (by omega)
    rw [e]; simpa [intOf, bv] using hy
  · rw [List.map_map]
    refine List.ext_getElem (by simp) fun i h1 h2 => ?_
    obtain ⟨y, hy, e⟩ := key i (by omega)
    simp only [List.getElem_map, Function.comp]
    rw [e]; simp [intOf, bv]
theorem grid_in {H : Type} {enc : TypeId × Value → H} {P : Program} {w : World} {base b0 n m : Nat} {spare : Nat → Bool} {held : Bool} {r : Reach} {t e q : TypeId} {v : Value} {d : DataW H} {p : List MemPlace} (hm0 : 0 < m)
    (ht : P.underlying t = some (.array n e)) (he : P.underlying e = some (.array m q)) (hq : P.underlying q = some (.int .u8)) (cq : P.cellsOf q = 1) (ce : P.cellsOf e = m) (hC : P.cellsOf t = n * m) (hv : Value.okWide P w r b0 t v) (h : DataW.Trod enc P w base spare held t v d p) :
    ∃ l : List Nat, l.length = n * m ∧ (∀ x ∈ l, x < 256) ∧ v = .agg (bcs l) := by
  obtain ⟨cs, rfl, hsz⟩ : ∃ cs, v = .agg cs ∧ cs.size = P.cellsOf t := by
    simp only [Value.okWide, ht] at hv
    obtain ⟨cs, h1, h2, _⟩ := hv
    exact ⟨cs, h1, h2⟩
  rw [hC] at hsz
  obtain ⟨fuel, hf⟩ := h
  obtain ⟨ys, mm, _, _, hlen, hl, hel⟩ := DataW.trod_array ht hf
  have : (Value.agg cs).cells = cs := rfl
  rw [this] at hel
  have key : ∀ i (hi : i < n * m), ∃ x : Nat, x < 256 ∧ cs[i]'(by omega) = bv x := fun i hi => by
    have hin : i / m < n := Nat.div_lt_of_lt_mul (by rw [Nat.mul_comm]; exact hi)
    have hjm : i % m < m := Nat.mod_lt _ hm0
    have a := hel (i / m) hin
    rw [ce, List.getElem?_eq_getElem (by omega)] at a
    obtain ⟨l, h1, h2, h3⟩ := u8s_cells he hq cq ce a
    have e1 := congrArg (fun l => l[i % m]?) h3
    simp only [List.getElem?_take_of_lt hjm, List.getElem?_drop] at e1
    have e0 : i / m * m + i % m = i := by rw [Nat.mul_comm]; exact Nat.div_add_mod i m
    rw [e0] at e1
    have hil : i < cs.size := by omega
    have hjl : i % m < l.length := by omega
    have a1 : cs.toList[i]? = some cs[i] := by rw [Array.getElem?_toList, Array.getElem?_eq_getElem hil]
    have a2 : (l.map bv)[i % m]? = some (bv l[i % m]) := by rw [List.getElem?_map, List.getElem?_eq_getElem hjl]; rfl
    rw [a1, a2] at e1
    exact ⟨l[i % m], h2 _ (List.getElem_mem _), Option.some.inj e1⟩
  refine ⟨cs.toList.map fun v => (intOf v).toNat, by simpa using hsz, fun x hx => ?_, ?_⟩
  · obtain ⟨v, hv, rfl⟩ := List.mem_map.1 hx
    obtain ⟨i, hi, rfl⟩ := List.getElem_of_mem hv
    obtain ⟨y, hy, e⟩ := key i (by simpa [hsz] using hi)
    rw [Array.getElem_toList, e]; simpa [intOf, bv] using hy
  · congr 1
    refine Array.ext (by simp [bcs]) fun i h1 h2 => ?_
    obtain ⟨y, hy, e⟩ := key i (by omega)
    rw [e]
    simp [bcs, e, intOf, bv]
end Go.Proofs.Ytheijobnmdbodaa
namespace Go.Proofs.Ytheijobnmdbodaa
open Go Go.RowKit Go.ChangeShapes Go.WideShapes Go.ChangeAt

theorem bl_in {H : Type} {enc : TypeId × Value → H} {P : Program} {w : World} {base : Nat} {spare : Nat → Bool} {held : Bool} {t e q : TypeId} {a : Option Addr} {len cap : Nat} {x : DataW H × List MemPlace}
    (ht : P.underlying t = some (.slice e)) (he : P.underlying e = some (.array 8 q)) (hq : P.underlying q = some (.int .u8)) (ce : P.cellsOf e = 8) (cq : P.cellsOf q = 1)
    (h : ∃ fuel, DataW.trod enc P w base spare held fuel t (Value.slice a len cap).cells.toList = some x) : ∃ D, Bl w (.slice a len cap) D := by
  obtain ⟨fuel, hf⟩ := h
  rcases Go.Deep.open_slice ht hf with ⟨hcs, _⟩ | ⟨ad, l, c, m, n, DD, Pl, hcs, _, hl, hm, hmm, _, hel⟩
  · simp [Value.cells] at hcs
    obtain ⟨rfl, rfl, rfl⟩ := hcs
    exact ⟨[], Bl.nil_ w⟩
  · simp [Value.cells] at hcs
    obtain ⟨rfl, rfl, rfl⟩ := hcs
    have hlm : len ≤ m := by rw [hmm]; split <;> omega
    obtain ⟨f, hf⟩ := Go.Deep.choose_lt (α := List Nat) (p := fun i b => B8 b ∧ ∀ j, j < 8 → w.cell? (ad.add (i * 8 + j)) = some (.int .u8 ((b.getD j 0 : Nat) : Int))) (n := len) (fun i hi => by
      obtain ⟨cs', h1, h2⟩ := hel i (by omega)
      rw [ce] at h1
      obtain ⟨b, hb, hb2, rfl⟩ := u8s_cells he hq cq ce h2
      obtain ⟨_, _, hc⟩ := World.cells?_some h1
      refine ⟨b, ⟨hb, hb2⟩, fun j hj => ?_⟩
      have := hc j hj
      rw [Go.Deep.add_add, getD_bv (by omega)] at this
      exact this)
    have hD : ∀ d ∈ (List.range len).map f, B8 d := fun d hd => by
      obtain ⟨i, hi, rfl⟩ := List.mem_map.1 hd
      exact (hf i (List.mem_range.1 hi)).1
    refine ⟨(List.range len).map f, some ad, cap, by simp, ⟨by simpa using hl, hm⟩, hD, fun h => (by cases h), fun hn => ?_⟩
    have hn' : 0 < len := by simpa using hn
    obtain ⟨b, off, spot⟩ := ad
    have hspot : spot = none := by
      have h0 := (hf 0 hn').2 0 (by omega)
      simpa [Addr.add] using World.cell?_spot h0
    subst hspot
    refine ⟨b, off, rfl, fun j u hu => ?_⟩
    have hj : j < len * 8 := by
      have := (List.getElem?_eq_some_iff.1 hu).1
      rw [List.length_map, flat_len fun d hd => (hD d hd).1] at this
      simpa using this
    have h8 : j % 8 < 8 := Nat.mod_lt _ (by decide)
    have hi : j / 8 < len := by omega
    have e1 := flat_at (fun d hd => (hD d hd).1) (i := j / 8) (by simpa using hi) h8
    have hB := hf (j / 8) hi
    rw [List.getElem?_map, show j = j / 8 * 8 + j % 8 by omega, e1, List.getElem_map, List.getElem_range, ← List.getElem?_map, getD_bv (by rw [hB.1.1]; exact h8)] at hu
    have := hB.2 (j % 8) h8
    rw [add_plain, show j / 8 * 8 + j % 8 = j by omega] at this
    rw [this]; exact hu
end Go.Proofs.Ytheijobnmdbodaa
namespace Go.Proofs.Ytheijobnmdbodaa
open Go Go.RowKit Go.ChangeShapes Go.WideShapes Go.ChangeAt

theorem agg_in {H : Type} {enc : TypeId × Value → H} {P : Program} {w : World} {base b0 n : Nat} {spare : Nat → Bool} {held : Bool} {r : Reach} {t e : TypeId} {v : Value} {d : DataW H} {p : List MemPlace}
    (ht : P.underlying t = some (.array n e)) (he : P.underlying e = some (.int .u8)) (hc : P.cellsOf e = 1) (hC : P.cellsOf t = n) (hv : Value.okWide P w r b0 t v) (h : DataW.Trod enc P w base spare held t v d p) :
    ∃ l : List Nat, l.length = n ∧ (∀ x ∈ l, x < 256) ∧ v = .agg (bcs l) := by
  obtain ⟨cs, rfl, hsz⟩ : ∃ cs, v = .agg cs ∧ cs.size = P.cellsOf t := by
    simp only [Value.okWide, ht] at hv
    obtain ⟨cs, h1, h2, _⟩ := hv
    exact ⟨cs, h1, h2⟩
  obtain ⟨fuel, hf⟩ := h
  obtain ⟨l, h1, h2, h3⟩ := u8s_cells ht he hc hC hf
  refine ⟨l, h1, h2, ?_⟩
  have h4 : cs.toList = l.map bv := h3
  rw [bcs, ← h4]
theorem blk_in {H : Type} {enc : TypeId × Value → H} {P : Program} {w : World} {base b0 : Nat} {spare : Nat → Bool} {held : Bool} {r : Reach} {t e : TypeId} {v : Value} {d : DataW H} {p : List MemPlace}
    (ht : P.underlying t = some (.array 8 e)) (he : P.underlying e = some (.int .u8)) (hc : P.cellsOf e = 1) (hC : P.cellsOf t = 8) (hv : Value.okWide P w r b0 t v) (h : DataW.Trod enc P w base spare held t v d p) :
    ∃ b : Blk, v = .agg (bcs b.1) := by
  obtain ⟨l, h1, h2, h3⟩ := agg_in ht he hc hC hv h
  exact ⟨⟨l, h1, h2⟩, h3⟩
/-- An array of n blocks. -/
theorem blks_in {H : Type} {enc : TypeId × Value → H} {P : Program} {w : World} {base b0 n : Nat} {spare : Nat → Bool} {held : Bool} {r : Reach} {t e q : TypeId} {v : Value} {d : DataW H} {p : List MemPlace}
    (ht : P.underlying t = some (.array n e)) (he : P.underlying e = some (.array 8 q)) (hq : P.underlying q = some (.int .u8)) (cq : P.cellsOf q = 1) (ce : P.cellsOf e = 8) (hC : P.cellsOf t = n * 8) (hv : Value.okWide P w r b0 t v) (h : DataW.Trod enc P w base spare held t v d p) :
    ∃ D : List (List Nat), D.length = n ∧ (∀ d ∈ D, B8 d) ∧ v = .agg (bcs D.flatten) := by
  obtain ⟨cs, rfl, hsz⟩ : ∃ cs, v = .agg cs ∧ cs.size = P.cellsOf t := by
    simp only [Value.okWide, ht] at hv
    obtain ⟨cs, h1, h2, _⟩ := hv
    exact ⟨cs, h1, h2⟩
  rw [hC] at hsz
  obtain ⟨fuel, hf⟩ := h
  obtain ⟨ys, m, _, _, hlen, hl, hel⟩ := DataW.trod_array ht hf
  have : (Value.agg cs).cells = cs := rfl
  rw [this] at hel
  obtain ⟨f, hf⟩ := Go.Deep.choose_lt (α := List Nat) (n := n) (p := fun i y => B8 y ∧ (cs.toList.drop (i * 8)).take 8 = y.map bv) (fun i hi => by
    have a := hel i hi
    rw [ce, List.getElem?_eq_getElem (by omega)] at a
    obtain ⟨l, h1, h2, h3⟩ := u8s_cells he hq cq ce a
    exact ⟨l, ⟨h1, h2⟩, h3⟩)
  have hD : ∀ d ∈ (List.range n).map f, B8 d := fun d hd => by
    obtain ⟨i, hi, rfl⟩ := List.mem_map.1 hd
    exact (hf i (List.mem_range.1 hi)).1
  refine ⟨(List.range n).map f, by simp, hD, ?_⟩
  have e : cs.toList = ((List.range n).map f).flatten.map bv := by
    refine List.ext_getElem? fun p => ?_
    rcases Nat.lt_or_ge p (n * 8) with hp | hp
    · have h8 : p % 8 < 8 := Nat.mod_lt _ (by decide)
      have hi : p / 8 < n := by omega
      have e1 := congrArg (fun l => l[p % 8]?) (hf (p / 8) hi).2
      simp only [List.getElem?_take_of_lt h8, List.getElem?_drop] at e1
      rw [show p / 8 * 8 + p % 8 = p by omega] at e1
      have e2 := flat_at (fun d hd => (hD d hd).1) (i := p / 8) (by simpa using hi) h8
      rw [show p / 8 * 8 + p % 8 = p by omega] at e2
      rw [e1, List.getElem?_map, List.getElem?_map, e2]
      simp
    · rw [List.getElem?_eq_none (by simpa [hsz] using hp), List.getElem?_eq_none (by rw [List.length_map, flat_len fun d hd => (hD d hd).1]; simpa using hp)]
  rw [bcs, ← e]
end Go.Proofs.Ytheijobnmdbodaa
namespace Go.Proofs.Ytheijobnmdbodaa
open Go Go.RowKit Go.ChangeShapes Go.WideShapes Go.ChangeAt

theorem is_in {H : Type} {enc : TypeId × Value → H} {P : Program} {w : World} {base : Nat} {spare : Nat → Bool} {held : Bool} {t e : TypeId} {a : Option Addr} {len cap : Nat} {x : DataW H × List MemPlace}
    (ht : P.underlying t = some (.slice e)) (he : P.underlying e = some (.int .i64)) (hc : P.cellsOf e = 1) (h : ∃ fuel, DataW.trod enc P w base spare held fuel t (Value.slice a len cap).cells.toList = some x) : ∃ l, Is w (.slice a len cap) l ∧ ∀ n ∈ l, (Lit.int .i64 n).wf = true := by
  obtain ⟨fuel, hf⟩ := h
  rcases open_ints ht he hc hf with ⟨hcs, _⟩ | ⟨ad, l, c, zs, hcs, _, hl, hm, hz, _, hcell, hwz⟩
  · simp [Value.cells] at hcs
    obtain ⟨rfl, rfl, rfl⟩ := hcs
    exact ⟨[], Sl.nil_ w, fun _ h => (by cases h)⟩
  · simp [Value.cells] at hcs
    obtain ⟨rfl, rfl, rfl⟩ := hcs
    have hzl : len ≤ zs.length := by rw [hz]; split <;> omega
    have hlen : (zs.take len).length = len := by simp; omega
    refine ⟨zs.take len, ⟨some ad, cap, by rw [hlen], ⟨by omega, hm⟩, fun h => (by cases h), fun hn => ?_⟩, fun n hn => hwz n (List.mem_of_mem_take hn)⟩
    rw [hlen] at hn
    obtain ⟨b, off, rfl, hat⟩ := ints_at hcell (by omega)
    refine ⟨b, off, rfl, fun k hk => ⟨_, hat k (by omega), ?_⟩⟩
    have hk' : k < len := by omega
    rw [getD_in (show k < zs.length by omega)]
    simp [Iv]
theorem ms_in {H : Type} {enc : TypeId × Value → H} {P : Program} {w : World} {base : Nat} {held : Bool} {t e q : TypeId} {a : Option Addr} {len cap : Nat} {x : DataW H × List MemPlace}
    (ht : P.underlying t = some (.slice e)) (he : P.underlying e = some (.slice q)) (hq : P.underlying q = some (.int .u8)) (ce : P.cellsOf e = 1) (cq : P.cellsOf q = 1)
    (h : ∃ fuel, DataW.trod enc P w base (fun _ => true) held fuel t (Value.slice a len cap).cells.toList = some x) : ∃ m, Ms w (.slice a len cap) m := by
  obtain ⟨fuel, hf⟩ := h
  rcases Go.Deep.open_int_rows ht he hq ce cq hf with ⟨hcs, _⟩ | ⟨ad, l, c, A, L, C, Z, hcs, _, hl, hm, _, hrow⟩
  · simp [Value.cells] at hcs
    obtain ⟨rfl, rfl, rfl⟩ := hcs
    exact ⟨[], Sl.nil_ w⟩
  · simp [Value.cells] at hcs
    obtain ⟨rfl, rfl, rfl⟩ := hcs
    refine ⟨(List.range len).map fun r => ((Z r).take (L r)).map Int.toNat, some ad, cap, by simp, ⟨by simpa using hl, hm⟩, fun h => (by cases h), fun hn => ?_⟩
    have hn' : 0 < len := by simpa using hn
    obtain ⟨b, off, spot⟩ := ad
    have hspot : spot = none := by
      have h0 := (hrow 0 (by omega)).1
      simpa [Addr.add] using World.cell?_spot h0
    subst hspot
    refine ⟨b, off, rfl, fun r hr => ?_⟩
    have hr' : r < len := by simpa using hr
    obtain ⟨h1, h2, h3, h4, h5, h6, h7⟩ := hrow r (by omega)
    rw [add_plain] at h1
    refine ⟨_, h1, ?_⟩
    simp only [List.getElem_map, List.getElem_range]
    have hlen : (((Z r).take (L r)).map Int.toNat).length = L r := by simp; omega
    refine ⟨A r, C r, by rw [hlen], ⟨by omega, h3⟩, fun y hy => ?_, h6, fun hn => ?_⟩
    · obtain ⟨z, hz', rfl⟩ := List.mem_map.1 hy
      have := bounds_u8 (h5 z (List.mem_of_mem_take hz'))
      omega
    · rw [hlen] at hn
      cases hA : A r with
      | none => have := h6 hA; omega
      | some a' =>
        have hc' := (h7 a' hA).2
        obtain ⟨b', off', rfl, hat⟩ := ints_at (zs := Z r) (fun i hi => hc' i (by omega)) (by omega)
        refine ⟨b', off', rfl, fun k hk => ?_⟩
        have hk' : k < L r := by omega
        rw [hat k (by omega)]
        have hb := bounds_u8 (h5 (Z r)[k] (List.getElem_mem (by omega)))
        rw [getD_in (show k < (((Z r).take (L r)).map Int.toNat).length by omega), getD_in (show k < (Z r).length by omega)]
        simp
        omega
end Go.Proofs.Ytheijobnmdbodaa
