/- Joined: Open Opm. -/
import Derived.Test.YtfihiihakgcikaaGA
import Derived.ProofKit
import Derived.OpenShut
import Derived.Deep.Matrix
namespace Go.Proofs.Ytfihiihakgcikaa
open Go Go.RowKit Go.ChangeShapes Go.WideShapes Go.ChangeAt

/-- What a law's walk ends with. -/
def lawPost (w : World) (e : Ending) (w' : World) : Prop := e = .returned (.bool true) ∧ Below w.heap.size w w'

theorem u8_nat {a : Int} (h : (Lit.int .u8 a).wf = true) : ∃ n : Nat, a = n ∧ n < 256 := by
  have := bounds_u8 h
  exact ⟨a.toNat, by omega, by omega⟩
theorem bs_in {H : Type} {enc : TypeId × Value → H} {P : Program} {w : World} {base : Nat} {spare : Nat → Bool} {held : Bool} {t e : TypeId} {a : Option Addr} {len cap : Nat} {x : DataW H × List MemPlace}
    (ht : P.underlying t = some (.slice e)) (he : P.underlying e = some (.int .u8)) (hc : P.cellsOf e = 1) (h : ∃ fuel, DataW.trod enc P w base spare held fuel t (Value.slice a len cap).cells.toList = some x) : ∃ l, Bs w (.slice a len cap) l := by
  obtain ⟨fuel, hf⟩ := h
  rcases open_ints ht he hc hf with ⟨hcs, _⟩ | ⟨ad, l, c, zs, hcs, _, hl, hm, hz, _, hcell, hwz⟩
  · simp [Value.cells] at hcs
    obtain ⟨rfl, rfl, rfl⟩ := hcs
    exact ⟨[], Bs.nil_ w⟩
  · simp [Value.cells] at hcs
    obtain ⟨rfl, rfl, rfl⟩ := hcs
    have hzl : len ≤ zs.length := by rw [hz]; split <;> omega
    have hlen : ((zs.take len).map Int.toNat).length = len := by simp; omega
    refine ⟨(zs.take len).map Int.toNat, some ad, cap, by rw [hlen], by omega, fun y hy => ?_, fun h => (by cases h), fun hn => ?_⟩
    · obtain ⟨z, hz', rfl⟩ := List.mem_map.1 hy
      have := bounds_u8 (hwz z (List.mem_of_mem_take hz'))
      omega
    · rw [hlen] at hn
      obtain ⟨b, off, rfl, hat⟩ := ints_at hcell (by omega)
      refine ⟨b, off, rfl, fun k hk => ?_⟩
      have hk' : k < len := by omega
      rw [hat k (by omega)]
      have hb := bounds_u8 (hwz zs[k] (List.getElem_mem (by omega)))
      rw [getD_in (show k < ((zs.take len).map Int.toNat).length by omega), getD_in (show k < zs.length by omega)]
      simp
      omega
end Go.Proofs.Ytfihiihakgcikaa
namespace Go.Proofs.Ytfihiihakgcikaa
open Go Go.RowKit Go.ChangeShapes Go.WideShapes Go.ChangeAt

theorem is_in {H : Type} {enc : TypeId × Value → H} {P : Program} {w : World} {base : Nat} {spare : Nat → Bool} {held : Bool} {t e : TypeId} {a : Option Addr} {len cap : Nat} {x : DataW H × List MemPlace}
    (ht : P.underlying t = some (.slice e)) (he : P.underlying e = some (.int .i64)) (hc : P.cellsOf e = 1) (h : ∃ fuel, DataW.trod enc P w base spare held fuel t (Value.slice a len cap).cells.toList = some x) : ∃ l, Is w (.slice a len cap) l ∧ ∀ n ∈ l, (Lit.int .i64 n).wf = true := by
  obtain ⟨fuel, hf⟩ := h
  rcases open_ints ht he hc hf with ⟨hcs, _⟩ | ⟨ad, l, c, zs, hcs, _, hl, hm, hz, _, hcell, hwz⟩
  · simp [Value.cells] at hcs
    obtain ⟨rfl, rfl, rfl⟩ := hcs
    exact ⟨[], Sl.nil_ w, fun _ h => (by cases h)⟩
  · simp [Value.cells] at hcs
    obtain ⟨rfl, rfl, rfl⟩ := hcs
    have hzl : len ≤ zs.length := by rw [hz]; split <;> omega
    have hlen : (zs.take len).length = len := by simp; omega
    refine ⟨zs.take len, ⟨some ad, cap, by rw [hlen], ⟨by omega, hm⟩, fun h => (by cases h), fun hn => ?_⟩, fun n hn => hwz n (List.mem_of_mem_take hn)⟩
    rw [hlen] at hn
    obtain ⟨b, off, rfl, hat⟩ := ints_at hcell (by omega)
    refine ⟨b, off, rfl, fun k hk => ⟨_, hat k (by omega), ?_⟩⟩
    have hk' : k < len := by omega
    rw [getD_in (show k < zs.length by omega)]
    simp [Iv]
theorem ms_in {H : Type} {enc : TypeId × Value → H} {P : Program} {w : World} {base : Nat} {held : Bool} {t e q : TypeId} {a : Option Addr} {len cap : Nat} {x : DataW H × List MemPlace}
    (ht : P.underlying t = some (.slice e)) (he : P.underlying e = some (.slice q)) (hq : P.underlying q = some (.int .u8)) (ce : P.cellsOf e = 1) (cq : P.cellsOf q = 1)
    (h : ∃ fuel, DataW.trod enc P w base (fun _ => true) held fuel t (Value.slice a len cap).cells.toList = some x) : ∃ m, Ms w (.slice a len cap) m := by
  obtain ⟨fuel, hf⟩ := h
  rcases Go.Deep.open_int_rows ht he hq ce cq hf with ⟨hcs, _⟩ | ⟨ad, l, c, A, L, C, Z, hcs, _, hl, hm, _, hrow⟩
  · simp [Value.cells] at hcs
    obtain ⟨rfl, rfl, rfl⟩ := hcs
    exact ⟨[], Sl.nil_ w⟩
  · simp [Value.cells] at hcs
    obtain ⟨rfl, rfl, rfl⟩ := hcs
    refine ⟨(List.range len).map fun r => ((Z r).take (L r)).map Int.toNat, some ad, cap, by simp, ⟨by simpa using hl, hm⟩, fun h => (by cases h), fun hn => ?_⟩
    have hn' : 0 < len := by simpa using hn
    obtain ⟨b, off, spot⟩ := ad
    have hspot : spot = none := by
      have h0 := (hrow 0 (by omega)).1
      simpa [Addr.add] using World.cell?_spot h0
    subst hspot
    refine ⟨b, off, rfl, fun r hr => ?_⟩
    have hr' : r < len := by simpa using hr
    obtain ⟨h1, h2, h3, h4, h5, h6, h7⟩ := hrow r (by omega)
    rw [add_plain] at h1
    refine ⟨_, h1, ?_⟩
    simp only [List.getElem_map, List.getElem_range]
    have hlen : (((Z r).take (L r)).map Int.toNat).length = L r := by simp; omega
    refine ⟨A r, C r, by rw [hlen], ⟨by omega, h3⟩, fun y hy => ?_, h6, fun hn => ?_⟩
    · obtain ⟨z, hz', rfl⟩ := List.mem_map.1 hy
      have := bounds_u8 (h5 z (List.mem_of_mem_take hz'))
      omega
    · rw [hlen] at hn
      cases hA : A r with
      | none => have := h6 hA; omega
      | some a' =>
        have hc' := (h7 a' hA).2
        obtain ⟨b', off', rfl, hat⟩ := ints_at (zs := Z r) (fun i hi => hc' i (by omega)) (by omega)
        refine ⟨b', off', rfl, fun k hk => ?_⟩
        have hk' : k < L r := by omega
        rw [hat k (by omega)]
        have hb := bounds_u8 (h5 (Z r)[k] (List.getElem_mem (by omega)))
        rw [getD_in (show k < (((Z r).take (L r)).map Int.toNat).length by omega), getD_in (show k < (Z r).length by omega)]
        simp
        omega
end Go.Proofs.Ytfihiihakgcikaa
