/- Opening the arguments of a law. -/
import Derived.Test.YtfhgalfdlkdliaaMem
import Derived.ProofKit
import Derived.OpenShut
namespace Go.Proofs.Ytfhgalfdlkdliaa
open Go Go.RowKit Go.ChangeShapes Go.WideShapes Go.ChangeAt

/-- What a law's walk ends with. -/
def lawPost (w : World) (e : Ending) (w' : World) : Prop := e = .returned (.bool true) ∧ Below w.heap.size w w'

theorem u8_nat {a : Int} (h : (Lit.int .u8 a).wf = true) : ∃ n : Nat, a = n ∧ n < 256 := by
  have := bounds_u8 h
  exact ⟨a.toNat, by omega, by omega⟩
theorem bs_in {H : Type} {enc : TypeId × Value → H} {P : Program} {w : World} {base : Nat} {spare : Nat → Bool} {held : Bool} {t e : TypeId} {a : Option Addr} {len cap : Nat} {x : DataW H × List MemPlace}
    (ht : P.underlying t = some (.slice e)) (he : P.underlying e = some (.int .u8)) (hc : P.cellsOf e = 1) (h : ∃ fuel, DataW.trod enc P w base spare held fuel t (Value.slice a len cap).cells.toList = some x) : ∃ l, Bs w (.slice a len cap) l := by
  obtain ⟨fuel, hf⟩ := h
  rcases open_ints ht he hc hf with ⟨hcs, _⟩ | ⟨ad, l, c, zs, hcs, _, hl, hm, hz, _, hcell, hwz⟩
  · simp [Value.cells] at hcs
    obtain ⟨rfl, rfl, rfl⟩ := hcs
    exact ⟨[], Bs.nil_ w⟩
  · simp [Value.cells] at hcs
    obtain ⟨rfl, rfl, rfl⟩ := hcs
    have hzl : len ≤ zs.length := by rw [hz]; split <;> omega
    have hlen : ((zs.take len).map Int.toNat).length = len := by simp; omega
    refine ⟨(zs.take len).map Int.toNat, some ad, cap, by rw [hlen], by omega, fun y hy => ?_, fun h => (by cases h), fun hn => ?_⟩
    · obtain ⟨z, hz', rfl⟩ := List.mem_map.1 hy
      have := bounds_u8 (hwz z (List.mem_of_mem_take hz'))
      omega
    · rw [hlen] at hn
      obtain ⟨b, off, rfl, hat⟩ := ints_at hcell (by omega)
      refine ⟨b, off, rfl, fun k hk => ?_⟩
      have hk' : k < len := by omega
      rw [hat k (by omega)]
      have hb := bounds_u8 (hwz zs[k] (List.getElem_mem (by omega)))
      rw [getD_in (show k < ((zs.take len).map Int.toNat).length by omega), getD_in (show k < zs.length by omega)]
      simp
      omega
end Go.Proofs.Ytfhgalfdlkdliaa
