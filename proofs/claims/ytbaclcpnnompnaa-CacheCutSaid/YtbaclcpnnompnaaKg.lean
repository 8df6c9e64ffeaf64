/- The reference's Ints; lists of integers that a call appends to. -/
import Derived.Test.YtbaclcpnnompnaaKd
import Derived.Test.YtbaclcpnnompnaaGA
import Derived.BigQuiet
namespace Go.Proofs.Ytbaclcpnnompnaa
open Go Go.RowKit
set_option linter.unusedVariables false
set_option linter.unusedSimpArgs false
theorem is_form {w : World} {v : Value} {l : List Int} (h : Is w v l) : ∃ A c, v = .slice A l.length c := by obtain ⟨A, c, h, _⟩ := h; exact ⟨A, c, h⟩
theorem is_fw {w w' : World} {v : Value} {l : List Int} (h : Is w v l) (hb : Below w.heap.size w w') : Is w' v l := Sl.keeps Iv.keeps _ _ _ _ h (Below.toSame hb)
theorem is_nth {w : World} {A : Option Addr} {n c : Nat} {l : List Int} (h : Is w (.slice A n c) l) {k : Nat} (hk : k < n) : ∃ b off, A = some ⟨b, off, none⟩ ∧ w.cell? ⟨b, off + k, none⟩ = some (.int .i64 (l.getD k 0)) := by
  obtain ⟨A', c', e, -, -, hc⟩ := h
  injection e with e1 e2 e3
  obtain ⟨b, off, h1, h2⟩ := hc (by omega)
  obtain ⟨u, hu, hr⟩ := h2 k (by omega)
  refine ⟨b, off, by rw [e1, h1], ?_⟩
  rw [hu, hr, getD_in (by omega)]
theorem is_len {w : World} {A : Option Addr} {n c : Nat} {l : List Int} (h : Is w (.slice A n c) l) : l.length = n ∧ n ≤ 9223372036854775807 := by
  obtain ⟨A', c', e, hm, -, -⟩ := h
  injection e with e1 e2 e3
  refine ⟨e2.symm, ?_⟩
  have := hm.2; unfold maxLen at this; omega
theorem list_eq_of {a b : List Int} {n : Nat} (ha : a.length = n) (hb : b.length = n) (h : ∀ k, k < n → a.getD k 0 = b.getD k 0) : a = b := by
  refine List.ext_getElem (by omega) fun k h1 h2 => ?_
  have := h k (by omega)
  rw [getD_in h1, getD_in h2] at this; exact this
end Go.Proofs.Ytbaclcpnnompnaa
