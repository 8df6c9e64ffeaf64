/- The reference's product, negated element, inverse. -/
import Derived.Test.YtjbgfpbidjhlkaaDoorSy
namespace Go.Proofs.YtjbgfpbidjhlkaaDoor
open Go Go.RowKit
set_option linter.unusedVariables false

theorem rmul_prime (q a b : Nat) (w : World) (hq : q ∈ Sf.sizes) (hp : Sf.prm q = q) (ha : a < q) (hb : b < q) : Calls Tryd.prog 28 #[.int .i64 (q : Int), .int .i64 (a : Int), .int .i64 (b : Int)] w (newN (Sf.mulF q a b) w) := by
  have M0 := rprime_any q w hq
  obtain ⟨p2, -, q9, -, -⟩ := Sf.prm_ok hq
  rw [hp, show digs q = 1 from (show ∀ q ∈ Sf.sizes, Sf.prm q = q → digs q = 1 by decide) q hq hp] at M0
  rw [show Sf.mulF q a b = a * b % q by rw [Sf.mulF, if_pos hp]]
  have M0 := Lib.hid M0
  rw [hp] at p2
  have hab : a * b ≤ 8 * 8 := Nat.mul_le_mul (by omega) (by omega)
  obtain ⟨u, hu⟩ : ∃ u, a * b = u := ⟨_, rfl⟩
  rw [hu] at hab ⊢
  obtain ⟨s, hs⟩ : ∃ s, u % q = s := ⟨_, rfl⟩
  rw [hs]
  have em : (a : Int) * (b : Int) = (u : Int) := by rw [← hu, Int.natCast_mul]
  have es : (u : Int) % (q : Int) = (s : Int) := by rw [← hs, Int.natCast_emod]
  have qI : (2 : Int) ≤ (q : Int) := by omega
  clear hu hs hp hq
  go_enter Tryd.func28, Tryd.ntmps28
  go_wp2_with fail
  refine M0.out.mono ?_
  rintro e z1 ⟨rfl, hzz⟩
  obtain rfl := hzz.symm
  go_wp2_with fail
  go_ret
  exact ⟨by rw [← es]; rfl, Below.refl _ _⟩
theorem rmul_any (q a b : Nat) (w : World) (hq : q ∈ Sf.sizes) (ha : a < q) (hb : b < q) : Calls Tryd.prog 28 #[.int .i64 (q : Int), .int .i64 (a : Int), .int .i64 (b : Int)] w (newN (Sf.mulF q a b) w) := by
  by_cases hp : Sf.prm q = q
  · exact rmul_prime q a b w hq hp ha hb
  · exact rmul_big q a b w ((show ∀ q ∈ Sf.sizes, Sf.prm q ≠ q → q = 4 ∨ q = 8 ∨ q = 9 by decide) q hq hp) ha hb
def invI (q a : Nat) : Int := if a = 0 then -1 else (Sf.invF q a : Int)
end Go.Proofs.YtjbgfpbidjhlkaaDoor
