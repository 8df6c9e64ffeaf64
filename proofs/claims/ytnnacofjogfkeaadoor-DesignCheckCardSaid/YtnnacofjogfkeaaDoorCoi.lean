/- Contracts: layer 7's small. -/
import Derived.Test.YtnnacofjogfkeaaDoorUh
import Derived.IntWalk
namespace Go.Proofs.YtnnacofjogfkeaaDoor
open Go Go.RowKit Pl
set_option linter.unusedVariables false
set_option linter.unusedSimpArgs false

theorem and_u16 (n : Nat) (hn : n < 65536) : bits BinOp.and IntKind.u16 (n : Int) 255 = ((n % 256 : Nat) : Int) := by
  have e1 : (BitVec.ofInt 16 (n : Int)).toNat = n := by rw [BitVec.ofInt_natCast, BitVec.toNat_ofNat]; exact Nat.mod_eq_of_lt hn
  have e2 : (BitVec.ofInt 16 (255 : Int)).toNat = 255 := by decide
  show IntKind.u16.wrap ((BitVec.ofInt 16 (n : Int) &&& BitVec.ofInt 16 (255 : Int)).toNat : Int) = _
  have h := Nat.and_two_pow_sub_one_eq_mod n 8
  rw [BitVec.toNat_and, e1, e2, show (255 : Nat) = 2 ^ 8 - 1 from rfl, h, IntKind.wrap_u16]
  omega
/-- The numbers of a small complete design. -/
def smPost (w : World) (e : Ending) (w' : World) : Prop := ∃ v k : Nat, e = .returned (.tuple #[.int .i64 (v : Int), .int .i64 (k : Int)]) ∧ (2 ≤ k ∧ k ≤ v ∧ v ≤ 8) ∧ Below w.heap.size w w'
set_option maxHeartbeats 2000000 in
set_option maxRecDepth 100000 in
theorem small_any (n : Nat) (w : World) (hn : n < 65536) : Calls Tryd.prog 22 #[.int .u16 (n : Int)] w (smPost w) := by
  go_enter Tryd.func22, Tryd.ntmps22
  go_wp2_with fail
  obtain ⟨v, hv⟩ : ∃ v, 2 + n / 256 % 7 = v := ⟨_, rfl⟩
  have ev : (2 : Int) + (n : Int) / 256 % 7 = (v : Int) := by rw [← hv]; rfl
  have v8 : 2 ≤ v ∧ v ≤ 8 := by omega
  rw [ev]
  clear hv ev
  obtain ⟨v2, v8⟩ := v8
  have vz : ¬ ((v : Int) - 1 = 0) := by omega
  have AN := Lib.hid (and_u16 n hn)
  go_quiet (fail)
  rw [AN.out]
  obtain ⟨c, hc⟩ : ∃ c, n % 256 = c := ⟨_, rfl⟩
  have c255 : c < 256 := by omega
  rw [hc]
  obtain ⟨u, rfl⟩ : ∃ u, v = u + 1 := ⟨v - 1, by omega⟩
  have eu : ((u + 1 : Nat) : Int) - 1 = (u : Int) := by omega
  have w1 : wrap64 (c : Int) = (c : Int) := IntWalk.wrap64_in _ ⟨by omega, by omega⟩
  obtain ⟨r, hr⟩ : ∃ r, c % u = r := ⟨_, rfl⟩
  have ru : r < u := by rw [← hr]; exact Nat.mod_lt _ (by omega)
  have er : (c : Int).tmod (u : Int) = (r : Int) := by rw [← hr]; exact (Int.ofNat_tmod c u).symm
  have w2 : wrap64 (2 + (r : Int)) = ((2 + r : Nat) : Int) := by rw [IntWalk.wrap64_in _ ⟨by omega, by omega⟩]; omega
  rw [w1, eu, er, w2]
  clear AN hc eu w1 hr er w2
  go_wp2_with fail
  go_ret2
  exact ⟨u + 1, 2 + r, rfl, ⟨by omega, by omega, v8⟩, below_drewN (Below.refl _ _) nq⟩
end Go.Proofs.YtnnacofjogfkeaaDoor
