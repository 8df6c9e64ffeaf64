/- CRC-64: a byte changed in its string; a change bit by bit; 64-bit operations. -/
import Derived.Test.YtfihiihakgcikaaHa
import Derived.Test.YtfihiihakgcikaaGB
namespace Go.Proofs.Ytfihiihakgcikaa
open Go Go.RowKit
set_option linter.unusedVariables false
namespace Crc
theorem mul_xor (k a b : Nat) : 2 ^ k * (a ^^^ b) = 2 ^ k * a ^^^ 2 ^ k * b := by
  have := Nat.shiftLeft_xor_distrib (i := k) (a := a) (b := b)
  rw [Nat.shiftLeft_eq, Nat.shiftLeft_eq, Nat.shiftLeft_eq] at this
  rw [Nat.mul_comm, this, Nat.mul_comm a, Nat.mul_comm b]
/-- One byte changed. -/
theorem num_set : ∀ (b : List Nat) (j y : Nat), j < b.length → num (b.set j (b.getD j 0 ^^^ y)) = num b ^^^ 2 ^ (8 * j) * y
  | [], j, y, h => absurd h (Nat.not_lt_zero _)
  | a :: t, 0, y, _ => by
    show (a ^^^ y) ^^^ 2 ^ 8 * num t = (a ^^^ 2 ^ 8 * num t) ^^^ 1 * y
    rw [Nat.one_mul, Nat.xor_assoc, Nat.xor_comm y, ← Nat.xor_assoc]
  | a :: t, j + 1, y, h => by
    have ih := num_set t j y (by simpa using h)
    show a ^^^ 2 ^ 8 * num (t.set j (t.getD j 0 ^^^ y)) = (a ^^^ 2 ^ 8 * num t) ^^^ 2 ^ (8 * (j + 1)) * y
    rw [ih, mul_xor, Nat.xor_assoc, ← Nat.mul_assoc, ← Nat.pow_add, show 8 + 8 * j = 8 * (j + 1) by omega]
theorem set_lt {b : List Nat} {j y : Nat} (hb : ∀ x ∈ b, x < 256) (hy : y < 256) : ∀ x ∈ b.set j y, x < 256 := by
  intro x hx
  rcases List.mem_or_eq_of_mem_set hx with h | h
  · exact hb x h
  · rw [h]; exact hy
/-- The low bits of a pattern, one more. -/
theorem low_succ (p i : Nat) : p % 2 ^ (i + 1) = p % 2 ^ i ^^^ 2 ^ i * (p / 2 ^ i % 2) := by
  apply Nat.eq_of_testBit_eq
  intro k
  rw [Nat.testBit_xor, Nat.testBit_mod_two_pow, Nat.testBit_mod_two_pow, Nat.testBit_two_pow_mul, ← Nat.pow_one 2, Nat.testBit_mod_two_pow]
  rw [Nat.pow_one, Nat.testBit_div_two_pow]
  rcases Nat.lt_trichotomy k i with h | h | h
  · simp [h, show k < i + 1 by omega, show ¬ i ≤ k by omega]
  · subst h; simp
  · simp [show ¬ k < i by omega, show ¬ k < i + 1 by omega, show ¬ k - i < 1 by omega]
/-- One round of the burst: bit first + i of the string takes bit i of the pattern. -/
theorem burst_step {b c : List Nat} {f p i : Nat} (hc : num c = num b ^^^ 2 ^ f * (p % 2 ^ i)) (hl : (f + i) / 8 < c.length) : num (c.set ((f + i) / 8) (c.getD ((f + i) / 8) 0 ^^^ 2 ^ ((f + i) % 8) * (p / 2 ^ i % 2))) = num b ^^^ 2 ^ f * (p % 2 ^ (i + 1)) := by
  rw [num_set _ _ _ hl, hc, low_succ, mul_xor, Nat.xor_assoc, ← Nat.mul_assoc, ← Nat.mul_assoc, ← Nat.pow_add, ← Nat.pow_add, show 8 * ((f + i) / 8) + (f + i) % 8 = f + i by omega]
theorem burst_end {b c : List Nat} {f p : Nat} (hp : p < 2 ^ 64) (hc : num c = num b ^^^ 2 ^ f * (p % 2 ^ 64)) : num b ^^^ num c = 2 ^ f * p := by
  rw [hc, ← Nat.xor_assoc, Nat.xor_self, Nat.zero_xor, Nat.mod_eq_of_lt hp]
/-- Steps while bits remain. -/
theorem st_bit (x : Nat) : (x % 2 = 1 → st x = x / 2 ^^^ poly) ∧ (x % 2 = 0 → st x = x / 2) := by
  refine ⟨fun h => ?_, fun h => ?_⟩ <;> unfold st <;> rw [h]
  · rw [Nat.one_mul]
  · rw [Nat.zero_mul, Nat.xor_zero]
theorem sts_succ (n x : Nat) : sts (n + 1) x = st (sts n x) := by rw [sts_add]; rfl
end Crc
/-! ### 64-bit operations -/
theorem bv64 {a : Nat} (ha : a < 2 ^ 64) : (BitVec.ofInt 64 (a : Int)).toNat = a := by rw [BitVec.ofInt_natCast, BitVec.toNat_ofNat]; exact Nat.mod_eq_of_lt ha
theorem xor_u64 {a b : Nat} (ha : a < 2 ^ 64) (hb : b < 2 ^ 64) : bits BinOp.xor IntKind.u64 (a : Int) (b : Int) = ((a ^^^ b : Nat) : Int) := by
  have hx : a ^^^ b < 2 ^ 64 := Nat.xor_lt_two_pow ha hb
  show IntKind.u64.wrap ((BitVec.ofInt 64 (a : Int) ^^^ BitVec.ofInt 64 (b : Int)).toNat : Int) = _
  rw [BitVec.toNat_xor, bv64 ha, bv64 hb, IntKind.wrap_u64]
  omega
theorem and1_u64 {a : Nat} (ha : a < 2 ^ 64) : bits BinOp.and IntKind.u64 (a : Int) 1 = ((a % 2 : Nat) : Int) := by
  have e2 : (BitVec.ofInt 64 (1 : Int)).toNat = 2 ^ 1 - 1 := by decide
  show IntKind.u64.wrap ((BitVec.ofInt 64 (a : Int) &&& BitVec.ofInt 64 (1 : Int)).toNat : Int) = _
  rw [BitVec.toNat_and, bv64 ha, e2, Nat.and_two_pow_sub_one_eq_mod, IntKind.wrap_u64]
  omega
end Go.Proofs.Ytfihiihakgcikaa
