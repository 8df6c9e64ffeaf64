/- The fields with at most nine elements, as numbers: what the tables hold. -/
import Derived.Lib.Hide
namespace Go.Proofs.YtnnacofjogfkeaaDoor
namespace Sf

/-- The sizes; the prime numbers; the elements that stand for the lowest power that is too high. -/
def sizes : List Nat := [2, 3, 4, 5, 7, 8, 9]
def prm (q : Nat) : Nat := if q = 4 ∨ q = 8 then 2 else if q = 9 then 3 else q
def ovf (q : Nat) : Nat := if q = 4 ∨ q = 8 then 3 else if q = 9 then 2 else 0
/-- The sum, digit by digit. -/
def dig (p : Nat) : Nat → Nat → Nat → Nat
  | 0, _, _ => 0
  | f + 1, a, b => (a + b) % p + p * dig p f (a / p) (b / p)
/-- n times. -/
def rep (f : Nat → Nat) : Nat → Nat → Nat
  | 0, s => s
  | n + 1, s => rep f n (f s)
def addF (q a b : Nat) : Nat := dig (prm q) 4 a b
/-- x times an element. -/
def tX (q a : Nat) : Nat := rep (fun s => addF q s (ovf q)) (a / (q / prm q)) (a % (q / prm q) * prm q)
/-- Horner's rule, from a place on. -/
def hor (q a b : Nat) : Nat → Nat → Nat → Nat
  | 0, _, r => r
  | f + 1, pl, r => if pl = 0 then r else hor q a b f (pl / prm q) (rep (fun s => addF q s a) (b / pl % prm q) (tX q r))
def mulF (q a b : Nat) : Nat := if prm q = q then a * b % q else hor q a b 3 (q / prm q) 0
def negF (q a : Nat) : Nat := ((List.range q).find? fun b => addF q a b = 0).getD 0
def invF (q a : Nat) : Nat := ((List.range q).find? fun b => mulF q a b = 1).getD 0

theorem rep_succ (f : Nat → Nat) : ∀ n s, rep f (n + 1) s = f (rep f n s)
  | 0, _ => rfl
  | n + 1, s => by rw [rep, rep_succ f n (f s), ← rep]
theorem dig_zero (p : Nat) : ∀ f, dig p f 0 0 = 0
  | 0 => rfl
  | f + 1 => by rw [dig, Nat.zero_div, dig_zero p f]; simp
/-- Sums and products are elements. -/
theorem add_lt {q a b : Nat} (hq : q ∈ sizes) (ha : a < q) (hb : b < q) : addF q a b < q :=
  (show ∀ q ∈ sizes, ∀ a, a < q → ∀ b, b < q → addF q a b < q by decide +kernel) q hq a ha b hb
theorem mul_lt {q a b : Nat} (hq : q ∈ sizes) (ha : a < q) (hb : b < q) : mulF q a b < q :=
  (show ∀ q ∈ sizes, ∀ a, a < q → ∀ b, b < q → mulF q a b < q by decide +kernel) q hq a ha b hb
theorem add_comm {q a b : Nat} (hq : q ∈ sizes) (ha : a < q) (hb : b < q) : addF q a b = addF q b a :=
  (show ∀ q ∈ sizes, ∀ a, a < q → ∀ b, b < q → addF q a b = addF q b a by decide +kernel) q hq a ha b hb
theorem mul_comm {q a b : Nat} (hq : q ∈ sizes) (ha : a < q) (hb : b < q) : mulF q a b = mulF q b a :=
  (show ∀ q ∈ sizes, ∀ a, a < q → ∀ b, b < q → mulF q a b = mulF q b a by decide +kernel) q hq a ha b hb
theorem add_assoc {q a b c : Nat} (hq : q ∈ sizes) (ha : a < q) (hb : b < q) (hc : c < q) : addF q (addF q a b) c = addF q a (addF q b c) :=
  (show ∀ q ∈ sizes, ∀ a, a < q → ∀ b, b < q → ∀ c, c < q → addF q (addF q a b) c = addF q a (addF q b c) by decide +kernel) q hq a ha b hb c hc
theorem mul_assoc {q a b c : Nat} (hq : q ∈ sizes) (ha : a < q) (hb : b < q) (hc : c < q) : mulF q (mulF q a b) c = mulF q a (mulF q b c) :=
  (show ∀ q ∈ sizes, ∀ a, a < q → ∀ b, b < q → ∀ c, c < q → mulF q (mulF q a b) c = mulF q a (mulF q b c) by decide +kernel) q hq a ha b hb c hc
theorem mul_add {q a b c : Nat} (hq : q ∈ sizes) (ha : a < q) (hb : b < q) (hc : c < q) : mulF q a (addF q b c) = addF q (mulF q a b) (mulF q a c) :=
  (show ∀ q ∈ sizes, ∀ a, a < q → ∀ b, b < q → ∀ c, c < q → mulF q a (addF q b c) = addF q (mulF q a b) (mulF q a c) by decide +kernel) q hq a ha b hb c hc
theorem units {q a : Nat} (hq : q ∈ sizes) (ha : a < q) : addF q a 0 = a ∧ mulF q a 1 = a ∧ mulF q a 0 = 0 :=
  (show ∀ q ∈ sizes, ∀ a, a < q → addF q a 0 = a ∧ mulF q a 1 = a ∧ mulF q a 0 = 0 by decide +kernel) q hq a ha
theorem neg_ok {q a : Nat} (hq : q ∈ sizes) (ha : a < q) : negF q a < q ∧ addF q a (negF q a) = 0 ∧ ∀ b, b < q → addF q a b = 0 → b = negF q a :=
  (show ∀ q ∈ sizes, ∀ a, a < q → negF q a < q ∧ addF q a (negF q a) = 0 ∧ ∀ b, b < q → addF q a b = 0 → b = negF q a by decide +kernel) q hq a ha
theorem inv_ok {q a : Nat} (hq : q ∈ sizes) (ha : a < q) (h0 : a ≠ 0) : invF q a < q ∧ invF q a ≠ 0 ∧ mulF q a (invF q a) = 1 ∧ ∀ b, b < q → mulF q a b = 1 → b = invF q a :=
  (show ∀ q ∈ sizes, ∀ a, a < q → a ≠ 0 → invF q a < q ∧ invF q a ≠ 0 ∧ mulF q a (invF q a) = 1 ∧ ∀ b, b < q → mulF q a b = 1 → b = invF q a by decide +kernel) q hq a ha h0
theorem inv_zero {q b : Nat} (hq : q ∈ sizes) (hb : b < q) : mulF q 0 b ≠ 1 :=
  (show ∀ q ∈ sizes, ∀ b, b < q → mulF q 0 b ≠ 1 by decide +kernel) q hq b hb
theorem prm_ok {q : Nat} (hq : q ∈ sizes) : 2 ≤ prm q ∧ prm q ≤ q ∧ q ≤ 9 ∧ 2 ≤ q ∧ prm q ≤ 7 :=
  (show ∀ q ∈ sizes, 2 ≤ prm q ∧ prm q ≤ q ∧ q ≤ 9 ∧ 2 ≤ q ∧ prm q ≤ 7 by decide +kernel) q hq
theorem big_ok {q : Nat} (hq : q = 4 ∨ q = 8 ∨ q = 9) : q ∈ sizes ∧ 2 ≤ q / prm q ∧ q / prm q ≤ 4 ∧ q / prm q * prm q ≤ q ∧ ovf q < q ∧ prm q ≤ 3 := by
  rcases hq with rfl | rfl | rfl <;> decide
theorem tX_lt {q a : Nat} (hq : q = 4 ∨ q = 8 ∨ q = 9) (ha : a < q) : tX q a < q := by
  rcases hq with rfl | rfl | rfl
  · exact (show ∀ a, a < 4 → tX 4 a < 4 by decide +kernel) a ha
  · exact (show ∀ a, a < 8 → tX 8 a < 8 by decide +kernel) a ha
  · exact (show ∀ a, a < 9 → tX 9 a < 9 by decide +kernel) a ha
theorem hor_zero (q a b r : Nat) : ∀ f, hor q a b f 0 r = r
  | 0 => rfl
  | f + 1 => by rw [hor, if_pos rfl]
theorem mul_big {q : Nat} (hq : q = 4 ∨ q = 8 ∨ q = 9) (a b : Nat) : mulF q a b = hor q a b 3 (q / prm q) 0 := by
  rcases hq with rfl | rfl | rfl <;> rfl
theorem rep_lt {f : Nat → Nat} {q : Nat} (hf : ∀ s, s < q → f s < q) : ∀ n s, s < q → rep f n s < q
  | 0, _, h => h
  | n + 1, s, h => rep_lt hf n (f s) (hf s h)
end Sf
end Go.Proofs.YtnnacofjogfkeaaDoor
