/- Planes over the fields of size 2, 3, 4, 5 and 7: coordinates, lines, what two lines have in common; decided over all of them. -/
import Derived.Test.YtnnacofjogfkeaaDoorSm
namespace Go.Proofs.YtnnacofjogfkeaaDoor
namespace Pl
set_option maxRecDepth 100000

/-- The sizes whose planes have at most 60 points. -/
def szs : List Nat := [2, 3, 4, 5, 7]
/-- Three coordinates. -/
abbrev C3 := Nat × Nat × Nat
/-- The n-th triple, its first coordinate other than 0, the normalized ones among the first m. -/
def co (q n : Nat) : C3 := (n / q / q, n / q % q, n % q)
def ld (c : C3) : Nat := if c.1 ≠ 0 then c.1 else if c.2.1 ≠ 0 then c.2.1 else c.2.2
def cF (q m : Nat) : List C3 := ((List.range m).filter fun n => ld (co q n) == 1).map (co q)
def all (q : Nat) : List C3 := cF q (q * q * q)
def cN (q : Nat) : Nat := q * q + q + 1
/-- The n-th of them; the number of one. -/
def pt (q n : Nat) : C3 := bif Nat.beq n 0 then (0, 0, 1) else bif Nat.ble n q then (0, 1, n - 1) else (1, (n - 1 - q) / q, (n - 1 - q) % q)
def idx (q : Nat) (c : C3) : Nat := bif Nat.beq c.1 1 then q + 1 + q * c.2.1 + c.2.2 else bif Nat.beq c.2.1 1 then 1 + c.2.2 else 0
/-- Whether a point lies on a line. -/
def dot (q : Nat) (l p : C3) : Nat := Sf.addF q (Sf.addF q (Sf.addF q 0 (Sf.mulF q l.1 p.1)) (Sf.mulF q l.2.1 p.2.1)) (Sf.mulF q l.2.2 p.2.2)
/-- The numbers below m of the points on a line. -/
def lineTo (q : Nat) (l : C3) (m : Nat) : List Nat := (List.range m).filter fun p => dot q l (pt q p) == 0
def line (q n : Nat) : List Nat := lineTo q (pt q n) (cN q)
/-- The lines of the affine plane. -/
def affC (q n i : Nat) : Nat := if n < q * q then Sf.addF q (Sf.mulF q (n / q) i) (n % q) else i
def aff (q n : Nat) : List Nat := (List.range q).map fun i => if n < q * q then q * i + Sf.addF q (Sf.mulF q (n / q) i) (n % q) else q * (n - q * q) + i
def affTo (q n m : Nat) : List Nat := (List.range m).filter fun p => if n < q * q then p % q == Sf.addF q (Sf.mulF q (n / q) (p / q)) (n % q) else p / q == n - q * q
/-- What two lines or points have in common. -/
def minor (q a b c d : Nat) : Nat := Sf.addF q (Sf.mulF q a d) (Sf.negF q (Sf.mulF q b c))
def cross (q : Nat) (a b : C3) : C3 := (minor q a.2.1 a.2.2 b.2.1 b.2.2, minor q a.2.2 a.1 b.2.2 b.1, minor q a.1 a.2.1 b.1 b.2.1)
def nrm (q : Nat) (c : C3) : C3 := (Sf.mulF q c.1 (Sf.invF q (ld c)), Sf.mulF q c.2.1 (Sf.invF q (ld c)), Sf.mulF q c.2.2 (Sf.invF q (ld c)))
def meet (q a b : Nat) : Nat := idx q (nrm q (cross q (pt q a) (pt q b)))

/-! The same, quicker to reckon. -/
def fa (q a b : Nat) : Nat := bif Nat.beq q 4 then Nat.xor a b else (a + b) % q
def fm (q a b : Nat) : Nat := bif Nat.beq q 4 then Nat.land (Nat.shiftRight 2625168384 (2 * (4 * a + b))) 3 else a * b % q
def fn (q a : Nat) : Nat := bif Nat.beq q 4 then a else (q - a) % q
def fi (q a : Nat) : Nat := bif Nat.beq q 4 then Nat.land (Nat.shiftRight 180 (2 * a)) 3 else a ^ (q - 2) % q
def fld (c : C3) : Nat := bif Nat.beq c.1 0 then bif Nat.beq c.2.1 0 then c.2.2 else c.2.1 else c.1
def fdot (q : Nat) (l p : C3) : Nat := fa q (fa q (fm q l.1 p.1) (fm q l.2.1 p.2.1)) (fm q l.2.2 p.2.2)
def fminor (q a b c d : Nat) : Nat := fa q (fm q a d) (fn q (fm q b c))
def fcross (q : Nat) (a b : C3) : C3 := (fminor q a.2.1 a.2.2 b.2.1 b.2.2, fminor q a.2.2 a.1 b.2.2 b.1, fminor q a.1 a.2.1 b.1 b.2.1)
def nrmOk (q : Nat) (c : C3) (n : Nat) : Bool := Nat.beq (fm q c.1 (fi q (fld c))) (pt q n).1 && Nat.beq (fm q c.2.1 (fi q (fld c))) (pt q n).2.1 && Nat.beq (fm q c.2.2 (fi q (fld c))) (pt q n).2.2
def P2 : List (List Nat) := [[1, 3, 5], [0, 3, 4], [2, 3, 6], [0, 1, 2], [1, 4, 6], [0, 5, 6], [2, 4, 5]]
def P3 : List (List Nat) := [[1, 4, 7, 10], [0, 4, 5, 6], [3, 4, 9, 11], [2, 4, 8, 12], [0, 1, 2, 3], [1, 6, 9, 12], [1, 5, 8, 11], [0, 10, 11, 12], [3, 6, 8, 10], [2, 5, 9, 10], [0, 7, 8, 9], [2, 6, 7, 11], [3, 5, 7, 12]]
def P4 : List (List Nat) := [[1, 5, 9, 13, 17], [0, 5, 6, 7, 8], [2, 5, 10, 15, 20], [4, 5, 12, 14, 19], [3, 5, 11, 16, 18], [0, 1, 2, 3, 4], [1, 6, 10, 14, 18], [1, 8, 12, 16, 20], [1, 7, 11, 15, 19], [0, 9, 10, 11, 12], [2, 6, 9, 16, 19], [4, 8, 9, 15, 18], [3, 7, 9, 14, 20], [0, 17, 18, 19, 20], [3, 6, 12, 15, 17], [2, 8, 11, 14, 17], [4, 7, 10, 16, 17], [0, 13, 14, 15, 16], [4, 6, 11, 13, 20], [3, 8, 10, 13, 19], [2, 7, 12, 13, 18]]
def P5 : List (List Nat) := [[1, 6, 11, 16, 21, 26], [0, 6, 7, 8, 9, 10], [5, 6, 15, 19, 23, 27], [3, 6, 13, 20, 22, 29], [4, 6, 14, 17, 25, 28], [2, 6, 12, 18, 24, 30], [0, 1, 2, 3, 4, 5], [1, 10, 15, 20, 25, 30], [1, 8, 13, 18, 23, 28], [1, 9, 14, 19, 24, 29], [1, 7, 12, 17, 22, 27], [0, 26, 27, 28, 29, 30], [5, 10, 14, 18, 22, 26], [3, 8, 15, 17, 24, 26], [4, 9, 12, 20, 23, 26], [2, 7, 13, 19, 25, 26], [0, 16, 17, 18, 19, 20], [4, 10, 13, 16, 24, 27], [5, 8, 12, 16, 25, 29], [2, 9, 15, 16, 22, 28], [3, 7, 14, 16, 23, 30], [0, 21, 22, 23, 24, 25], [3, 10, 12, 19, 21, 28], [2, 8, 14, 20, 21, 27], [5, 9, 13, 17, 21, 30], [4, 7, 15, 18, 21, 29], [0, 11, 12, 13, 14, 15], [2, 10, 11, 17, 23, 29], [4, 8, 11, 19, 22, 30], [3, 9, 11, 18, 25, 27], [5, 7, 11, 20, 24, 28]]
def P7 : List (List Nat) := [[1, 8, 15, 22, 29, 36, 43, 50], [0, 8, 9, 10, 11, 12, 13, 14], [7, 8, 21, 27, 33, 39, 45, 51], [4, 8, 18, 28, 31, 41, 44, 54], [3, 8, 17, 26, 35, 37, 46, 55], [6, 8, 20, 25, 30, 42, 47, 52], [5, 8, 19, 23, 34, 38, 49, 53], [2, 8, 16, 24, 32, 40, 48, 56], [0, 1, 2, 3, 4, 5, 6, 7], [1, 14, 21, 28, 35, 42, 49, 56], [1, 11, 18, 25, 32, 39, 46, 53], [1, 10, 17, 24, 31, 38, 45, 52], [1, 13, 20, 27, 34, 41, 48, 55], [1, 12, 19, 26, 33, 40, 47, 54], [1, 9, 16, 23, 30, 37, 44, 51], [0, 50, 51, 52, 53, 54, 55, 56], [7, 14, 20, 26, 32, 38, 44, 50], [4, 11, 21, 24, 34, 37, 47, 50], [3, 10, 19, 28, 30, 39, 48, 50], [6, 13, 18, 23, 35, 40, 45, 50], [5, 12, 16, 27, 31, 42, 46, 50], [2, 9, 17, 25, 33, 41, 49, 50], [0, 29, 30, 31, 32, 33, 34, 35], [6, 14, 19, 24, 29, 41, 46, 51], [7, 11, 17, 23, 29, 42, 48, 54], [5, 10, 21, 25, 29, 40, 44, 55], [4, 13, 16, 26, 29, 39, 49, 52], [2, 12, 20, 28, 29, 37, 45, 53], [3, 9, 18, 27, 29, 38, 47, 56], [0, 22, 23, 24, 25, 26, 27, 28], [5, 14, 18, 22, 33, 37, 48, 52], [3, 11, 20, 22, 31, 40, 49, 51], [7, 10, 16, 22, 35, 41, 47, 53], [2, 13, 21, 22, 30, 38, 46, 54], [6, 12, 17, 22, 34, 39, 44, 56], [4, 9, 19, 22, 32, 42, 45, 55], [0, 43, 44, 45, 46, 47, 48, 49], [4, 14, 17, 27, 30, 40, 43, 53], [6, 11, 16, 28, 33, 38, 43, 55], [2, 10, 18, 26, 34, 42, 43, 51], [7, 13, 19, 25, 31, 37, 43, 56], [3, 12, 21, 23, 32, 41, 43, 52], [5, 9, 20, 24, 35, 39, 43, 54], [0, 36, 37, 38, 39, 40, 41, 42], [3, 14, 16, 25, 34, 36, 45, 54], [2, 11, 19, 27, 35, 36, 44, 52], [4, 10, 20, 23, 33, 36, 46, 56], [5, 13, 17, 28, 32, 36, 47, 51], [7, 12, 18, 24, 30, 36, 49, 55], [6, 9, 21, 26, 31, 36, 48, 53], [0, 15, 16, 17, 18, 19, 20, 21], [2, 14, 15, 23, 31, 39, 47, 55], [5, 11, 15, 26, 30, 41, 45, 56], [6, 10, 15, 27, 32, 37, 49, 54], [3, 13, 15, 24, 33, 42, 44, 53], [4, 12, 15, 25, 35, 38, 48, 51], [7, 9, 15, 28, 34, 40, 46, 52]]
def A2 : List (List Nat) := [[0, 2], [1, 3], [0, 3], [1, 2], [0, 1], [2, 3]]
def A3 : List (List Nat) := [[0, 3, 6], [1, 4, 7], [2, 5, 8], [0, 4, 8], [1, 5, 6], [2, 3, 7], [0, 5, 7], [1, 3, 8], [2, 4, 6], [0, 1, 2], [3, 4, 5], [6, 7, 8]]
def A4 : List (List Nat) := [[0, 4, 8, 12], [1, 5, 9, 13], [2, 6, 10, 14], [3, 7, 11, 15], [0, 5, 10, 15], [1, 4, 11, 14], [2, 7, 8, 13], [3, 6, 9, 12], [0, 6, 11, 13], [1, 7, 10, 12], [2, 4, 9, 15], [3, 5, 8, 14], [0, 7, 9, 14], [1, 6, 8, 15], [2, 5, 11, 12], [3, 4, 10, 13], [0, 1, 2, 3], [4, 5, 6, 7], [8, 9, 10, 11], [12, 13, 14, 15]]
def A5 : List (List Nat) := [[0, 5, 10, 15, 20], [1, 6, 11, 16, 21], [2, 7, 12, 17, 22], [3, 8, 13, 18, 23], [4, 9, 14, 19, 24], [0, 6, 12, 18, 24], [1, 7, 13, 19, 20], [2, 8, 14, 15, 21], [3, 9, 10, 16, 22], [4, 5, 11, 17, 23], [0, 7, 14, 16, 23], [1, 8, 10, 17, 24], [2, 9, 11, 18, 20], [3, 5, 12, 19, 21], [4, 6, 13, 15, 22], [0, 8, 11, 19, 22], [1, 9, 12, 15, 23], [2, 5, 13, 16, 24], [3, 6, 14, 17, 20], [4, 7, 10, 18, 21], [0, 9, 13, 17, 21], [1, 5, 14, 18, 22], [2, 6, 10, 19, 23], [3, 7, 11, 15, 24], [4, 8, 12, 16, 20], [0, 1, 2, 3, 4], [5, 6, 7, 8, 9], [10, 11, 12, 13, 14], [15, 16, 17, 18, 19], [20, 21, 22, 23, 24]]
def A7 : List (List Nat) := [[0, 7, 14, 21, 28, 35, 42], [1, 8, 15, 22, 29, 36, 43], [2, 9, 16, 23, 30, 37, 44], [3, 10, 17, 24, 31, 38, 45], [4, 11, 18, 25, 32, 39, 46], [5, 12, 19, 26, 33, 40, 47], [6, 13, 20, 27, 34, 41, 48], [0, 8, 16, 24, 32, 40, 48], [1, 9, 17, 25, 33, 41, 42], [2, 10, 18, 26, 34, 35, 43], [3, 11, 19, 27, 28, 36, 44], [4, 12, 20, 21, 29, 37, 45], [5, 13, 14, 22, 30, 38, 46], [6, 7, 15, 23, 31, 39, 47], [0, 9, 18, 27, 29, 38, 47], [1, 10, 19, 21, 30, 39, 48], [2, 11, 20, 22, 31, 40, 42], [3, 12, 14, 23, 32, 41, 43], [4, 13, 15, 24, 33, 35, 44], [5, 7, 16, 25, 34, 36, 45], [6, 8, 17, 26, 28, 37, 46], [0, 10, 20, 23, 33, 36, 46], [1, 11, 14, 24, 34, 37, 47], [2, 12, 15, 25, 28, 38, 48], [3, 13, 16, 26, 29, 39, 42], [4, 7, 17, 27, 30, 40, 43], [5, 8, 18, 21, 31, 41, 44], [6, 9, 19, 22, 32, 35, 45], [0, 11, 15, 26, 30, 41, 45], [1, 12, 16, 27, 31, 35, 46], [2, 13, 17, 21, 32, 36, 47], [3, 7, 18, 22, 33, 37, 48], [4, 8, 19, 23, 34, 38, 42], [5, 9, 20, 24, 28, 39, 43], [6, 10, 14, 25, 29, 40, 44], [0, 12, 17, 22, 34, 39, 44], [1, 13, 18, 23, 28, 40, 45], [2, 7, 19, 24, 29, 41, 46], [3, 8, 20, 25, 30, 35, 47], [4, 9, 14, 26, 31, 36, 48], [5, 10, 15, 27, 32, 37, 42], [6, 11, 16, 21, 33, 38, 43], [0, 13, 19, 25, 31, 37, 43], [1, 7, 20, 26, 32, 38, 44], [2, 8, 14, 27, 33, 39, 45], [3, 9, 15, 21, 34, 40, 46], [4, 10, 16, 22, 28, 41, 47], [5, 11, 17, 23, 29, 35, 48], [6, 12, 18, 24, 30, 36, 42], [0, 1, 2, 3, 4, 5, 6], [7, 8, 9, 10, 11, 12, 13], [14, 15, 16, 17, 18, 19, 20], [21, 22, 23, 24, 25, 26, 27], [28, 29, 30, 31, 32, 33, 34], [35, 36, 37, 38, 39, 40, 41], [42, 43, 44, 45, 46, 47, 48]]
def tb (q : Nat) : List (List Nat) := if q = 2 then P2 else if q = 3 then P3 else if q = 4 then P4 else if q = 5 then P5 else P7
def ta (q : Nat) : List (List Nat) := if q = 2 then A2 else if q = 3 then A3 else if q = 4 then A4 else if q = 5 then A5 else A7
theorem szs_mem {q : Nat} (h : q ∈ szs) : q = 2 ∨ q = 3 ∨ q = 4 ∨ q = 5 ∨ q = 7 := (show ∀ q ∈ szs, q = 2 ∨ q = 3 ∨ q = 4 ∨ q = 5 ∨ q = 7 by decide) q h
theorem szs_ok {q : Nat} (h : q ∈ szs) : q ∈ Sf.sizes ∧ 2 ≤ q ∧ q ≤ 7 ∧ cN q ≤ 57 ∧ q * q * q ≤ 343 ∧ cN q ≤ q * q * q :=
  (show ∀ q ∈ szs, q ∈ Sf.sizes ∧ 2 ≤ q ∧ q ≤ 7 ∧ cN q ≤ 57 ∧ q * q * q ≤ 343 ∧ cN q ≤ q * q * q by decide) q h
theorem fa_eq {q : Nat} (h : q ∈ szs) {a b : Nat} (ha : a < q) (hb : b < q) : Sf.addF q a b = fa q a b := (show ∀ q ∈ szs, ∀ a, a < q → ∀ b, b < q → Sf.addF q a b = fa q a b by decide +kernel) q h a ha b hb
theorem fm_eq {q : Nat} (h : q ∈ szs) {a b : Nat} (ha : a < q) (hb : b < q) : Sf.mulF q a b = fm q a b := (show ∀ q ∈ szs, ∀ a, a < q → ∀ b, b < q → Sf.mulF q a b = fm q a b by decide +kernel) q h a ha b hb
theorem fn_eq {q : Nat} (h : q ∈ szs) {a : Nat} (ha : a < q) : Sf.negF q a = fn q a := (show ∀ q ∈ szs, ∀ a, a < q → Sf.negF q a = fn q a by decide +kernel) q h a ha
theorem fi_eq {q : Nat} (h : q ∈ szs) {a : Nat} (ha : a < q) (h0 : a ≠ 0) : Sf.invF q a = fi q a := (show ∀ q ∈ szs, ∀ a, a < q → a ≠ 0 → Sf.invF q a = fi q a by decide +kernel) q h a ha h0
theorem fld_eq (c : C3) : ld c = fld c := by
  obtain ⟨a, b, d⟩ := c
  unfold ld fld
  cases a <;> cases b <;> simp [Nat.beq]
theorem all_pt {q : Nat} (h : q ∈ szs) : all q = (List.range (cN q)).map (pt q) := (show ∀ q ∈ szs, all q = (List.range (cN q)).map (pt q) by decide +kernel) q h
/-- Coordinates are elements. -/
def El (q : Nat) (c : C3) : Prop := c.1 < q ∧ c.2.1 < q ∧ c.2.2 < q
instance (q : Nat) (c : C3) : Decidable (El q c) := inferInstanceAs (Decidable (_ ∧ _ ∧ _))
theorem pt_el {q n : Nat} (h : q ∈ szs) (hn : n < cN q) : El q (pt q n) ∧ ld (pt q n) = 1 ∧ idx q (pt q n) = n := (show ∀ q ∈ szs, ∀ n, n < cN q → El q (pt q n) ∧ ld (pt q n) = 1 ∧ idx q (pt q n) = n by decide +kernel) q h n hn
theorem pt_inj {q a b : Nat} (h : q ∈ szs) (ha : a < cN q) (hb : b < cN q) (e : pt q a = pt q b) : a = b := by rw [← (pt_el h ha).2.2, e, (pt_el h hb).2.2]
theorem co_el {q n : Nat} (h : q ∈ szs) (hn : n < q * q * q) : El q (co q n) := (show ∀ q ∈ szs, ∀ n, n < q * q * q → El q (co q n) by decide +kernel) q h n hn
theorem dot_eq {q : Nat} (h : q ∈ szs) {l p : C3} (hl : El q l) (hp : El q p) : dot q l p = fdot q l p ∧ dot q l p < q := by
  have hs := (szs_ok h).1
  have h0 : (0 : Nat) < q := by have := (szs_ok h).2.1; omega
  obtain ⟨l0, l1, l2⟩ := hl
  obtain ⟨p0, p1, p2⟩ := hp
  have m0 := Sf.mul_lt hs l0 p0
  have m1 := Sf.mul_lt hs l1 p1
  have m2 := Sf.mul_lt hs l2 p2
  have z : Sf.addF q 0 (Sf.mulF q l.1 p.1) = Sf.mulF q l.1 p.1 := by rw [Sf.add_comm hs h0 m0]; exact (Sf.units hs m0).1
  have s1 := Sf.add_lt hs m0 m1
  unfold dot fdot
  rw [z]
  refine ⟨?_, Sf.add_lt hs s1 m2⟩
  rw [fa_eq h s1 m2, fa_eq h m0 m1, fm_eq h l0 p0, fm_eq h l1 p1, fm_eq h l2 p2]
theorem minor_eq {q a b c d : Nat} (h : q ∈ szs) (ha : a < q) (hb : b < q) (hc : c < q) (hd : d < q) : minor q a b c d = fminor q a b c d ∧ minor q a b c d < q := by
  have hs := (szs_ok h).1
  have m0 := Sf.mul_lt hs ha hd
  have m1 := Sf.mul_lt hs hb hc
  have n1 := (Sf.neg_ok hs m1).1
  unfold minor fminor
  refine ⟨?_, Sf.add_lt hs m0 n1⟩
  rw [fa_eq h m0 n1, fn_eq h m1, fm_eq h ha hd, fm_eq h hb hc]
theorem cross_eq {q : Nat} (h : q ∈ szs) {a b : C3} (ha : El q a) (hb : El q b) : cross q a b = fcross q a b ∧ El q (cross q a b) := by
  obtain ⟨a0, a1, a2⟩ := ha
  obtain ⟨b0, b1, b2⟩ := hb
  have x0 := minor_eq h a1 a2 b1 b2
  have x1 := minor_eq h a2 a0 b2 b0
  have x2 := minor_eq h a0 a1 b0 b1
  exact ⟨by unfold cross fcross; rw [x0.1, x1.1, x2.1], x0.2, x1.2, x2.2⟩
theorem line_tb {q : Nat} (h : q ∈ szs) : (List.range (cN q)).map (line q) = tb q := by
  have e : (List.range (cN q)).map (fun n => (List.range (cN q)).filter fun p => fdot q (pt q n) (pt q p) == 0) = tb q := (show ∀ q ∈ szs, (List.range (cN q)).map (fun n => (List.range (cN q)).filter fun p => fdot q (pt q n) (pt q p) == 0) = tb q by decide +kernel) q h
  rw [← e]
  refine List.map_congr_left fun n hn => ?_
  unfold line lineTo
  refine List.filter_congr fun p hp => ?_
  rw [(dot_eq h (pt_el h (by simpa using hn)).1 (pt_el h (by simpa using hp)).1).1]
theorem aff_tb {q : Nat} (h : q ∈ szs) : (List.range (q * q + q)).map (aff q) = ta q ∧ (List.range (q * q + q)).map (fun n => affTo q n (q * q)) = ta q := (show ∀ q ∈ szs, (List.range (q * q + q)).map (aff q) = ta q ∧ (List.range (q * q + q)).map (fun n => affTo q n (q * q)) = ta q by decide +kernel) q h
theorem line_at {q n : Nat} (h : q ∈ szs) (hn : n < cN q) : line q n = (tb q).getD n [] := by
  rw [← line_tb h]; simp [List.getD, hn]
theorem aff_at {q n : Nat} (h : q ∈ szs) (hn : n < q * q + q) : aff q n = (ta q).getD n [] := by
  rw [← (aff_tb h).1]; simp [List.getD, hn]
/-- What two different lines have in common: coordinates of which not all are 0. -/
def fnrm (q : Nat) (c : C3) (i : Nat) : C3 := (fm q c.1 i, fm q c.2.1 i, fm q c.2.2 i)
def eq3 (a b : C3) : Bool := Nat.beq a.1 b.1 && (Nat.beq a.2.1 b.2.1 && Nat.beq a.2.2 b.2.2)
def onOk (q : Nat) (a b c p : C3) (n : Nat) : Bool := eq3 p (pt q n) && (Nat.ble (n + 1) (cN q) && (Nat.ble 1 (fld c) && (Nat.beq (fdot q a p) 0 && Nat.beq (fdot q b p) 0)))
def meetOk (q : Nat) (a b : C3) : Bool := onOk q a b (fcross q a b) (fnrm q (fcross q a b) (fi q (fld (fcross q a b)))) (idx q (fnrm q (fcross q a b) (fi q (fld (fcross q a b)))))
theorem meet_dec : ∀ q ∈ szs, ∀ a, a < cN q → ∀ b, b < cN q → (Nat.beq a b || meetOk q (pt q a) (pt q b)) = true := by decide +kernel
theorem cross_ok {q a b : Nat} (h : q ∈ szs) (ha : a < cN q) (hb : b < cN q) (hne : a ≠ b) : ld (cross q (pt q a) (pt q b)) ≠ 0 ∧ meet q a b < cN q ∧ nrm q (cross q (pt q a) (pt q b)) = pt q (meet q a b) ∧ meet q a b ∈ line q a ∧ meet q a b ∈ line q b := by
  have ea := (pt_el h ha).1
  have eb := (pt_el h hb).1
  obtain ⟨C, e0, e1, e2⟩ := cross_eq h ea eb
  have K := meet_dec q h a ha b hb
  have K0 : Nat.beq a b = false := by
    cases hh : Nat.beq a b
    · rfl
    · exact absurd (Nat.eq_of_beq_eq_true hh) hne
  rw [K0, Bool.false_or] at K
  unfold meetOk onOk eq3 at K
  simp only [Bool.and_eq_true] at K
  obtain ⟨⟨k0, k1, k2⟩, k3, k4, k5, k6⟩ := K
  have k4 := Nat.le_of_ble_eq_true k4
  have kl : ld (cross q (pt q a) (pt q b)) ≠ 0 := by rw [fld_eq, C]; omega
  have ldlt : ld (cross q (pt q a) (pt q b)) < q := by unfold ld; split; exact e0; split; exact e1; exact e2
  have I := fi_eq h ldlt kl
  have il := (Sf.inv_ok (szs_ok h).1 ldlt kl).1
  have N : nrm q (cross q (pt q a) (pt q b)) = fnrm q (fcross q (pt q a) (pt q b)) (fi q (fld (fcross q (pt q a) (pt q b)))) := by
    unfold nrm fnrm
    rw [fm_eq h e0 il, fm_eq h e1 il, fm_eq h e2 il, I, fld_eq, C]
  have M : meet q a b = idx q (fnrm q (fcross q (pt q a) (pt q b)) (fi q (fld (fcross q (pt q a) (pt q b))))) := by unfold meet; rw [N]
  rw [← N, ← show meet q a b = idx q (nrm q (cross q (pt q a) (pt q b))) from rfl] at k0 k1 k2
  rw [← N] at k5 k6
  rw [← M] at k3
  have k3 := Nat.le_of_ble_eq_true k3
  have E : nrm q (cross q (pt q a) (pt q b)) = pt q (meet q a b) := Prod.ext (Nat.eq_of_beq_eq_true k0) (Prod.ext (Nat.eq_of_beq_eq_true k1) (Nat.eq_of_beq_eq_true k2))
  have em := (pt_el h (show meet q a b < cN q by omega)).1
  rw [E] at k5 k6
  refine ⟨kl, by omega, E, ?_, ?_⟩
  · unfold line lineTo
    rw [List.mem_filter, List.mem_range]
    exact ⟨by omega, by rw [(dot_eq h ea em).1, Nat.eq_of_beq_eq_true k5]; rfl⟩
  · unfold line lineTo
    rw [List.mem_filter, List.mem_range]
    exact ⟨by omega, by rw [(dot_eq h eb em).1, Nat.eq_of_beq_eq_true k6]; rfl⟩

/-! Numbers in a list; how many numbers below k there are of a kind. -/
def has (l : List Nat) (n : Nat) : Bool := l.any fun x => x == n
def common (a b : List Nat) : List Nat := a.filter fun x => has b x
def cnt (p : Nat → Bool) : Nat → Nat
  | 0 => 0
  | k + 1 => cnt p k + (bif p k then 1 else 0)
theorem has_iff {l : List Nat} {n : Nat} : has l n = true ↔ n ∈ l := by simp [has]
theorem cnt_congr {p p' : Nat → Bool} : ∀ {k : Nat}, (∀ j, j < k → p j = p' j) → cnt p k = cnt p' k
  | 0, _ => rfl
  | k + 1, h => by rw [cnt, cnt, cnt_congr (fun j hj => h j (by omega)), h k (by omega)]
theorem cnt_len (p : Nat → Bool) : ∀ k, ((List.range k).filter p).length = cnt p k
  | 0 => rfl
  | k + 1 => by
    rw [List.range_succ, List.filter_append, List.length_append, cnt_len p k, cnt]
    cases h : p k <;> simp [h]
theorem cnt_le (p : Nat → Bool) : ∀ k, cnt p k ≤ k
  | 0 => Nat.le_refl 0
  | k + 1 => by rw [cnt]; have := cnt_le p k; cases p k <;> simp <;> omega
end Pl
end Go.Proofs.YtnnacofjogfkeaaDoor
