/- Planes: sums over the tables, decided (40 s). -/
import Derived.Test.YtnnacofjogfkeaaDoorUm
namespace Go.Proofs.YtnnacofjogfkeaaDoor
namespace Pl
set_option maxRecDepth 100000
theorem sum_tb : ∀ q ∈ szs, ∀ a, a < cN q → ((tb q).getD a []).length = q + 1 ∧ cnt (fun h => has ((tb q).getD h []) a) (cN q) = q + 1 ∧ ∀ b, b < cN q → has ((tb q).getD a []) b = has ((tb q).getD b []) a := by decide +kernel
theorem one_tb : ∀ q ∈ szs, ∀ a, a < cN q → ∀ b, b < cN q → (Nat.beq a b || Nat.beq (common ((tb q).getD a []) ((tb q).getD b [])).length 1) = true := by decide +kernel
theorem aff_tb1 : ∀ q ∈ szs, ∀ g, g < q * q + q → ((ta q).getD g []).length = q ∧ ∀ h, h < q * q + q → ((common ((ta q).getD h []) ((ta q).getD g [])).length == 0) = (Nat.beq (h / q) (g / q) && !Nat.beq h g) := by decide +kernel
theorem aff_tb2 : ∀ q ∈ szs, ∀ a, a < q * q → ∀ b, b < q * q → cnt (fun h => has ((ta q).getD h []) a && has ((ta q).getD h []) b) (q * q + q) = bif Nat.beq a b then q + 1 else 1 := by decide +kernel
theorem aff_tb3 : ∀ q ∈ szs, ∀ a, a < q * q → ∀ g, g < q * q + q → cnt (fun h => Nat.beq (h / q) (g / q) && !Nat.beq h g && has ((ta q).getD h []) a) (q * q + q) = bif has ((ta q).getD g []) a then 0 else 1 := by decide +kernel
/-- A projective plane: every line has q + 1 points, every point lies on as many lines, two lines have one point in common. -/
theorem line_len {q n : Nat} (h : q ∈ szs) (hn : n < cN q) : (line q n).length = q + 1 := by rw [line_at h hn]; exact (sum_tb q h n hn).1
theorem line_cnt {q a : Nat} (h : q ∈ szs) (ha : a < cN q) : cnt (fun g => has (line q g) a) (cN q) = q + 1 := by
  rw [← (sum_tb q h a ha).2.1]; exact cnt_congr fun j hj => by rw [line_at h hj]
theorem line_sym {q a b : Nat} (h : q ∈ szs) (ha : a < cN q) (hb : b < cN q) : has (line q a) b = has (line q b) a := by rw [line_at h ha, line_at h hb]; exact (sum_tb q h a ha).2.2 b hb
theorem line_lt {q n x : Nat} (hx : x ∈ line q n) : x < cN q := by
  unfold line lineTo at hx
  exact List.mem_range.1 (List.mem_filter.1 hx).1
theorem line_one {q a b : Nat} (h : q ∈ szs) (ha : a < cN q) (hb : b < cN q) (hne : a ≠ b) : common (line q a) (line q b) = [meet q a b] := by
  have := one_tb q h a ha b hb
  have K0 : Nat.beq a b = false := by
    cases hh : Nat.beq a b
    · rfl
    · exact absurd (Nat.eq_of_beq_eq_true hh) hne
  rw [K0, Bool.false_or, ← line_at h ha, ← line_at h hb] at this
  obtain ⟨x, hx⟩ := List.length_eq_one_iff.1 (Nat.eq_of_beq_eq_true this)
  obtain ⟨-, -, -, m0, m1⟩ := cross_ok h ha hb hne
  have : meet q a b ∈ common (line q a) (line q b) := by unfold common; rw [List.mem_filter]; exact ⟨m0, has_iff.2 m1⟩
  rw [hx, List.mem_singleton] at this
  rw [hx, this]
theorem meet_comm {q a b : Nat} (h : q ∈ szs) (ha : a < cN q) (hb : b < cN q) (hne : a ≠ b) : meet q a b = meet q b a := by
  obtain ⟨-, -, -, m0, m1⟩ := cross_ok h ha hb hne
  have : meet q a b ∈ common (line q b) (line q a) := by unfold common; rw [List.mem_filter]; exact ⟨m1, has_iff.2 m0⟩
  rwa [line_one h hb ha hne.symm, List.mem_singleton] at this
/-- Two points lie on one line alone. -/
theorem join_one {q a b : Nat} (h : q ∈ szs) (ha : a < cN q) (hb : b < cN q) (hne : a ≠ b) : ((List.range (cN q)).filter fun g => has (line q g) a && has (line q g) b) = [meet q a b] := by
  obtain ⟨-, ml, -, m0, m1⟩ := cross_ok h ha hb hne
  have e : ((List.range (cN q)).filter fun g => has (line q g) a && has (line q g) b) = (List.range (cN q)).filter fun g => g == meet q a b := by
    refine List.filter_congr fun g hg => ?_
    have hg : g < cN q := by simpa using hg
    rw [← line_sym h ha hg, ← line_sym h hb hg, Bool.eq_iff_iff, Bool.and_eq_true, has_iff, has_iff, beq_iff_eq]
    constructor
    · rintro ⟨h1, h2⟩
      have : g ∈ common (line q a) (line q b) := by unfold common; rw [List.mem_filter]; exact ⟨h1, has_iff.2 h2⟩
      rwa [line_one h ha hb hne, List.mem_singleton] at this
    · rintro rfl; exact ⟨m0, m1⟩
  rw [e]
  exact (show ∀ n m, m < n → ((List.range n).filter fun g => g == m) = [m] by
    intro n
    induction n with
    | zero => intro m hm; omega
    | succ n ih =>
      intro m hm
      rw [List.range_succ, List.filter_append]
      by_cases e : m = n
      · subst e
        rw [List.filter_eq_nil_iff.2 (fun x hx => by have : x < m := by simpa using hx
                                                     simp; omega)]
        simp
      · rw [ih m (by omega)]
        have : (n == m) = false := by simp; omega
        simp [this]) _ _ ml
theorem join_all {q a : Nat} (h : q ∈ szs) (ha : a < cN q) : ((List.range (cN q)).filter fun g => has (line q g) a && has (line q g) a).length = q + 1 := by
  rw [cnt_len, ← line_cnt h ha]; exact cnt_congr fun j _ => Bool.and_self _
/-- An affine plane. -/
theorem aff_len {q n : Nat} : (aff q n).length = q := by simp [aff]
theorem aff_join {q a b : Nat} (h : q ∈ szs) (ha : a < q * q) (hb : b < q * q) : cnt (fun g => has (aff q g) a && has (aff q g) b) (q * q + q) = if a = b then q + 1 else 1 := by
  have := aff_tb2 q h a ha b hb
  rw [cnt_congr (p' := fun h => has ((ta q).getD h []) a && has ((ta q).getD h []) b) (fun j hj => by rw [aff_at h hj]), this]
  by_cases e : a = b
  · subst e; rw [if_pos rfl, Nat.beq_refl]; rfl
  · rw [if_neg e]
    cases hh : Nat.beq a b
    · rfl
    · exact absurd (Nat.eq_of_beq_eq_true hh) e
theorem aff_par {q a g : Nat} (h : q ∈ szs) (ha : a < q * q) (hg : g < q * q + q) : cnt (fun k => has (aff q k) a && (common (aff q k) (aff q g)).length == 0) (q * q + q) = bif has (aff q g) a then 0 else 1 := by
  have := aff_tb3 q h a ha g hg
  rw [aff_at h hg, ← this]
  refine cnt_congr fun k hk => ?_
  have e := (aff_tb1 q h g hg).2 k hk
  rw [aff_at h hk, e]
  cases has ((ta q).getD k []) a <;> cases (Nat.beq (k / q) (g / q) && !Nat.beq k g) <;> rfl
end Pl
end Go.Proofs.YtnnacofjogfkeaaDoor
