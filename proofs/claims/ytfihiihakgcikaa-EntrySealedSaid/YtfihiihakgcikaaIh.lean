/- The reference's Int, Count. -/
import Derived.Test.YtfihiihakgcikaaIg
namespace Go.Proofs.Ytfihiihakgcikaa
open Go Go.RowKit
set_option linter.unusedVariables false
set_option linter.unusedSimpArgs false
def iPost (l : List Nat) (bad : Bool) (R : World → List Nat → Bool → Prop) (o : Nat → Prop) (w : World) (e : Ending) (w' : World) : Prop :=
  e = .returned (.tuple #[.int .i64 (Cod.rI l bad).1, .int .i64 ((Cod.rI l bad).2.1 : Int)]) ∧ R w' (Cod.rI l bad).2.2.1 (Cod.rI l bad).2.2.2 ∧ Chg o w w'
def cPost (most : Int) (l : List Nat) (bad : Bool) (R : World → List Nat → Bool → Prop) (o : Nat → Prop) (w : World) (e : Ending) (w' : World) : Prop :=
  e = .returned (.tuple #[.int .i64 ((Cod.rC most l bad).1 : Int), .int .i64 ((Cod.rC most l bad).2.1 : Int)]) ∧ R w' (Cod.rC most l bad).2.2.1 (Cod.rC most l bad).2.2.2 ∧ Chg o w w'
namespace Cod
theorem rI_none {l : List Nat} {bad : Bool} (h : dec 0 l = none) : rI l bad = (0, 5, [], true) := by unfold rI; rw [h]
theorem rI_some {l r : List Nat} {bad : Bool} {n : Nat} (h : dec 0 l = some (n, r)) : rI l bad = (zag n, 0, r, bad) := by unfold rI; rw [h]
theorem rC_none {most : Int} {l : List Nat} {bad : Bool} (h : dec 0 l = none) : rC most l bad = (0, 5, [], true) := by unfold rC; rw [h]
theorem rC_in {most : Int} {l r : List Nat} {bad : Bool} {n : Nat} (h : dec 0 l = some (n, r)) (hn : ¬ most < n) : rC most l bad = (n, 0, r, bad) := by unfold rC; rw [h]; exact if_neg hn
theorem rC_out {most : Int} {l r : List Nat} {bad : Bool} {n : Nat} (h : dec 0 l = some (n, r)) (hn : most < n) : rC most l bad = (0, 5, [], true) := by unfold rC; rw [h]; exact if_pos hn
/-- Either nothing can be read, or a number is. -/
theorem dec_cases (l : List Nat) (hb : ∀ x ∈ l, x < 256) : dec 0 l = none ∨ ∃ n r, dec 0 l = some (n, r) ∧ n < 2 ^ 64 ∧ r.length < l.length := by
  cases h : dec 0 l with
  | none => exact Or.inl rfl
  | some p =>
    obtain ⟨n, r⟩ := p
    have h1 := dec_spec0 hb h
    refine Or.inr ⟨n, r, rfl, h1.2, ?_⟩
    have := enc_len_pos n
    have h2 := congrArg List.length h1.1
    rw [List.length_append] at h2
    omega
end Cod
theorem ret_2 {a b c d : Value} (h1 : a = c) (h2 : b = d) : Ending.returned (.tuple #[a, b]) = .returned (.tuple #[c, d]) := by rw [h1, h2]
end Go.Proofs.Ytfihiihakgcikaa
