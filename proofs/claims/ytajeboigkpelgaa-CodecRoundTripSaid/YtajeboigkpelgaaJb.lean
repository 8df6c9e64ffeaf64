/- Layer 9: what is read of values that were appended. -/
import Derived.Test.YtajeboigkpelgaaJa
namespace Go.Proofs.Ytajeboigkpelgaa
open Go Go.RowKit
set_option linter.unusedVariables false
namespace Cod
/-- A value's encoding, and what follows it. -/
def encE (e : VL) (R : List Nat) : List Nat := enc e.n ++ (enc (zig e.x) ++ (enc e.l.length ++ (e.l ++ (e.k ++ R))))
/-- The encodings of the first values. -/
def cat (V : Nat → VL) : Nat → List Nat
  | 0 => []
  | k + 1 => (((cat V k ++ enc (V k).n) ++ enc (zig (V k).x)) ++ enc (V k).l.length ++ (V k).l) ++ (V k).k
/-- The encodings of m values from k on. -/
def sfx (V : Nat → VL) : Nat → Nat → List Nat
  | _, 0 => []
  | k, m + 1 => encE (V k) (sfx V (k + 1) m)
theorem cat_sfx (V : Nat → VL) : ∀ (m k : Nat), cat V k ++ sfx V k m = cat V (k + m)
  | 0, k => by simp [sfx]
  | m + 1, k => by
    have ih := cat_sfx V m (k + 1)
    rw [show k + (m + 1) = k + 1 + m by omega, ← ih]
    simp [sfx, encE, cat, List.append_assoc]
theorem cat_all (V : Nat → VL) (n : Nat) : cat V n = sfx V 0 n := by
  have := cat_sfx V n 0
  rw [Nat.zero_add] at this
  rw [← this]; rfl
theorem cat_len {V : Nat → VL} {n : Nat} (h : ∀ i, i < n → (V i).ok ∧ (V i).l.length ≤ 100) : (cat V n).length ≤ 138 * n := by
  induction n with
  | zero => exact Nat.le_refl _
  | succ n ih =>
    have h1 := ih fun i hi => h i (by omega)
    obtain ⟨⟨h2, h3, h4⟩, h5⟩ := h n (by omega)
    have a1 := enc_len10 h2
    have a2 := enc_len10 (zig_lt h3.1 h3.2)
    have a3 := enc_len10 (n := (V n).l.length) (by omega)
    simp only [cat, List.length_append]
    have := h4.1
    omega
theorem rU_E (e : VL) (R : List Nat) (h : e.ok) : rU (encE e R) false = (e.n, 0, enc (zig e.x) ++ (enc e.l.length ++ (e.l ++ (e.k ++ R))), false) := rU_some (dec_enc0 h.1 _)
theorem rI_E (e : VL) (R : List Nat) (h : e.ok) : rI (enc (zig e.x) ++ R) false = (e.x, 0, R, false) := by
  rw [rI_some (dec_enc0 (zig_lt h.2.1.1 h.2.1.2) _), zag_zig]
theorem rB_E (e : VL) (R : List Nat) (h : e.l.length < 2 ^ 64) : rB (enc e.l.length ++ (e.l ++ R)) false = (e.l, 0, R, false) := by
  rw [rB_in (dec_enc0 h _) (by rw [List.length_append]; omega), List.take_left, List.drop_left]
theorem rK_E (e : VL) (R : List Nat) (h : e.ok) : rK (e.k ++ R) false = (e.k, 0, R, false) := by
  have h8 := h.2.2.1
  rw [rK_in (by rw [List.length_append]; omega), ← h8, List.take_left, List.drop_left]
end Cod
end Go.Proofs.Ytajeboigkpelgaa
