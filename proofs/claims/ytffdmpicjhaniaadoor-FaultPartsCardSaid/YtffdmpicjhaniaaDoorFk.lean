/- Layer 13: contract of the reference: Parse. -/
import Derived.Test.YtffdmpicjhaniaaDoorFj
namespace Go.Proofs.YtffdmpicjhaniaaDoor
open Go Go.RowKit Flt
set_option linter.unusedVariables false
set_option linter.unusedSimpArgs false
theorem wrap_in (x : Int) : -9223372036854775808 ≤ wrap64 x ∧ wrap64 x < 9223372036854775808 := by unfold wrap64; omega
theorem rdN_in : ∀ (s : List Nat) (n : Int), -9223372036854775808 ≤ n ∧ n < 9223372036854775808 → -9223372036854775808 ≤ (rdN n s).1 ∧ (rdN n s).1 < 9223372036854775808
  | [], _, h => h
  | c :: s, n, h => by
    rw [rdN]
    split
    · exact rdN_in s _ (wrap_in _)
    · exact h
theorem rdK_fit {k : Int} (h1 : 1 ≤ k) (h2 : k ≤ 7) (s : List Nat) : fits [(rdK k s).1] := by
  intro f hf
  obtain rfl : f = (rdK k s).1 := List.mem_singleton.1 hf
  have a := rdN_in s 0 (by omega)
  have hk : -9223372036854775808 ≤ k ∧ k < 9223372036854775808 := by omega
  have h0 : -9223372036854775808 ≤ (0 : Int) ∧ (0 : Int) < 9223372036854775808 := by omega
  unfold rdK
  cases h : after tos (rdN 0 s).2 with
  | none => rw [rdT_none h]; exact ⟨a, hk, h0⟩
  | some s' => rw [rdT_some h]; exact ⟨a, hk, rdN_in s' 0 h0⟩
theorem rdF_fit (s : List Nat) : ∀ (n : Nat) (k : Int) p, 1 ≤ k → k + n ≤ 8 → rdF s n k = some p → fits [p.1]
  | 0, _, _, _, _, h => by cases h
  | n + 1, k, p, h1, h2, h => by
    rw [rdF] at h
    cases h3 : after (word k ++ [32]) s with
    | none => rw [h3] at h; exact rdF_fit s n (k + 1) p (by omega) (by push_cast at h2; omega) h
    | some r => rw [h3] at h; injection h with h; subst h; exact rdK_fit h1 (by push_cast at h2; omega) r
theorem rd1_fit {s : List Nat} {p : F × List Nat} (h : rd1 s = some p) : fits [p.1] := rdF_fit s 7 1 p (by omega) (by omega) h
theorem after_by {w s r : List Nat} (hs : By s) (h : after w s = some r) : By r := by
  unfold after at h
  split at h
  · injection h with h; subst h; exact hs.drop _
  · cases h
theorem rdT_by (p k : Int) {s : List Nat} (h : By s) : By (rdT p k s).2 := by
  cases h1 : after tos s with
  | none => rw [rdT_none h1]; exact h
  | some s' => rw [rdT_some h1]; exact rdN_by _ _ (after_by h h1)
theorem rdF_by {s : List Nat} (hs : By s) : ∀ (n : Nat) (k : Int) p, rdF s n k = some p → By p.2
  | 0, _, _, h => by cases h
  | n + 1, k, p, h => by
    rw [rdF] at h
    cases h3 : after (word k ++ [32]) s with
    | none => rw [h3] at h; exact rdF_by hs n (k + 1) p h
    | some r => rw [h3] at h; injection h with h; subst h; exact rdT_by _ _ (rdN_by _ _ (after_by hs h3))
theorem rd1_by {s : List Nat} (hs : By s) {p : F × List Nat} (h : rd1 s = some p) : By p.2 := rdF_by hs 7 1 p h
/-- Fuel does not matter where there is enough. -/
theorem rdL_fuel : ∀ (n m : Nat) (s : List Nat), s.length ≤ n → s.length ≤ m → rdL n s = rdL m s
  | 0, 0, _, _, _ => rfl
  | 0, m + 1, s, h, _ => by
    obtain rfl : s = [] := List.length_eq_zero_iff.1 (by omega)
    simp [rdL]
  | n + 1, 0, s, _, h => by
    obtain rfl : s = [] := List.length_eq_zero_iff.1 (by omega)
    simp [rdL]
  | n + 1, m + 1, s, h1, h2 => by
    rw [rdL, rdL]
    by_cases h : s = []
    · rw [if_pos h, if_pos h]
    · rw [if_neg h, if_neg h]
      cases h3 : rd1 s with
      | none => rfl
      | some p =>
        have l1 := rd1_len h3
        cases h4 : after sep p.2 with
        | none => simp only [h4]
        | some r =>
          have l2 := after_len h4
          simp only [h4]
          rw [rdL_fuel n m r (by omega) (by omega)]
/-- The faults of a text, read loosely. -/
def rda (s : List Nat) : Option (List F) := rdL s.length s
theorem rda_nil : rda [] = some [] := rfl
theorem rda_none {s : List Nat} (h0 : s ≠ []) (h : rd1 s = none) : rda s = none := by
  unfold rda
  cases s with
  | nil => exact absurd rfl h0
  | cons c s => rw [List.length_cons, rdL, if_neg h0, h]
theorem rda_sep {s r : List Nat} {p : F × List Nat} (h0 : s ≠ []) (h : rd1 s = some p) (h2 : after sep p.2 = some r) : rda s = (rda r).map (p.1 :: ·) := by
  have l1 := rd1_len h
  have l2 := after_len h2
  unfold rda
  cases s with
  | nil => exact absurd rfl h0
  | cons c s =>
    rw [List.length_cons, rdL, if_neg h0, h]
    simp only [h2]
    rw [rdL_fuel s.length r.length r (by rw [List.length_cons] at l1; omega) (Nat.le_refl _)]
theorem rda_end {s : List Nat} {p : F × List Nat} (h0 : s ≠ []) (h : rd1 s = some p) (h2 : after sep p.2 = none) : rda s = if p.2 = [] then some [p.1] else none := by
  unfold rda
  cases s with
  | nil => exact absurd rfl h0
  | cons c s => rw [List.length_cons, rdL, if_neg h0, h]; simp only [h2]
theorem parse_rda (s : List Nat) : parse s = match rda s with
  | some L => if vld L = true ∧ text L = s then some L else none
  | none => none := rfl
/-- What Parse returns. -/
def paPost (l : List Nat) (w : World) (e : Ending) (w' : World) : Prop := ∃ v L E, e = .returned (.tuple #[v, .int .i64 E]) ∧ Fts w' v L ∧ ((parse l = some L ∧ E = 0) ∨ (parse l = none ∧ L = [] ∧ E = 4)) ∧ Below w.heap.size w w'
theorem app_fit {L : List F} {f : F} (h : fits L) (h2 : fits [f]) : fits (L ++ [f]) := fun g hg => (List.mem_append.1 hg).elim (h g) (h2 g)
theorem after_none {w s : List Nat} (h : w.isPrefixOf s = false) : after w s = none := by unfold after; rw [if_neg (by rw [h]; decide)]
theorem after_some {w s : List Nat} (h : w.isPrefixOf s = true) : after w s = some (s.drop w.length) := by unfold after; rw [if_pos h]
theorem pa_none {l : List Nat} {w w' : World} (h : rda l = none) (hb : Below w.heap.size w w') : paPost l w (.returned (.tuple #[.slice none 0 0, .int .i64 4])) w' :=
  ⟨_, [], 4, rfl, Fts.nil_ _, Or.inr ⟨by rw [parse_rda, h], rfl, rfl⟩, hb⟩
end Go.Proofs.YtffdmpicjhaniaaDoor
