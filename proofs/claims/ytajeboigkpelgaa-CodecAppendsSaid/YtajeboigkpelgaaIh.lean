/- The reference's Int, Count. -/
import Derived.Test.YtajeboigkpelgaaIg
namespace Go.Proofs.Ytajeboigkpelgaa
open Go Go.RowKit
set_option linter.unusedVariables false
set_option linter.unusedSimpArgs false
def iPost (l : List Nat) (bad : Bool) (R : World → List Nat → Bool → Prop) (o : Nat → Prop) (w : World) (e : Ending) (w' : World) : Prop :=
  e = .returned (.tuple #[.int .i64 (Cod.rI l bad).1, .int .i64 ((Cod.rI l bad).2.1 : Int)]) ∧ R w' (Cod.rI l bad).2.2.1 (Cod.rI l bad).2.2.2 ∧ Chg o w w'
def cPost (most : Int) (l : List Nat) (bad : Bool) (R : World → List Nat → Bool → Prop) (o : Nat → Prop) (w : World) (e : Ending) (w' : World) : Prop :=
  e = .returned (.tuple #[.int .i64 ((Cod.rC most l bad).1 : Int), .int .i64 ((Cod.rC most l bad).2.1 : Int)]) ∧ R w' (Cod.rC most l bad).2.2.1 (Cod.rC most l bad).2.2.2 ∧ Chg o w w'
namespace Cod
theorem rI_none {l : List Nat} {bad : Bool} (h : dec 0 l = none) : rI l bad = (0, 5, [], true) := by unfold rI; rw [h]
theorem rI_some {l r : List Nat} {bad : Bool} {n : Nat} (h : dec 0 l = some (n, r)) : rI l bad = (zag n, 0, r, bad) := by unfold rI; rw [h]
theorem rC_none {most : Int} {l : List Nat} {bad : Bool} (h : dec 0 l = none) : rC most l bad = (0, 5, [], true) := by unfold rC; rw [h]
theorem rC_in {most : Int} {l r : List Nat} {bad : Bool} {n : Nat} (h : dec 0 l = some (n, r)) (hn : ¬ most < n) : rC most l bad = (n, 0, r, bad) := by unfold rC; rw [h]; exact if_neg hn
theorem rC_out {most : Int} {l r : List Nat} {bad : Bool} {n : Nat} (h : dec 0 l = some (n, r)) (hn : most < n) : rC most l bad = (0, 5, [], true) := by unfold rC; rw [h]; exact if_pos hn
/-- Either nothing can be read, or a number is. -/
theorem dec_cases (l : List Nat) (hb : ∀ x ∈ l, x < 256) : dec 0 l = none ∨ ∃ n r, dec 0 l = some (n, r) ∧ n < 2 ^ 64 ∧ r.length < l.length := by
  cases h : dec 0 l with
  | none => exact Or.inl rfl
  | some p =>
    obtain ⟨n, r⟩ := p
    have h1 := dec_spec0 hb h
    refine Or.inr ⟨n, r, rfl, h1.2, ?_⟩
    have := enc_len_pos n
    have h2 := congrArg List.length h1.1
    rw [List.length_append] at h2
    omega
end Cod
theorem RdR.byt {w : World} {S : Nat} {l : List Nat} {bad : Bool} {o : Nat → Prop} (h : RdR w S l bad o) : ∀ x ∈ l, x < 256 := by
  obtain ⟨_, _, sv, _, h4, _⟩ := h; exact h4.lt
theorem ret_2 {a b c d : Value} (h1 : a = c) (h2 : b = d) : Ending.returned (.tuple #[a, b]) = .returned (.tuple #[c, d]) := by rw [h1, h2]
set_option maxHeartbeats 4000000 in
set_option maxRecDepth 100000 in
theorem rint_any (S : Nat) (l : List Nat) (bad : Bool) (o : Nat → Prop) (w : World) (h : RdR w S l bad o) :
    Calls Try.prog 36 #[.pointer (some ⟨S, 0, none⟩)] w (iPost l bad (fun w' r b => RdR w' S r b o) o w) := by
  have U := Lib.hid (ruint_any S l bad o w h)
  have hl := h.byt
  clear h
  rcases Cod.dec_cases l hl with hd | ⟨n, r, hd, hn, -⟩
  · have EU := Lib.hid (Cod.rU_none (bad := bad) hd)
    have EI := Lib.hid (Cod.rI_none (bad := bad) hd)
    clear hd hl
    go_enter Try.func36, Try.ntmps36
    go_wp2_with fail
    refine U.out.mono ?_
    unfold uPost
    rw [EU.out]
    rintro e w1 ⟨rfl, hr, hc⟩
    go_wp2_with fail
    go_ret2
    exact ⟨by rw [EI.out]; rfl, by rw [EI.out]; exact hr, hc⟩
  · have EU := Lib.hid (Cod.rU_some (bad := bad) hd)
    have EI := Lib.hid (Cod.rI_some (bad := bad) hd)
    have ZG := Lib.hid (show Cod.zag n = if n % 2 = 0 then ((n / 2 : Nat) : Int) else -((n / 2 : Nat) : Int) - 1 from rfl)
    clear hd hl
    rcases (by omega : n % 2 = 0 ∨ n % 2 = 1) with h2 | h2
    · have g1 : ((n : Int) % 2 == 0) = true := by simp; omega
      have Z := Lib.hid (show Cod.zag n = ((n / 2 : Nat) : Int) by rw [ZG.out, if_pos h2])
      clear h2 ZG
      go_enter Try.func36, Try.ntmps36
      go_wp2_with fail
      refine U.out.mono ?_
      unfold uPost
      rw [EU.out]
      rintro e w1 ⟨rfl, hr, hc⟩
      go_wp2_with fail
      go_ret2
      exact ⟨by rw [EI.out, Z.out]; rfl, by rw [EI.out]; exact hr, hc⟩
    · have g1 : ((n : Int) % 2 == 0) = false := by simp; omega
      have Z := Lib.hid (show Cod.zag n = -((n / 2 : Nat) : Int) - 1 by rw [ZG.out, if_neg (by omega)])
      clear h2 ZG
      go_enter Try.func36, Try.ntmps36
      go_wp2_with fail
      refine U.out.mono ?_
      unfold uPost
      rw [EU.out]
      rintro e w1 ⟨rfl, hr, hc⟩
      go_wp2_with fail
      go_ret2
      exact ⟨by rw [EI.out, Z.out]; rfl, by rw [EI.out]; exact hr, hc⟩
set_option maxHeartbeats 4000000 in
set_option maxRecDepth 100000 in
theorem rcount_any (S : Nat) (l : List Nat) (bad : Bool) (o : Nat → Prop) (w : World) (h : RdR w S l bad o) (most : Int) (h0 : 0 ≤ most) (h63 : most < 2 ^ 63) :
    Calls Try.prog 39 #[.pointer (some ⟨S, 0, none⟩), .int .i64 most] w (cPost most l bad (fun w' r b => RdR w' S r b o) o w) := by
  obtain ⟨m, rfl⟩ : ∃ m : Nat, most = (m : Int) := ⟨most.toNat, by omega⟩
  have U := Lib.hid (ruint_any S l bad o w h)
  have hl := h.byt
  clear h
  rcases Cod.dec_cases l hl with hd | ⟨n, r, hd, hn, -⟩
  · have EU := Lib.hid (Cod.rU_none (bad := bad) hd)
    have EI := Lib.hid (Cod.rC_none (most := m) (bad := bad) hd)
    clear hd hl
    go_enter Try.func39, Try.ntmps39
    go_wp2_with fail
    refine U.out.mono ?_
    unfold uPost
    rw [EU.out]
    rintro e w1 ⟨rfl, hr, hc⟩
    go_wp2_with fail
    go_ret2
    exact ⟨by rw [EI.out]; rfl, by rw [EI.out]; exact hr, hc⟩
  · have EU := Lib.hid (Cod.rU_some (bad := bad) hd)
    have m63 : m ≤ 9223372036854775807 := by omega
    have g0 : decide ((m : Int) < 0) = false := decide_eq_false (by omega)
    by_cases hm : m < n
    · have EI := Lib.hid (Cod.rC_out (most := m) (bad := bad) hd (by omega))
      have g1 : (m : Int) < (n : Int) := by omega
      clear hd hl hm h63 hn
      go_enter Try.func39, Try.ntmps39
      go_wp2_with fail
      refine U.out.mono ?_
      unfold uPost
      rw [EU.out]
      rintro e w1 ⟨rfl, hr, hc⟩
      go_wp2_with fail
      refine (rfail_any S r bad o w1 hr).mono ?_
      rintro e w2 ⟨rfl, hr2, hc2⟩
      go_wp2_with fail
      go_ret2
      exact ⟨by rw [EI.out]; rfl, by rw [EI.out]; exact hr2, hc.trans hc2⟩
    · have EI := Lib.hid (Cod.rC_in (most := m) (bad := bad) hd (by omega))
      have g1 : ¬ (m : Int) < (n : Int) := by omega
      have g2 : decide ((m : Int) < (n : Int)) = false := decide_eq_false g1
      have n63 : n ≤ 9223372036854775807 := by omega
      clear hd hl hm h63 hn
      go_enter Try.func39, Try.ntmps39
      go_wp2_with fail
      refine U.out.mono ?_
      unfold uPost
      rw [EU.out]
      rintro e w1 ⟨rfl, hr, hc⟩
      go_wp2_with fail
      go_ret2
      exact ⟨by rw [EI.out]; rfl, by rw [EI.out]; exact hr, hc⟩
end Go.Proofs.Ytajeboigkpelgaa
