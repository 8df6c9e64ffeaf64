/- Contracts of functions that only read matrices: isSide, Valid, the reference's Valid, Small, Same, SameInts, lead. -/
import Derived.Test.YtfhgalfdlkdliaaSl
import Derived.Test.YtfhgalfdlkdliaaGff
import Derived.Test.YtfhgalfdlkdliaaEl
import Derived.Deep.QuietTactic
import Derived.BigQuiet
namespace Go.Proofs.Ytfhgalfdlkdliaa
open Go Go.RowKit

theorem Sl.at_ {α : Type} {R : World → Value → α → Prop} {w : World} {v : Value} {l : List α} (h : Sl R w v l) (hn : 0 < l.length) :
    ∃ b off c, v = .slice (some ⟨b, off, none⟩) l.length c ∧ (l.length ≤ c ∧ c ≤ maxLen) ∧ ∀ k (h : k < l.length), ∃ u, w.cell? ⟨b, off + k, none⟩ = some u ∧ R w u l[k] := by
  obtain ⟨A, c, rfl, hm, hz, hc⟩ := h
  obtain ⟨b, off, rfl, hcell⟩ := hc hn
  exact ⟨b, off, c, rfl, hm, hcell⟩
theorem Sl.form {α : Type} {R : World → Value → α → Prop} {w : World} {v : Value} {l : List α} (h : Sl R w v l) : ∃ A c, v = .slice A l.length c := by
  obtain ⟨A, c, rfl, _⟩ := h
  exact ⟨A, c, rfl⟩
theorem Ms.at_ {w : World} {v : Value} {m : List (List Nat)} (h : Ms w v m) (hn : 0 < m.length) :
    ∃ b off c, v = .slice (some ⟨b, off, none⟩) m.length c ∧ (m.length ≤ c ∧ c ≤ maxLen) ∧ ∀ k, k < m.length → ∃ A c', w.cell? ⟨b, off + k, none⟩ = some (.slice A (m.getD k []).length c') ∧ Bs w (.slice A (m.getD k []).length c') (m.getD k []) := by
  obtain ⟨b, off, c, rfl, hm, hc⟩ := Sl.at_ h hn
  refine ⟨b, off, c, rfl, hm, fun k hk => ?_⟩
  obtain ⟨u, hu, hb⟩ := hc k hk
  obtain ⟨A, c', rfl⟩ := hb.form
  rw [getD_in hk]
  exact ⟨A, c', hu, hb⟩
theorem Is.at_ {w : World} {v : Value} {l : List Int} (h : Is w v l) (hn : 0 < l.length) :
    ∃ b off c, v = .slice (some ⟨b, off, none⟩) l.length c ∧ (l.length ≤ c ∧ c ≤ maxLen) ∧ ∀ k, k < l.length → w.cell? ⟨b, off + k, none⟩ = some (.int .i64 (l.getD k 0)) := by
  obtain ⟨b, off, c, rfl, hm, hc⟩ := Sl.at_ h hn
  refine ⟨b, off, c, rfl, hm, fun k hk => ?_⟩
  obtain ⟨u, hu, rfl⟩ := hc k hk
  rw [getD_in hk]
  exact hu

/-- Valid: from 1 to 64 rows, as many columns in each. -/
def validB (m : List (List Nat)) : Bool := decide (1 ≤ m.length ∧ m.length ≤ 64 ∧ 1 ≤ (m.getD 0 []).length ∧ (m.getD 0 []).length ≤ 64 ∧ ∀ i, i < m.length → (m.getD i []).length = (m.getD 0 []).length)
theorem validB_iff (m : List (List Nat)) : validB m = true ↔ 1 ≤ m.length ∧ m.length ≤ 64 ∧ 1 ≤ (m.getD 0 []).length ∧ (m.getD 0 []).length ≤ 64 ∧ ∀ i, i < m.length → (m.getD i []).length = (m.getD 0 []).length := by
  unfold validB; exact decide_eq_true_iff
def smallB (m : List (List Nat)) : Bool := decide (m.length ≤ 8 ∧ ∀ i, i < m.length → (m.getD i []).length ≤ 8)
theorem ret_bool {a b : Bool} (h : a = b) : Ending.returned (.bool a) = .returned (.bool b) := by rw [h]

theorem side_t (n : Int) (w : World) (h1 : 1 ≤ n) (h2 : n ≤ 64) : Calls Try.prog 35 #[.int .i64 n] w fun e w' => e = .returned (.bool true) ∧ w = w' := by
  go_enter Try.func35, Try.ntmps35
  go_wp2
  go_ret
  exact ⟨rfl, rfl⟩
theorem side_f (n : Int) (w : World) (h : n < 1 ∨ 64 < n) : Calls Try.prog 35 #[.int .i64 n] w fun e w' => e = .returned (.bool false) ∧ w = w' := by
  rcases h with h | h
  · have g : decide (1 ≤ n) = false := by simp; omega
    go_enter Try.func35, Try.ntmps35
    go_wp2
    go_ret
    exact ⟨rfl, rfl⟩
  · have g : decide (n ≤ 64) = false := by simp; omega
    go_enter Try.func35, Try.ntmps35
    go_wp2
    go_ret
    exact ⟨rfl, rfl⟩

set_option maxHeartbeats 1000000 in
set_option maxRecDepth 100000 in
theorem valid_any (v : Value) (m : List (List Nat)) (w : World) (h : Ms w v m) :
    Calls Try.prog 32 #[v] w fun e w' => e = .returned (.bool (validB m)) ∧ w = w' := by
  have V := Lib.hid (validB_iff m)
  by_cases h1 : 1 ≤ m.length ∧ m.length ≤ 64
  · obtain ⟨b, off, c, rfl, -, hrow⟩ := Ms.at_ h h1.1
    have HR := Lib.hid hrow
    obtain ⟨A0, c0, q0, -⟩ := hrow 0 h1.1
    rw [Nat.add_zero] at q0
    clear hrow h
    obtain ⟨n, hn⟩ : ∃ n, m.length = n := ⟨_, rfl⟩
    obtain ⟨k0, hk0⟩ : ∃ k0, (m.getD 0 []).length = k0 := ⟨_, rfl⟩
    rw [hn] at h1 ⊢
    rw [hk0] at q0
    have N := Lib.hid hn
    have K := Lib.hid hk0
    clear hn hk0
    obtain ⟨h1, h1'⟩ := h1
    by_cases h2 : 1 ≤ k0 ∧ k0 ≤ 64
    · obtain ⟨h2, h2'⟩ := h2
      go_enter Try.func32, Try.ntmps32
      go_wp2_with (go_at_call 35; refine (side_t _ _ (by omega) (by omega)).mono ?_; rintro e w' ⟨rfl, rfl⟩)
      go_loop [4, 19] (fun _ i => ∃ k : Nat, k ≤ n ∧ i = .int .i64 (k : Int) ∧ Hid (∀ j, j < k → (m.getD j []).length = k0)) (fun _ i => n - (intOf i).toNat)
      case atStart => exact ⟨0, Nat.zero_le _, rfl, Lib.hid fun j hj => absurd hj (Nat.not_lt_zero j)⟩
      case round =>
        obtain ⟨k, hk, rfl, H⟩ := hrel
        by_cases hlt : k < n
        · obtain ⟨A1, c1, q1, -⟩ := HR.out k (by rw [N.out]; exact hlt)
          obtain ⟨k1, hk1⟩ : ∃ k1, (m.getD k []).length = k1 := ⟨_, rfl⟩
          rw [hk1] at q1
          have K1 := Lib.hid hk1
          clear hk1
          by_cases he : k1 = k0
          · have g : ((k1 : Int) != (k0 : Int)) = false := by simp [he]
            have E := Lib.hid he
            clear he
            go_wp2
            go_round
            case rel =>
              refine ⟨k + 1, by omega, by go_num, Lib.hid fun j hj => ?_⟩
              rcases Nat.lt_or_ge j k with h | h
              · exact H.out j h
              · obtain rfl : j = k := by omega
                rw [K1.out, E.out]
            case measure => simp [intOf]; omega
          · have g : ((k1 : Int) != (k0 : Int)) = true := by simp; omega
            have E := Lib.hid he
            clear he
            go_wp2
            go_ret
            refine ⟨ret_bool ?_, rfl⟩
            refine (Bool.eq_false_iff.2 fun hv => ?_).symm
            exact E.out (by rw [← K1.out, ← K.out]; exact (V.out.1 hv).2.2.2.2 k (by rw [N.out]; exact hlt))
        · go_wp2
          go_ret
          refine ⟨ret_bool ?_, rfl⟩
          exact (V.out.2 ⟨by rw [N.out]; exact h1, by rw [N.out]; exact h1', by rw [K.out]; exact h2, by rw [K.out]; exact h2', fun i hi => by rw [K.out]; exact H.out i (by rw [N.out] at hi; omega)⟩).symm
    · have G : Hid (validB m = false) := Lib.hid (Bool.eq_false_iff.2 fun hv => h2 (by have := V.out.1 hv; rw [← K.out]; exact ⟨this.2.2.1, this.2.2.2.1⟩))
      have g2 : (k0 : Int) < 1 ∨ 64 < (k0 : Int) := by omega
      have G2 := Lib.hid g2
      clear h2 g2
      go_enter Try.func32, Try.ntmps32
      go_wp2_with fail
      refine (side_t _ _ (by omega) (by omega)).mono ?_
      rintro e w' ⟨rfl, rfl⟩
      go_wp2_with fail
      refine (side_f _ _ G2.out).mono ?_
      rintro e w' ⟨rfl, rfl⟩
      go_wp2_with fail
      go_ret
      exact ⟨ret_bool G.out.symm, rfl⟩
  · have G : Hid (validB m = false) := Lib.hid (Bool.eq_false_iff.2 fun hv => h1 (by have := V.out.1 hv; exact ⟨this.1, this.2.1⟩))
    obtain ⟨A, c, rfl⟩ := Sl.form h
    have g2 : (m.length : Int) < 1 ∨ 64 < (m.length : Int) := by omega
    have G2 := Lib.hid g2
    clear h1 g2 h
    generalize m.length = n at *
    go_enter Try.func32, Try.ntmps32
    go_wp2_with (go_at_call 35; refine (side_f _ _ G2.out).mono ?_; rintro e w' ⟨rfl, rfl⟩)
    go_ret
    exact ⟨ret_bool G.out.symm, rfl⟩
end Go.Proofs.Ytfhgalfdlkdliaa
