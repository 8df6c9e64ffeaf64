/- Contracts: the reference's count and Count. -/
import Derived.Test.YtnnacofjogfkeaaDoorGP
import Derived.Test.YtnnacofjogfkeaaDoorUr
namespace Go.Proofs.YtnnacofjogfkeaaDoor
open Go Go.RowKit
set_option linter.unusedVariables false
set_option linter.unusedSimpArgs false
namespace Co
theorem ch_up {d i : Nat} (h : 2 * i + 1 ≤ d) : ch d i ≤ ch d (i + 1) := by
  have h1 := ch_step d i
  have h2 : ch d i * (i + 1) ≤ ch d i * (d - i) := Nat.mul_le_mul_left _ (by omega)
  rw [← h1] at h2
  exact Nat.le_of_mul_le_mul_right h2 (Nat.succ_pos i)
theorem ch_le {d w : Nat} (h : 2 * w ≤ d) : ∀ n i, i + n = w → ch d i ≤ ch d w
  | 0, i, e => by rw [show i = w by omega]; exact Nat.le_refl _
  | n + 1, i, e => Nat.le_trans (ch_up (by omega)) (ch_le h n (i + 1) (by omega))
theorem ch_min {d k : Nat} (hk : k ≤ d) : ch d (min k (d - k)) = ch d k := by
  rcases Nat.le_total k (d - k) with h | h
  · rw [Nat.min_eq_left h]
  · rw [Nat.min_eq_right h]
    have := ch_sym (d - k) k
    rw [show d - k + k = d by omega] at this
    exact this
theorem ch_div (d i : Nat) : ch d i * (d - i) / (i + 1) = ch d (i + 1) := by
  rw [← ch_step]; exact Nat.mul_div_cancel _ (Nat.succ_pos i)
end Co
open Co
/-- The number of sets, or more than the limit if there are more. -/
def numPost (d k : Nat) (w : World) (e : Ending) (w' : World) : Prop := ∃ c : Nat, e = .returned (.int .i64 (c : Int)) ∧ w' = w ∧ (c = ch d k ∨ (4096 < c ∧ 4096 < ch d k))
set_option maxHeartbeats 1000000 in
set_option maxRecDepth 100000 in
theorem rcount_any (d k : Nat) (w : World) (hd : d ≤ 60) (hk : 2 * k ≤ d) : Calls Tryd.prog 25 #[.int .i64 (d : Int), .int .i64 (k : Int)] w (numPost d k w) := by
  have DIV := Lib.hid (ch_div d)
  have UP := Lib.hid (fun i (h : i ≤ k) => ch_le (d := d) hk (k - i) i (by omega))
  have C0 := Lib.hid (ch_0 d)
  obtain ⟨f, hf⟩ : ∃ f, ch d = f := ⟨_, rfl⟩
  have HF := Lib.hid hf
  rw [hf] at DIV UP C0
  clear hf
  go_enter Tryd.func25, Tryd.ntmps25
  go_wp2
  go_loop [5, 6] (fun n i => ∃ j c : Nat, j ≤ k ∧ c ≤ 1099511627776 ∧ i = .int .i64 (j : Int) ∧ n = .int .i64 (c : Int) ∧ Hid (c = f j)) (fun _ i => k - (intOf i).toNat)
  case atStart => exact ⟨0, 1, Nat.zero_le _, by omega, rfl, rfl, Lib.hid C0.out.symm⟩
  case round =>
    obtain ⟨j, c, hj, hc, rfl, rfl, H⟩ := hrel
    by_cases hlt : j < k
    · have jI : (j : Int) < (k : Int) := by omega
      obtain ⟨x, hx⟩ : ∃ x, d - j = x := ⟨_, rfl⟩
      have ex : (d : Int) - (j : Int) = (x : Int) := by omega
      have x60 : x ≤ 60 := by omega
      obtain ⟨t, ht⟩ : ∃ t, c * x = t := ⟨_, rfl⟩
      have et : (c : Int) * (x : Int) = (t : Int) := by rw [← ht]; rfl
      have t47 : t ≤ 65970697666560 := by rw [← ht]; exact Nat.mul_le_mul hc x60
      obtain ⟨r, hr⟩ : ∃ r, t / (j + 1) = r := ⟨_, rfl⟩
      have rt : r ≤ t := by rw [← hr]; exact Nat.div_le_self _ _
      have er : (t : Int) / ((j : Int) + 1) = (r : Int) := by rw [← hr]; rfl
      have R := Lib.hid (show r = f (j + 1) by rw [← hr, ← ht, ← hx, H.out]; exact DIV.out j)
      have U := Lib.hid (UP.out (j + 1) (by omega))
      clear hx ht hr H
      by_cases big : 1099511627776 < r
      · have bI : (1099511627776 : Int) < (r : Int) := by omega
        go_wp2
        go_ret
        exact ⟨r, rfl, rfl, .inr ⟨by omega, by rw [HF.out]; have := U.out; rw [← R.out] at this; omega⟩⟩
      · have bI : ¬ (1099511627776 : Int) < (r : Int) := by omega
        go_wp2
        go_round
        case rel => exact ⟨j + 1, r, by omega, by omega, by go_num, rfl, R⟩
        case measure => simp [intOf]; omega
    · have ej : j = k := by omega
      have jI : ¬ (j : Int) < (k : Int) := by omega
      go_wp2
      go_ret
      exact ⟨c, rfl, rfl, .inl (by rw [H.out, HF.out, ej])⟩
set_option maxHeartbeats 1000000 in
set_option maxRecDepth 100000 in
theorem rnum_any (v k : Nat) (w : World) (hv : v ≤ 60) (hk : k ≤ v) : Calls Tryd.prog 12 #[.int .i64 (v : Int), .int .i64 (k : Int)] w (numPost v k w) := by
  obtain ⟨x, hx⟩ : ∃ x, v - k = x := ⟨_, rfl⟩
  have ex : (v : Int) - (k : Int) = (x : Int) := by omega
  have MN := Lib.hid (ch_min hk)
  rw [hx] at MN
  have CT := Lib.hid fun m (h : 2 * m ≤ v) => rcount_any v m w hv h
  obtain ⟨f, hf⟩ : ∃ f, ch v k = f := ⟨_, rfl⟩
  have HF := Lib.hid hf
  clear hf
  by_cases hle : k ≤ x
  · have C1 := Lib.hid (CT.out k (by omega))
    have hleI : (k : Int) ≤ (x : Int) := by omega
    clear hx
    go_enter Tryd.func12, Tryd.ntmps12
    go_wp2_with fail
    refine C1.out.mono ?_
    rintro e z ⟨c, rfl, hz, hc⟩
    obtain rfl := hz.symm
    have HC := Lib.hid hc
    clear hc
    go_wp2_with fail
    go_ret
    exact ⟨c, rfl, rfl, HC.out⟩
  · have C1 := Lib.hid (CT.out x (by omega))
    have hleI : ¬ (k : Int) ≤ (x : Int) := by omega
    have M2 := Lib.hid (show ch v x = ch v k by have := MN.out; rwa [Nat.min_eq_right (by omega)] at this)
    clear hx
    go_enter Tryd.func12, Tryd.ntmps12
    go_wp2_with fail
    refine C1.out.mono ?_
    rintro e z ⟨c, rfl, hz, hc⟩
    obtain rfl := hz.symm
    rw [M2.out] at hc
    have HC := Lib.hid hc
    clear hc
    go_wp2_with fail
    go_ret
    exact ⟨c, rfl, rfl, HC.out⟩
end Go.Proofs.YtnnacofjogfkeaaDoor
