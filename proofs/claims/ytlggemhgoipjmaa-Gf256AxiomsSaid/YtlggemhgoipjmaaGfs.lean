/- The contracts of the reference's inverse, power and exponential. -/
import Derived.Test.YtlggemhgoipjmaaGfr
namespace Go.Proofs.Ytlggemhgoipjmaa
open Go Go.RowKit

def rinvPost (a : Nat) (w : World) (e : Ending) (w' : World) : Prop :=
  (a ≠ 0 → e = .returned (.tuple #[.int .u8 (Gf.inv a : Nat), .bool true])) ∧ (a = 0 → e = .returned (.tuple #[.int .u8 0, .bool false])) ∧ w = w'
set_option maxHeartbeats 400000 in
set_option maxRecDepth 100000 in
theorem rinv_any (a : Nat) (ha : a < 256) (w : World) :
    Calls Try.prog 14 #[.int .u8 (a : Int)] w (rinvPost a w) := by
  go_enter Try.func14, Try.ntmps14
  go_wp2
  go_loop [4] (fun i => ∃ k : Nat, 1 ≤ k ∧ k ≤ 256 ∧ i = .int .i64 (k : Int) ∧ Hid (∀ m, m < k → Gf.mul a m ≠ 1)) (fun i => 256 - (intOf i).toNat)
  case atStart => exact ⟨1, by decide, by decide, rfl, Lib.hid fun m hm => by rw [show m = 0 by omega, Gf.mul_zero]; decide⟩
  case round =>
    obtain ⟨k, hk1, hk, rfl, H⟩ := hrel
    by_cases hlt : k < 256
    · by_cases he : Gf.mul a k = 1
      · have E := Lib.hid he
        have g1 : (((Gf.mul a k : Nat) : Int) == 1) = true := by rw [he]; rfl
        clear he
        go_wp2_with (go_at_call 12; refine (rmul_any a k ha hlt _).mono ?_; rintro e w' ⟨rfl, rfl⟩)
        go_ret2
        refine ⟨fun h0 => ?_, fun h0 => ?_, rfl⟩
        · have := Gf.inv_unique a k ha hlt h0 E.out
          subst this
          rfl
        · have := E.out
          rw [h0, Gf.zero_mul] at this
          exact absurd this (by decide)
      · have E := Lib.hid he
        have g1 : (((Gf.mul a k : Nat) : Int) == 1) = false := by simp; omega
        clear he
        go_wp2_with (go_at_call 12; refine (rmul_any a k ha hlt _).mono ?_; rintro e w' ⟨rfl, rfl⟩)
        go_round
        case rel =>
          refine ⟨k + 1, by omega, by omega, by go_num, Lib.hid fun m hm => ?_⟩
          rcases Nat.lt_or_ge m k with h | h
          · exact H.out m h
          · obtain rfl : m = k := by omega
            exact E.out
        case measure => simp [intOf]; omega
    · go_wp2
      go_ret2
      refine ⟨fun h0 => ?_, fun _ => rfl, rfl⟩
      exact absurd (Gf.mul_inv a ha h0) (H.out _ (by have := Gf.gpow_lt a 254 ha; unfold Gf.inv; omega))

set_option maxHeartbeats 400000 in
set_option maxRecDepth 100000 in
theorem rpower_any (a n : Nat) (ha : a < 256) (hn : n < 4294967296) (w : World) :
    Calls Try.prog 17 #[.int .u8 (a : Int), .int .i64 (n : Int)] w fun e w' => e = .returned (.int .u8 (Gf.gpow a n : Nat)) ∧ w = w' := by
  go_enter Try.func17, Try.ntmps17
  go_wp2
  go_loop [5, 6] (fun p i => ∃ k p' : Nat, k ≤ n ∧ p' < 256 ∧ p = .int .u8 (p' : Int) ∧ i = .int .i64 (k : Int) ∧ Hid (p' = Gf.gpow a k)) (fun _ i => n - (intOf i).toNat)
  case atStart => exact ⟨0, 1, by omega, by decide, rfl, rfl, Lib.hid rfl⟩
  case round =>
    obtain ⟨k, p', hk, hp, rfl, rfl, H⟩ := hrel
    by_cases hlt : k < n
    · go_wp2_with (go_at_call 12; refine (rmul_any p' a hp ha _).mono ?_; rintro e w' ⟨rfl, rfl⟩)
      go_round
      case rel => exact ⟨k + 1, _, by omega, Gf.mul_lt _ _ hp, rfl, by go_num, Lib.hid (by rw [H.out]; rfl)⟩
      case measure => simp [intOf]; omega
    · go_wp2
      go_ret
      exact ⟨ret_u8 (by rw [H.out, show k = n by omega]), rfl⟩

theorem rexp_neg (n : Int) (h : n.tmod 255 < 0) : wrap64 (n.tmod 255 + 255) = ((red n : Nat) : Int) := by rw [red_neg n h]; unfold red; omega
theorem rexp_pos (n : Int) (h : 0 ≤ n.tmod 255) : n.tmod 255 = ((red n : Nat) : Int) := by rw [red_pos n h]; unfold red; omega
set_option maxHeartbeats 400000 in
set_option maxRecDepth 100000 in
theorem rexp_any (n : Int) (w : World) :
    Calls Try.prog 19 #[.int .i64 n] w fun e w' => e = .returned (.int .u8 (Gf.gpow 2 (red n) : Nat)) ∧ w = w' := by
  have hr := red_lt n
  by_cases h : n.tmod 255 < 0
  · have e := rexp_neg n h
    go_enter Try.func19, Try.ntmps19
    go_wp2_with (go_at_call 17; refine (rpower_any 2 (red n) (by decide) (by omega) _).mono ?_; rintro e w' ⟨rfl, rfl⟩)
    go_ret
    exact ⟨rfl, rfl⟩
  · have h' : 0 ≤ n.tmod 255 := by omega
    have e := rexp_pos n h'
    go_enter Try.func19, Try.ntmps19
    go_wp2_with (go_at_call 17; refine (rpower_any 2 (red n) (by decide) (by omega) _).mono ?_; rintro e w' ⟨rfl, rfl⟩)
    go_ret
    exact ⟨rfl, rfl⟩
end Go.Proofs.Ytlggemhgoipjmaa
