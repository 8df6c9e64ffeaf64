/- The contracts of the reference's inverse, power and exponential. -/
import Derived.Test.YtiibdoibcbokcaaGfr
namespace Go.Proofs.Ytiibdoibcbokcaa
open Go Go.RowKit

def rinvPost (a : Nat) (w : World) (e : Ending) (w' : World) : Prop :=
  (a ≠ 0 → e = .returned (.tuple #[.int .u8 (Gf.inv a : Nat), .bool true])) ∧ (a = 0 → e = .returned (.tuple #[.int .u8 0, .bool false])) ∧ w = w'
set_option maxHeartbeats 400000 in
set_option maxRecDepth 100000 in
theorem rinv_any (a : Nat) (ha : a < 256) (w : World) :
    Calls Try.prog 43 #[.int .u8 (a : Int)] w (rinvPost a w) := by
  go_enter Try.func43, Try.ntmps43
  go_wp2
  go_loop [4] (fun i => ∃ k : Nat, 1 ≤ k ∧ k ≤ 256 ∧ i = .int .i64 (k : Int) ∧ Hid (∀ m, m < k → Gf.mul a m ≠ 1)) (fun i => 256 - (intOf i).toNat)
  case atStart => exact ⟨1, by decide, by decide, rfl, Lib.hid fun m hm => by rw [show m = 0 by omega, Gf.mul_zero]; decide⟩
  case round =>
    obtain ⟨k, hk1, hk, rfl, H⟩ := hrel
    by_cases hlt : k < 256
    · by_cases he : Gf.mul a k = 1
      · have E := Lib.hid he
        have g1 : (((Gf.mul a k : Nat) : Int) == 1) = true := by rw [he]; rfl
        clear he
        go_wp2_with (go_at_call 37; refine (rmul_any a k ha hlt _).mono ?_; rintro e w' ⟨rfl, rfl⟩)
        go_ret2
        refine ⟨fun h0 => ?_, fun h0 => ?_, rfl⟩
        · have := Gf.inv_unique a k ha hlt h0 E.out
          subst this
          rfl
        · have := E.out
          rw [h0, Gf.zero_mul] at this
          exact absurd this (by decide)
      · have E := Lib.hid he
        have g1 : (((Gf.mul a k : Nat) : Int) == 1) = false := by simp; omega
        clear he
        go_wp2_with (go_at_call 37; refine (rmul_any a k ha hlt _).mono ?_; rintro e w' ⟨rfl, rfl⟩)
        go_round
        case rel =>
          refine ⟨k + 1, by omega, by omega, by go_num, Lib.hid fun m hm => ?_⟩
          rcases Nat.lt_or_ge m k with h | h
          · exact H.out m h
          · obtain rfl : m = k := by omega
            exact E.out
        case measure => simp [intOf]; omega
    · go_wp2
      go_ret2
      refine ⟨fun h0 => ?_, fun _ => rfl, rfl⟩
      exact absurd (Gf.mul_inv a ha h0) (H.out _ (by have := Gf.gpow_lt a 254 ha; unfold Gf.inv; omega))

end Go.Proofs.Ytiibdoibcbokcaa
