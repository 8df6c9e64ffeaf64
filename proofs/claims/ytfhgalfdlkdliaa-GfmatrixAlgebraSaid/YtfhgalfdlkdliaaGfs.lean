/- The contracts of the reference's inverse, power and exponential. -/
import Derived.Test.YtfhgalfdlkdliaaGfr
namespace Go.Proofs.Ytfhgalfdlkdliaa
open Go Go.RowKit

def rinvPost (a : Nat) (w : World) (e : Ending) (w' : World) : Prop :=
  (a ≠ 0 → e = .returned (.tuple #[.int .u8 (Gf.inv a : Nat), .bool true])) ∧ (a = 0 → e = .returned (.tuple #[.int .u8 0, .bool false])) ∧ w = w'
set_option maxHeartbeats 400000 in
set_option maxRecDepth 100000 in
theorem rpower_any (a n : Nat) (ha : a < 256) (hn : n < 4294967296) (w : World) :
    Calls Try.prog 19 #[.int .u8 (a : Int), .int .i64 (n : Int)] w fun e w' => e = .returned (.int .u8 (Gf.gpow a n : Nat)) ∧ w = w' := by
  go_enter Try.func19, Try.ntmps19
  go_wp2
  go_loop [5, 6] (fun p i => ∃ k p' : Nat, k ≤ n ∧ p' < 256 ∧ p = .int .u8 (p' : Int) ∧ i = .int .i64 (k : Int) ∧ Hid (p' = Gf.gpow a k)) (fun _ i => n - (intOf i).toNat)
  case atStart => exact ⟨0, 1, by omega, by decide, rfl, rfl, Lib.hid rfl⟩
  case round =>
    obtain ⟨k, p', hk, hp, rfl, rfl, H⟩ := hrel
    by_cases hlt : k < n
    · go_wp2_with (go_at_call 39; refine (rmul_any p' a hp ha _).mono ?_; rintro e w' ⟨rfl, rfl⟩)
      go_round
      case rel => exact ⟨k + 1, _, by omega, Gf.mul_lt _ _ hp, rfl, by go_num, Lib.hid (by rw [H.out]; rfl)⟩
      case measure => simp [intOf]; omega
    · go_wp2
      go_ret
      exact ⟨ret_u8 (by rw [H.out, show k = n by omega]), rfl⟩
end Go.Proofs.Ytfhgalfdlkdliaa
