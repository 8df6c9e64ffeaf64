/- Law walk: SmallfieldNil. WRITTEN BY gen_So.py. -/
import Derived.Test.YtclmlcoikohceaaDoorSn
import Derived.Test.YtclmlcoikohceaaDoorGK
namespace Go.Proofs.YtclmlcoikohceaaDoor
open Go Go.RowKit
set_option linter.unusedVariables false

set_option maxHeartbeats 1000000 in
theorem nillaw_walk (a b : Int) (w : World) (hK : Kd w) : Calls Tryd.prog 5 #[.int .i64 a, .int .i64 b] w (lawPost w) := by
  have HA := Lib.hid (awake_any w hK)
  have no : ∀ x y : Int, ¬ ((0 ≤ x ∧ x < ((0 : Nat) : Int)) ∧ (0 ≤ y ∧ y < ((0 : Nat) : Int))) := fun x y h => by omega
  have no1 : ∀ x : Int, ¬ (0 ≤ x ∧ x < ((0 : Nat) : Int)) := fun x h => by omega
  have M0 := Lib.hid fun w => size_nil w
  have M1 := Lib.hid fun w => prime_nil w
  have M2 := Lib.hid fun w => add_out 0 a b (.pointer none) w (Fq.nil_ w) (no a b)
  have M3 := Lib.hid fun w => mul_out 0 a b (.pointer none) w (Fq.nil_ w) (no a b)
  have M4 := Lib.hid fun w => neg_out 0 a (.pointer none) w (Fq.nil_ w) (no1 a)
  have M5 := Lib.hid fun w => inv_out 0 a (.pointer none) w (Fq.nil_ w) (no1 a)
  clear hK no no1
  go_enter Tryd.func5, Tryd.ntmps5
  go_wp2_with fail
  refine HA.out.mono ?_
  rintro e w1 ⟨rfl, hb⟩
  have HB := Lib.hid hb
  clear hb
  go_wp2_with fail
  refine (M0.out _).mono ?_
  rintro e x0 ⟨rfl, rfl⟩
  go_wp2_with fail
  refine (M1.out _).mono ?_
  rintro e x1 ⟨rfl, rfl⟩
  go_wp2_with fail
  refine (M2.out _).mono ?_
  rintro e x2 ⟨rfl, rfl⟩
  go_wp2_with fail
  refine (M3.out _).mono ?_
  rintro e x3 ⟨rfl, rfl⟩
  go_wp2_with fail
  refine (M4.out _).mono ?_
  rintro e x4 ⟨rfl, rfl⟩
  go_wp2_with fail
  refine (M5.out _).mono ?_
  rintro e x5 ⟨rfl, rfl⟩
  go_wp2_with fail
  go_ret
  exact ⟨rfl, HB.out⟩
end Go.Proofs.YtclmlcoikohceaaDoor
