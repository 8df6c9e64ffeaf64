/- The reference's Valid, BandSize, Random. WRITTEN BY gen_Kb.py. -/
import Derived.Test.YtbaclcpnnompnaaKa
import Derived.Test.YtbaclcpnnompnaaGA
import Derived.Test.YtbaclcpnnompnaaRr
import Derived.Deep.DeepMust
namespace Go.Proofs.Ytbaclcpnnompnaa
open Go Go.RowKit
set_option linter.unusedVariables false
set_option linter.unusedSimpArgs false
/-- A value is returned, and below the new memory all is as it was. -/
def gPost (v : Value) (w : World) (e : Ending) (w' : World) : Prop := e = .returned v ∧ Below w.heap.size w w'

set_option maxHeartbeats 1000000 in
set_option maxRecDepth 100000 in
theorem rvalid_0 (r b t s o : Int) (w : World)  (h0 : ¬ 0 ≤ r) : Calls Try.prog 36 #[.agg #[.int .i64 r, .int .i64 b, .int .i64 t, .int .i64 s, .int .i64 o]] w (gPost (.bool false) w) := by
  have d : decide ((0 : Int) ≤ r) = false := decide_eq_false h0
  go_enter Try.func36, Try.ntmps36
  go_wp2_with fail
  go_ret
  exact ⟨rfl, (Below.refl _ _).alloc (Nat.le_refl _) _⟩
set_option maxHeartbeats 1000000 in
set_option maxRecDepth 100000 in
theorem rvalid_1 (r b t s o : Int) (w : World) (h0 : 0 ≤ r) (h1 : ¬ r ≤ 16384) : Calls Try.prog 36 #[.agg #[.int .i64 r, .int .i64 b, .int .i64 t, .int .i64 s, .int .i64 o]] w (gPost (.bool false) w) := by
  have d : decide (r ≤ (16384 : Int)) = false := decide_eq_false h1
  have d0 : decide ((0 : Int) ≤ r) = true := decide_eq_true h0
  go_enter Try.func36, Try.ntmps36
  go_wp2_with fail
  go_ret
  exact ⟨rfl, (Below.refl _ _).alloc (Nat.le_refl _) _⟩
set_option maxHeartbeats 1000000 in
set_option maxRecDepth 100000 in
theorem rvalid_2 (r b t s o : Int) (w : World) (h0 : 0 ≤ r) (h1 : r ≤ 16384) (h2 : ¬ 1 ≤ b) : Calls Try.prog 36 #[.agg #[.int .i64 r, .int .i64 b, .int .i64 t, .int .i64 s, .int .i64 o]] w (gPost (.bool false) w) := by
  have d : decide ((1 : Int) ≤ b) = false := decide_eq_false h2
  have d0 : decide ((0 : Int) ≤ r) = true := decide_eq_true h0
  have d1 : decide (r ≤ (16384 : Int)) = true := decide_eq_true h1
  go_enter Try.func36, Try.ntmps36
  go_wp2_with fail
  go_ret
  exact ⟨rfl, (Below.refl _ _).alloc (Nat.le_refl _) _⟩
set_option maxHeartbeats 1000000 in
set_option maxRecDepth 100000 in
theorem rvalid_3 (r b t s o : Int) (w : World) (h0 : 0 ≤ r) (h1 : r ≤ 16384) (h2 : 1 ≤ b) (h3 : ¬ b ≤ 64) : Calls Try.prog 36 #[.agg #[.int .i64 r, .int .i64 b, .int .i64 t, .int .i64 s, .int .i64 o]] w (gPost (.bool false) w) := by
  have d : decide (b ≤ (64 : Int)) = false := decide_eq_false h3
  have d0 : decide ((0 : Int) ≤ r) = true := decide_eq_true h0
  have d1 : decide (r ≤ (16384 : Int)) = true := decide_eq_true h1
  have d2 : decide ((1 : Int) ≤ b) = true := decide_eq_true h2
  go_enter Try.func36, Try.ntmps36
  go_wp2_with fail
  go_ret
  exact ⟨rfl, (Below.refl _ _).alloc (Nat.le_refl _) _⟩
set_option maxHeartbeats 1000000 in
set_option maxRecDepth 100000 in
theorem rvalid_4 (r b t s o : Int) (w : World) (h0 : 0 ≤ r) (h1 : r ≤ 16384) (h2 : 1 ≤ b) (h3 : b ≤ 64) (h4 : ¬ 1 ≤ t) : Calls Try.prog 36 #[.agg #[.int .i64 r, .int .i64 b, .int .i64 t, .int .i64 s, .int .i64 o]] w (gPost (.bool false) w) := by
  have d : decide ((1 : Int) ≤ t) = false := decide_eq_false h4
  have d0 : decide ((0 : Int) ≤ r) = true := decide_eq_true h0
  have d1 : decide (r ≤ (16384 : Int)) = true := decide_eq_true h1
  have d2 : decide ((1 : Int) ≤ b) = true := decide_eq_true h2
  have d3 : decide (b ≤ (64 : Int)) = true := decide_eq_true h3
  go_enter Try.func36, Try.ntmps36
  go_wp2_with fail
  go_ret
  exact ⟨rfl, (Below.refl _ _).alloc (Nat.le_refl _) _⟩
set_option maxHeartbeats 1000000 in
set_option maxRecDepth 100000 in
theorem rvalid_5 (r b t s o : Int) (w : World) (h0 : 0 ≤ r) (h1 : r ≤ 16384) (h2 : 1 ≤ b) (h3 : b ≤ 64) (h4 : 1 ≤ t) (h5 : ¬ t ≤ 16) : Calls Try.prog 36 #[.agg #[.int .i64 r, .int .i64 b, .int .i64 t, .int .i64 s, .int .i64 o]] w (gPost (.bool false) w) := by
  have d : decide (t ≤ (16 : Int)) = false := decide_eq_false h5
  have d0 : decide ((0 : Int) ≤ r) = true := decide_eq_true h0
  have d1 : decide (r ≤ (16384 : Int)) = true := decide_eq_true h1
  have d2 : decide ((1 : Int) ≤ b) = true := decide_eq_true h2
  have d3 : decide (b ≤ (64 : Int)) = true := decide_eq_true h3
  have d4 : decide ((1 : Int) ≤ t) = true := decide_eq_true h4
  go_enter Try.func36, Try.ntmps36
  go_wp2_with fail
  go_ret
  exact ⟨rfl, (Below.refl _ _).alloc (Nat.le_refl _) _⟩
set_option maxHeartbeats 1000000 in
set_option maxRecDepth 100000 in
theorem rvalid_6 (r b t s o : Int) (w : World) (h0 : 0 ≤ r) (h1 : r ≤ 16384) (h2 : 1 ≤ b) (h3 : b ≤ 64) (h4 : 1 ≤ t) (h5 : t ≤ 16) (h6 : ¬ 1 ≤ s) : Calls Try.prog 36 #[.agg #[.int .i64 r, .int .i64 b, .int .i64 t, .int .i64 s, .int .i64 o]] w (gPost (.bool false) w) := by
  have d : decide ((1 : Int) ≤ s) = false := decide_eq_false h6
  have d0 : decide ((0 : Int) ≤ r) = true := decide_eq_true h0
  have d1 : decide (r ≤ (16384 : Int)) = true := decide_eq_true h1
  have d2 : decide ((1 : Int) ≤ b) = true := decide_eq_true h2
  have d3 : decide (b ≤ (64 : Int)) = true := decide_eq_true h3
  have d4 : decide ((1 : Int) ≤ t) = true := decide_eq_true h4
  have d5 : decide (t ≤ (16 : Int)) = true := decide_eq_true h5
  go_enter Try.func36, Try.ntmps36
  go_wp2_with fail
  go_ret
  exact ⟨rfl, (Below.refl _ _).alloc (Nat.le_refl _) _⟩
set_option maxHeartbeats 1000000 in
set_option maxRecDepth 100000 in
theorem rvalid_7 (r b t s o : Int) (w : World) (h0 : 0 ≤ r) (h1 : r ≤ 16384) (h2 : 1 ≤ b) (h3 : b ≤ 64) (h4 : 1 ≤ t) (h5 : t ≤ 16) (h6 : 1 ≤ s) (h7 : ¬ s ≤ 64) : Calls Try.prog 36 #[.agg #[.int .i64 r, .int .i64 b, .int .i64 t, .int .i64 s, .int .i64 o]] w (gPost (.bool false) w) := by
  have d : decide (s ≤ (64 : Int)) = false := decide_eq_false h7
  have d0 : decide ((0 : Int) ≤ r) = true := decide_eq_true h0
  have d1 : decide (r ≤ (16384 : Int)) = true := decide_eq_true h1
  have d2 : decide ((1 : Int) ≤ b) = true := decide_eq_true h2
  have d3 : decide (b ≤ (64 : Int)) = true := decide_eq_true h3
  have d4 : decide ((1 : Int) ≤ t) = true := decide_eq_true h4
  have d5 : decide (t ≤ (16 : Int)) = true := decide_eq_true h5
  have d6 : decide ((1 : Int) ≤ s) = true := decide_eq_true h6
  go_enter Try.func36, Try.ntmps36
  go_wp2_with fail
  go_ret
  exact ⟨rfl, (Below.refl _ _).alloc (Nat.le_refl _) _⟩
set_option maxHeartbeats 1000000 in
set_option maxRecDepth 100000 in
theorem rvalid_8 (r b t s o : Int) (w : World) (h0 : 0 ≤ r) (h1 : r ≤ 16384) (h2 : 1 ≤ b) (h3 : b ≤ 64) (h4 : 1 ≤ t) (h5 : t ≤ 16) (h6 : 1 ≤ s) (h7 : s ≤ 64) (h8 : ¬ 0 ≤ o) : Calls Try.prog 36 #[.agg #[.int .i64 r, .int .i64 b, .int .i64 t, .int .i64 s, .int .i64 o]] w (gPost (.bool false) w) := by
  have d : decide ((0 : Int) ≤ o) = false := decide_eq_false h8
  have d0 : decide ((0 : Int) ≤ r) = true := decide_eq_true h0
  have d1 : decide (r ≤ (16384 : Int)) = true := decide_eq_true h1
  have d2 : decide ((1 : Int) ≤ b) = true := decide_eq_true h2
  have d3 : decide (b ≤ (64 : Int)) = true := decide_eq_true h3
  have d4 : decide ((1 : Int) ≤ t) = true := decide_eq_true h4
  have d5 : decide (t ≤ (16 : Int)) = true := decide_eq_true h5
  have d6 : decide ((1 : Int) ≤ s) = true := decide_eq_true h6
  have d7 : decide (s ≤ (64 : Int)) = true := decide_eq_true h7
  go_enter Try.func36, Try.ntmps36
  go_wp2_with fail
  go_ret
  exact ⟨rfl, (Below.refl _ _).alloc (Nat.le_refl _) _⟩
set_option maxHeartbeats 1000000 in
set_option maxRecDepth 100000 in
theorem rvalid_9 (r b t s o : Int) (w : World) (h0 : 0 ≤ r) (h1 : r ≤ 16384) (h2 : 1 ≤ b) (h3 : b ≤ 64) (h4 : 1 ≤ t) (h5 : t ≤ 16) (h6 : 1 ≤ s) (h7 : s ≤ 64) (h8 : 0 ≤ o) (h9 : ¬ o ≤ 3) : Calls Try.prog 36 #[.agg #[.int .i64 r, .int .i64 b, .int .i64 t, .int .i64 s, .int .i64 o]] w (gPost (.bool false) w) := by
  have d : decide (o ≤ (3 : Int)) = false := decide_eq_false h9
  have d0 : decide ((0 : Int) ≤ r) = true := decide_eq_true h0
  have d1 : decide (r ≤ (16384 : Int)) = true := decide_eq_true h1
  have d2 : decide ((1 : Int) ≤ b) = true := decide_eq_true h2
  have d3 : decide (b ≤ (64 : Int)) = true := decide_eq_true h3
  have d4 : decide ((1 : Int) ≤ t) = true := decide_eq_true h4
  have d5 : decide (t ≤ (16 : Int)) = true := decide_eq_true h5
  have d6 : decide ((1 : Int) ≤ s) = true := decide_eq_true h6
  have d7 : decide (s ≤ (64 : Int)) = true := decide_eq_true h7
  have d8 : decide ((0 : Int) ≤ o) = true := decide_eq_true h8
  go_enter Try.func36, Try.ntmps36
  go_wp2_with fail
  go_ret
  exact ⟨rfl, (Below.refl _ _).alloc (Nat.le_refl _) _⟩
set_option maxHeartbeats 1000000 in
set_option maxRecDepth 100000 in
theorem rvalid_10 (r b t s o : Int) (w : World) (h0 : 0 ≤ r) (h1 : r ≤ 16384) (h2 : 1 ≤ b) (h3 : b ≤ 64) (h4 : 1 ≤ t) (h5 : t ≤ 16) (h6 : 1 ≤ s) (h7 : s ≤ 64) (h8 : 0 ≤ o) (h9 : o ≤ 3) : Calls Try.prog 36 #[.agg #[.int .i64 r, .int .i64 b, .int .i64 t, .int .i64 s, .int .i64 o]] w (gPost (.bool true) w) := by
  have d0 : decide ((0 : Int) ≤ r) = true := decide_eq_true h0
  have d1 : decide (r ≤ (16384 : Int)) = true := decide_eq_true h1
  have d2 : decide ((1 : Int) ≤ b) = true := decide_eq_true h2
  have d3 : decide (b ≤ (64 : Int)) = true := decide_eq_true h3
  have d4 : decide ((1 : Int) ≤ t) = true := decide_eq_true h4
  have d5 : decide (t ≤ (16 : Int)) = true := decide_eq_true h5
  have d6 : decide ((1 : Int) ≤ s) = true := decide_eq_true h6
  have d7 : decide (s ≤ (64 : Int)) = true := decide_eq_true h7
  have d8 : decide ((0 : Int) ≤ o) = true := decide_eq_true h8
  have d9 : decide (o ≤ (3 : Int)) = true := decide_eq_true h9
  go_enter Try.func36, Try.ntmps36
  go_wp2_with fail
  go_ret
  exact ⟨rfl, (Below.refl _ _).alloc (Nat.le_refl _) _⟩
theorem rvalid_any (r b t s o : Int) (w : World) : Calls Try.prog 36 #[.agg #[.int .i64 r, .int .i64 b, .int .i64 t, .int .i64 s, .int .i64 o]] w (gPost (.bool (decide (Geo.GV r b t s o))) w) := by
  by_cases h0 : ¬ (0 ≤ r)
  · rw [decide_eq_false (show ¬ Geo.GV r b t s o by unfold Geo.GV; omega)]; exact rvalid_0 r b t s o w h0
  replace h0 := Decidable.not_not.1 h0
  by_cases h1 : ¬ (r ≤ 16384)
  · rw [decide_eq_false (show ¬ Geo.GV r b t s o by unfold Geo.GV; omega)]; exact rvalid_1 r b t s o w h0 h1
  replace h1 := Decidable.not_not.1 h1
  by_cases h2 : ¬ (1 ≤ b)
  · rw [decide_eq_false (show ¬ Geo.GV r b t s o by unfold Geo.GV; omega)]; exact rvalid_2 r b t s o w h0 h1 h2
  replace h2 := Decidable.not_not.1 h2
  by_cases h3 : ¬ (b ≤ 64)
  · rw [decide_eq_false (show ¬ Geo.GV r b t s o by unfold Geo.GV; omega)]; exact rvalid_3 r b t s o w h0 h1 h2 h3
  replace h3 := Decidable.not_not.1 h3
  by_cases h4 : ¬ (1 ≤ t)
  · rw [decide_eq_false (show ¬ Geo.GV r b t s o by unfold Geo.GV; omega)]; exact rvalid_4 r b t s o w h0 h1 h2 h3 h4
  replace h4 := Decidable.not_not.1 h4
  by_cases h5 : ¬ (t ≤ 16)
  · rw [decide_eq_false (show ¬ Geo.GV r b t s o by unfold Geo.GV; omega)]; exact rvalid_5 r b t s o w h0 h1 h2 h3 h4 h5
  replace h5 := Decidable.not_not.1 h5
  by_cases h6 : ¬ (1 ≤ s)
  · rw [decide_eq_false (show ¬ Geo.GV r b t s o by unfold Geo.GV; omega)]; exact rvalid_6 r b t s o w h0 h1 h2 h3 h4 h5 h6
  replace h6 := Decidable.not_not.1 h6
  by_cases h7 : ¬ (s ≤ 64)
  · rw [decide_eq_false (show ¬ Geo.GV r b t s o by unfold Geo.GV; omega)]; exact rvalid_7 r b t s o w h0 h1 h2 h3 h4 h5 h6 h7
  replace h7 := Decidable.not_not.1 h7
  by_cases h8 : ¬ (0 ≤ o)
  · rw [decide_eq_false (show ¬ Geo.GV r b t s o by unfold Geo.GV; omega)]; exact rvalid_8 r b t s o w h0 h1 h2 h3 h4 h5 h6 h7 h8
  replace h8 := Decidable.not_not.1 h8
  by_cases h9 : ¬ (o ≤ 3)
  · rw [decide_eq_false (show ¬ Geo.GV r b t s o by unfold Geo.GV; omega)]; exact rvalid_9 r b t s o w h0 h1 h2 h3 h4 h5 h6 h7 h8 h9
  replace h9 := Decidable.not_not.1 h9
  rw [decide_eq_true (show Geo.GV r b t s o by unfold Geo.GV; omega)]; exact rvalid_10 r b t s o w h0 h1 h2 h3 h4 h5 h6 h7 h8 h9
end Go.Proofs.Ytbaclcpnnompnaa
