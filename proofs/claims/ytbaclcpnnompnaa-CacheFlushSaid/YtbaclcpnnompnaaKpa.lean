/- The program's Valid, below, BandSize, Size. WRITTEN BY gen_Kpa.py. -/
import Derived.Test.YtbaclcpnnompnaaKh
namespace Go.Proofs.Ytbaclcpnnompnaa
open Go Go.RowKit
set_option linter.unusedVariables false
set_option linter.unusedSimpArgs false

set_option maxHeartbeats 1000000 in
set_option maxRecDepth 100000 in
theorem pvalid_0 (r b t s o : Int) (w : World)  (h0 : ¬ 0 ≤ r) : Calls Try.prog 52 #[.agg #[.int .i64 r, .int .i64 b, .int .i64 t, .int .i64 s, .int .i64 o]] w (gPost (.bool false) w) := by
  have d : decide ((0 : Int) ≤ r) = false := decide_eq_false h0
  go_enter Try.func52, Try.ntmps52
  go_wp2_with fail
  go_ret
  exact ⟨rfl, (Below.refl _ _).alloc (Nat.le_refl _) _⟩
set_option maxHeartbeats 1000000 in
set_option maxRecDepth 100000 in
theorem pvalid_1 (r b t s o : Int) (w : World) (h0 : 0 ≤ r) (h1 : ¬ r ≤ 16384) : Calls Try.prog 52 #[.agg #[.int .i64 r, .int .i64 b, .int .i64 t, .int .i64 s, .int .i64 o]] w (gPost (.bool false) w) := by
  have d : decide (r ≤ (16384 : Int)) = false := decide_eq_false h1
  have d0 : decide ((0 : Int) ≤ r) = true := decide_eq_true h0
  go_enter Try.func52, Try.ntmps52
  go_wp2_with fail
  go_ret
  exact ⟨rfl, (Below.refl _ _).alloc (Nat.le_refl _) _⟩
set_option maxHeartbeats 1000000 in
set_option maxRecDepth 100000 in
theorem pvalid_2 (r b t s o : Int) (w : World) (h0 : 0 ≤ r) (h1 : r ≤ 16384) (h2 : ¬ 1 ≤ b) : Calls Try.prog 52 #[.agg #[.int .i64 r, .int .i64 b, .int .i64 t, .int .i64 s, .int .i64 o]] w (gPost (.bool false) w) := by
  have d : decide ((1 : Int) ≤ b) = false := decide_eq_false h2
  have d0 : decide ((0 : Int) ≤ r) = true := decide_eq_true h0
  have d1 : decide (r ≤ (16384 : Int)) = true := decide_eq_true h1
  go_enter Try.func52, Try.ntmps52
  go_wp2_with fail
  go_ret
  exact ⟨rfl, (Below.refl _ _).alloc (Nat.le_refl _) _⟩
set_option maxHeartbeats 1000000 in
set_option maxRecDepth 100000 in
theorem pvalid_3 (r b t s o : Int) (w : World) (h0 : 0 ≤ r) (h1 : r ≤ 16384) (h2 : 1 ≤ b) (h3 : ¬ b ≤ 64) : Calls Try.prog 52 #[.agg #[.int .i64 r, .int .i64 b, .int .i64 t, .int .i64 s, .int .i64 o]] w (gPost (.bool false) w) := by
  have d : decide (b ≤ (64 : Int)) = false := decide_eq_false h3
  have d0 : decide ((0 : Int) ≤ r) = true := decide_eq_true h0
  have d1 : decide (r ≤ (16384 : Int)) = true := decide_eq_true h1
  have d2 : decide ((1 : Int) ≤ b) = true := decide_eq_true h2
  go_enter Try.func52, Try.ntmps52
  go_wp2_with fail
  go_ret
  exact ⟨rfl, (Below.refl _ _).alloc (Nat.le_refl _) _⟩
set_option maxHeartbeats 1000000 in
set_option maxRecDepth 100000 in
theorem pvalid_4 (r b t s o : Int) (w : World) (h0 : 0 ≤ r) (h1 : r ≤ 16384) (h2 : 1 ≤ b) (h3 : b ≤ 64) (h4 : ¬ 1 ≤ t) : Calls Try.prog 52 #[.agg #[.int .i64 r, .int .i64 b, .int .i64 t, .int .i64 s, .int .i64 o]] w (gPost (.bool false) w) := by
  have d : decide ((1 : Int) ≤ t) = false := decide_eq_false h4
  have d0 : decide ((0 : Int) ≤ r) = true := decide_eq_true h0
  have d1 : decide (r ≤ (16384 : Int)) = true := decide_eq_true h1
  have d2 : decide ((1 : Int) ≤ b) = true := decide_eq_true h2
  have d3 : decide (b ≤ (64 : Int)) = true := decide_eq_true h3
  go_enter Try.func52, Try.ntmps52
  go_wp2_with fail
  go_ret
  exact ⟨rfl, (Below.refl _ _).alloc (Nat.le_refl _) _⟩
set_option maxHeartbeats 1000000 in
set_option maxRecDepth 100000 in
theorem pvalid_5 (r b t s o : Int) (w : World) (h0 : 0 ≤ r) (h1 : r ≤ 16384) (h2 : 1 ≤ b) (h3 : b ≤ 64) (h4 : 1 ≤ t) (h5 : ¬ t ≤ 16) : Calls Try.prog 52 #[.agg #[.int .i64 r, .int .i64 b, .int .i64 t, .int .i64 s, .int .i64 o]] w (gPost (.bool false) w) := by
  have d : decide (t ≤ (16 : Int)) = false := decide_eq_false h5
  have d0 : decide ((0 : Int) ≤ r) = true := decide_eq_true h0
  have d1 : decide (r ≤ (16384 : Int)) = true := decide_eq_true h1
  have d2 : decide ((1 : Int) ≤ b) = true := decide_eq_true h2
  have d3 : decide (b ≤ (64 : Int)) = true := decide_eq_true h3
  have d4 : decide ((1 : Int) ≤ t) = true := decide_eq_true h4
  go_enter Try.func52, Try.ntmps52
  go_wp2_with fail
  go_ret
  exact ⟨rfl, (Below.refl _ _).alloc (Nat.le_refl _) _⟩
set_option maxHeartbeats 1000000 in
set_option maxRecDepth 100000 in
theorem pvalid_6 (r b t s o : Int) (w : World) (h0 : 0 ≤ r) (h1 : r ≤ 16384) (h2 : 1 ≤ b) (h3 : b ≤ 64) (h4 : 1 ≤ t) (h5 : t ≤ 16) (h6 : ¬ 1 ≤ s) : Calls Try.prog 52 #[.agg #[.int .i64 r, .int .i64 b, .int .i64 t, .int .i64 s, .int .i64 o]] w (gPost (.bool false) w) := by
  have d : decide ((1 : Int) ≤ s) = false := decide_eq_false h6
  have d0 : decide ((0 : Int) ≤ r) = true := decide_eq_true h0
  have d1 : decide (r ≤ (16384 : Int)) = true := decide_eq_true h1
  have d2 : decide ((1 : Int) ≤ b) = true := decide_eq_true h2
  have d3 : decide (b ≤ (64 : Int)) = true := decide_eq_true h3
  have d4 : decide ((1 : Int) ≤ t) = true := decide_eq_true h4
  have d5 : decide (t ≤ (16 : Int)) = true := decide_eq_true h5
  go_enter Try.func52, Try.ntmps52
  go_wp2_with fail
  go_ret
  exact ⟨rfl, (Below.refl _ _).alloc (Nat.le_refl _) _⟩
set_option maxHeartbeats 1000000 in
set_option maxRecDepth 100000 in
theorem pvalid_7 (r b t s o : Int) (w : World) (h0 : 0 ≤ r) (h1 : r ≤ 16384) (h2 : 1 ≤ b) (h3 : b ≤ 64) (h4 : 1 ≤ t) (h5 : t ≤ 16) (h6 : 1 ≤ s) (h7 : ¬ s ≤ 64) : Calls Try.prog 52 #[.agg #[.int .i64 r, .int .i64 b, .int .i64 t, .int .i64 s, .int .i64 o]] w (gPost (.bool false) w) := by
  have d : decide (s ≤ (64 : Int)) = false := decide_eq_false h7
  have d0 : decide ((0 : Int) ≤ r) = true := decide_eq_true h0
  have d1 : decide (r ≤ (16384 : Int)) = true := decide_eq_true h1
  have d2 : decide ((1 : Int) ≤ b) = true := decide_eq_true h2
  have d3 : decide (b ≤ (64 : Int)) = true := decide_eq_true h3
  have d4 : decide ((1 : Int) ≤ t) = true := decide_eq_true h4
  have d5 : decide (t ≤ (16 : Int)) = true := decide_eq_true h5
  have d6 : decide ((1 : Int) ≤ s) = true := decide_eq_true h6
  go_enter Try.func52, Try.ntmps52
  go_wp2_with fail
  go_ret
  exact ⟨rfl, (Below.refl _ _).alloc (Nat.le_refl _) _⟩
set_option maxHeartbeats 1000000 in
set_option maxRecDepth 100000 in
theorem pvalid_8 (r b t s o : Int) (w : World) (h0 : 0 ≤ r) (h1 : r ≤ 16384) (h2 : 1 ≤ b) (h3 : b ≤ 64) (h4 : 1 ≤ t) (h5 : t ≤ 16) (h6 : 1 ≤ s) (h7 : s ≤ 64) (h8 : ¬ 0 ≤ o) : Calls Try.prog 52 #[.agg #[.int .i64 r, .int .i64 b, .int .i64 t, .int .i64 s, .int .i64 o]] w (gPost (.bool false) w) := by
  have d : decide ((0 : Int) ≤ o) = false := decide_eq_false h8
  have d0 : decide ((0 : Int) ≤ r) = true := decide_eq_true h0
  have d1 : decide (r ≤ (16384 : Int)) = true := decide_eq_true h1
  have d2 : decide ((1 : Int) ≤ b) = true := decide_eq_true h2
  have d3 : decide (b ≤ (64 : Int)) = true := decide_eq_true h3
  have d4 : decide ((1 : Int) ≤ t) = true := decide_eq_true h4
  have d5 : decide (t ≤ (16 : Int)) = true := decide_eq_true h5
  have d6 : decide ((1 : Int) ≤ s) = true := decide_eq_true h6
  have d7 : decide (s ≤ (64 : Int)) = true := decide_eq_true h7
  go_enter Try.func52, Try.ntmps52
  go_wp2_with fail
  go_ret
  exact ⟨rfl, (Below.refl _ _).alloc (Nat.le_refl _) _⟩
set_option maxHeartbeats 1000000 in
set_option maxRecDepth 100000 in
theorem pvalid_9 (r b t s o : Int) (w : World) (h0 : 0 ≤ r) (h1 : r ≤ 16384) (h2 : 1 ≤ b) (h3 : b ≤ 64) (h4 : 1 ≤ t) (h5 : t ≤ 16) (h6 : 1 ≤ s) (h7 : s ≤ 64) (h8 : 0 ≤ o) (h9 : ¬ o ≤ 3) : Calls Try.prog 52 #[.agg #[.int .i64 r, .int .i64 b, .int .i64 t, .int .i64 s, .int .i64 o]] w (gPost (.bool false) w) := by
  have d : decide (o ≤ (3 : Int)) = false := decide_eq_false h9
  have d0 : decide ((0 : Int) ≤ r) = true := decide_eq_true h0
  have d1 : decide (r ≤ (16384 : Int)) = true := decide_eq_true h1
  have d2 : decide ((1 : Int) ≤ b) = true := decide_eq_true h2
  have d3 : decide (b ≤ (64 : Int)) = true := decide_eq_true h3
  have d4 : decide ((1 : Int) ≤ t) = true := decide_eq_true h4
  have d5 : decide (t ≤ (16 : Int)) = true := decide_eq_true h5
  have d6 : decide ((1 : Int) ≤ s) = true := decide_eq_true h6
  have d7 : decide (s ≤ (64 : Int)) = true := decide_eq_true h7
  have d8 : decide ((0 : Int) ≤ o) = true := decide_eq_true h8
  go_enter Try.func52, Try.ntmps52
  go_wp2_with fail
  go_ret
  exact ⟨rfl, (Below.refl _ _).alloc (Nat.le_refl _) _⟩
set_option maxHeartbeats 1000000 in
set_option maxRecDepth 100000 in
theorem pvalid_10 (r b t s o : Int) (w : World) (h0 : 0 ≤ r) (h1 : r ≤ 16384) (h2 : 1 ≤ b) (h3 : b ≤ 64) (h4 : 1 ≤ t) (h5 : t ≤ 16) (h6 : 1 ≤ s) (h7 : s ≤ 64) (h8 : 0 ≤ o) (h9 : o ≤ 3) : Calls Try.prog 52 #[.agg #[.int .i64 r, .int .i64 b, .int .i64 t, .int .i64 s, .int .i64 o]] w (gPost (.bool true) w) := by
  have d0 : decide ((0 : Int) ≤ r) = true := decide_eq_true h0
  have d1 : decide (r ≤ (16384 : Int)) = true := decide_eq_true h1
  have d2 : decide ((1 : Int) ≤ b) = true := decide_eq_true h2
  have d3 : decide (b ≤ (64 : Int)) = true := decide_eq_true h3
  have d4 : decide ((1 : Int) ≤ t) = true := decide_eq_true h4
  have d5 : decide (t ≤ (16 : Int)) = true := decide_eq_true h5
  have d6 : decide ((1 : Int) ≤ s) = true := decide_eq_true h6
  have d7 : decide (s ≤ (64 : Int)) = true := decide_eq_true h7
  have d8 : decide ((0 : Int) ≤ o) = true := decide_eq_true h8
  have d9 : decide (o ≤ (3 : Int)) = true := decide_eq_true h9
  go_enter Try.func52, Try.ntmps52
  go_wp2_with fail
  go_ret
  exact ⟨rfl, (Below.refl _ _).alloc (Nat.le_refl _) _⟩
theorem pvalid_any (r b t s o : Int) (w : World) : Calls Try.prog 52 #[.agg #[.int .i64 r, .int .i64 b, .int .i64 t, .int .i64 s, .int .i64 o]] w (gPost (.bool (decide (Geo.GV r b t s o))) w) := by
  by_cases h0 : ¬ (0 ≤ r)
  · rw [decide_eq_false (show ¬ Geo.GV r b t s o by unfold Geo.GV; omega)]; exact pvalid_0 r b t s o w h0
  replace h0 := Decidable.not_not.1 h0
  by_cases h1 : ¬ (r ≤ 16384)
  · rw [decide_eq_false (show ¬ Geo.GV r b t s o by unfold Geo.GV; omega)]; exact pvalid_1 r b t s o w h0 h1
  replace h1 := Decidable.not_not.1 h1
  by_cases h2 : ¬ (1 ≤ b)
  · rw [decide_eq_false (show ¬ Geo.GV r b t s o by unfold Geo.GV; omega)]; exact pvalid_2 r b t s o w h0 h1 h2
  replace h2 := Decidable.not_not.1 h2
  by_cases h3 : ¬ (b ≤ 64)
  · rw [decide_eq_false (show ¬ Geo.GV r b t s o by unfold Geo.GV; omega)]; exact pvalid_3 r b t s o w h0 h1 h2 h3
  replace h3 := Decidable.not_not.1 h3
  by_cases h4 : ¬ (1 ≤ t)
  · rw [decide_eq_false (show ¬ Geo.GV r b t s o by unfold Geo.GV; omega)]; exact pvalid_4 r b t s o w h0 h1 h2 h3 h4
  replace h4 := Decidable.not_not.1 h4
  by_cases h5 : ¬ (t ≤ 16)
  · rw [decide_eq_false (show ¬ Geo.GV r b t s o by unfold Geo.GV; omega)]; exact pvalid_5 r b t s o w h0 h1 h2 h3 h4 h5
  replace h5 := Decidable.not_not.1 h5
  by_cases h6 : ¬ (1 ≤ s)
  · rw [decide_eq_false (show ¬ Geo.GV r b t s o by unfold Geo.GV; omega)]; exact pvalid_6 r b t s o w h0 h1 h2 h3 h4 h5 h6
  replace h6 := Decidable.not_not.1 h6
  by_cases h7 : ¬ (s ≤ 64)
  · rw [decide_eq_false (show ¬ Geo.GV r b t s o by unfold Geo.GV; omega)]; exact pvalid_7 r b t s o w h0 h1 h2 h3 h4 h5 h6 h7
  replace h7 := Decidable.not_not.1 h7
  by_cases h8 : ¬ (0 ≤ o)
  · rw [decide_eq_false (show ¬ Geo.GV r b t s o by unfold Geo.GV; omega)]; exact pvalid_8 r b t s o w h0 h1 h2 h3 h4 h5 h6 h7 h8
  replace h8 := Decidable.not_not.1 h8
  by_cases h9 : ¬ (o ≤ 3)
  · rw [decide_eq_false (show ¬ Geo.GV r b t s o by unfold Geo.GV; omega)]; exact pvalid_9 r b t s o w h0 h1 h2 h3 h4 h5 h6 h7 h8 h9
  replace h9 := Decidable.not_not.1 h9
  rw [decide_eq_true (show Geo.GV r b t s o by unfold Geo.GV; omega)]; exact pvalid_10 r b t s o w h0 h1 h2 h3 h4 h5 h6 h7 h8 h9

set_option maxHeartbeats 4000000 in
set_option maxRecDepth 100000 in
theorem below_any (n l : Int) (w : World) : Calls Try.prog 65 #[.int .i64 n, .int .i64 l] w (gPost (.bool (decide (0 ≤ n ∧ n < l))) w) := by
  by_cases h0 : 0 ≤ n
  · have d0 : decide ((0 : Int) ≤ n) = true := decide_eq_true h0
    by_cases h1 : n < l
    · have d1 : decide (n < l) = true := decide_eq_true h1
      rw [decide_eq_true (show 0 ≤ n ∧ n < l from ⟨h0, h1⟩)]
      go_enter Try.func65, Try.ntmps65
      go_wp2_with fail
      go_ret
      exact ⟨rfl, Below.refl _ _⟩
    · have d1 : decide (n < l) = false := decide_eq_false h1
      rw [decide_eq_false (show ¬ (0 ≤ n ∧ n < l) from fun h => h1 h.2)]
      go_enter Try.func65, Try.ntmps65
      go_wp2_with fail
      go_ret
      exact ⟨rfl, Below.refl _ _⟩
  · have d0 : decide ((0 : Int) ≤ n) = false := decide_eq_false h0
    rw [decide_eq_false (show ¬ (0 ≤ n ∧ n < l) from fun h => h0 h.1)]
    go_enter Try.func65, Try.ntmps65
    go_wp2_with fail
    go_ret
    exact ⟨rfl, Below.refl _ _⟩

set_option maxHeartbeats 4000000 in
set_option maxRecDepth 100000 in
theorem pband_any (r b t s o : Int) (w : World) : Calls Try.prog 55 #[.agg #[.int .i64 r, .int .i64 b, .int .i64 t, .int .i64 s, .int .i64 o]] w (gPost (.int .i64 (Geo.band r b t s o)) w) := by
  have E := Lib.hid (show Geo.band r b t s o = if Geo.GV r b t s o then t * s else 0 from rfl)
  generalize Geo.band r b t s o = q at E ⊢
  obtain ⟨B0, hB0⟩ : ∃ B, w.heap.size = B := ⟨_, rfl⟩
  obtain ⟨W0, hW0⟩ : ∃ W, w.alloc (.cells #[.int .i64 r, .int .i64 b, .int .i64 t, .int .i64 s, .int .i64 o] 23) = W := ⟨_, rfl⟩
  have BW : Hid (Below w.heap.size w W0) := Lib.hid (by subst hW0; exact (Below.refl _ _).alloc (Nat.le_refl _) _)
  have R0 : Hid (Row W0 B0 23 #[.int .i64 r, .int .i64 b, .int .i64 t, .int .i64 s, .int .i64 o]) := Lib.hid (by subst hW0; exact gr_new w _ _ hB0)
  have c0 := R0.out.cell 0
  have c1 := R0.out.cell 1
  have c2 := R0.out.cell 2
  have c3 := R0.out.cell 3
  have c4 := R0.out.cell 4
  simp only [List.getElem?_toArray, List.getElem?_cons_zero, List.getElem?_cons_succ] at c0 c1 c2 c3 c4
  have HB0 := Lib.hid hB0
  have HW0 := Lib.hid hW0
  clear hB0 hW0
  go_enter Try.func55, Try.ntmps55
  go_wp2_with (first | rw [HB0.out] | rw [HW0.out])
  refine (pvalid_any r b t s o W0).mono ?_
  rintro e w1 ⟨rfl, hb⟩
  replace c0 := ce_fw c0 hb
  replace c1 := ce_fw c1 hb
  replace c2 := ce_fw c2 hb
  replace c3 := ce_fw c3 hb
  replace c4 := ce_fw c4 hb
  have B1 := Lib.hid (BW.out.trans (hb.mono BW.out.size))
  clear hb
  by_cases h : Geo.GV r b t s o
  · rw [decide_eq_true h]
    rw [if_pos h] at E
    unfold Geo.GV at h
    have hm := gm (t := t) (s := s) (a := 16) (c := 64) (by omega) (by omega) (by omega) (by omega)
    have e := E.out
    rw [← e] at hm
    have W := gw (x := t * s) (by rw [← e]; omega) (by rw [← e]; omega)
    rw [← e] at W
    go_wp2_with fail
    go_ret
    exact ⟨by rw [e]; try rw [← e]; first | rfl | (rw [W]) , B1.out⟩
  · rw [decide_eq_false h]
    rw [if_neg h] at E
    have e := E.out
    go_wp2_with fail
    go_ret
    exact ⟨by rw [e]; rfl, B1.out⟩

set_option maxHeartbeats 4000000 in
set_option maxRecDepth 100000 in
theorem psize_any (r b t s o : Int) (w : World) : Calls Try.prog 53 #[.agg #[.int .i64 r, .int .i64 b, .int .i64 t, .int .i64 s, .int .i64 o]] w (gPost (.int .i64 (Geo.size r b t s o)) w) := by
  obtain ⟨q, hq⟩ : ∃ q, Geo.size r b t s o = q := ⟨_, rfl⟩
  have E := Lib.hid hq
  rw [hq]
  clear hq
  obtain ⟨B0, hB0⟩ : ∃ B, w.heap.size = B := ⟨_, rfl⟩
  obtain ⟨W0, hW0⟩ : ∃ W, w.alloc (.cells #[.int .i64 r, .int .i64 b, .int .i64 t, .int .i64 s, .int .i64 o] 23) = W := ⟨_, rfl⟩
  have BW : Hid (Below w.heap.size w W0) := Lib.hid (by subst hW0; exact (Below.refl _ _).alloc (Nat.le_refl _) _)
  have R0 : Hid (Row W0 B0 23 #[.int .i64 r, .int .i64 b, .int .i64 t, .int .i64 s, .int .i64 o]) := Lib.hid (by subst hW0; exact gr_new w _ _ hB0)
  have c0 := R0.out.cell 0
  have c1 := R0.out.cell 1
  have c2 := R0.out.cell 2
  have c3 := R0.out.cell 3
  have c4 := R0.out.cell 4
  simp only [List.getElem?_toArray, List.getElem?_cons_zero, List.getElem?_cons_succ] at c0 c1 c2 c3 c4
  have HB0 := Lib.hid hB0
  have HW0 := Lib.hid hW0
  clear hB0 hW0
  go_enter Try.func53, Try.ntmps53
  go_wp2_with (first | rw [HB0.out] | rw [HW0.out])
  refine (pvalid_any r b t s o W0).mono ?_
  rintro e w1 ⟨rfl, hb⟩
  replace c0 := ce_fw c0 hb
  replace c1 := ce_fw c1 hb
  replace c2 := ce_fw c2 hb
  replace c3 := ce_fw c3 hb
  replace c4 := ce_fw c4 hb
  have B1 := Lib.hid (BW.out.trans (hb.mono BW.out.size))
  have R1 := Lib.hid (rw_fw R0.out hb)
  clear hb
  by_cases h : Geo.GV r b t s o
  · rw [decide_eq_true h]
    obtain ⟨m, hm⟩ : ∃ m, t * s = m := ⟨_, rfl⟩
    have EB := Lib.hid (show Geo.band r b t s o = m by rw [← hm]; exact if_pos h)
    have e := E.out
    rw [show Geo.size r b t s o = r + b * (t * s) from if_pos h, hm] at e
    have h' := h
    unfold Geo.GV at h'
    have b1 := gm (t := t) (s := s) (a := 16) (c := 64) (by omega) (by omega) (by omega) (by omega)
    rw [hm] at b1
    have b2 := gm (t := b) (s := m) (a := 64) (c := 1024) (by omega) (by omega) (by omega) (by omega)
    have w1' := gw (x := b * m) (by omega) (by omega)
    have w2' := gw (x := r + b * m) (by omega) (by omega)
    obtain ⟨p, hp⟩ : ∃ p, b * m = p := ⟨_, rfl⟩
    rw [hp] at w1' w2' e
    rw [e] at w2'
    have k1 : IntKind.i64.wrap p = p := by rw [IntKind.wrap_i64]; rw [hp] at b2; omega
    have k2 : IntKind.i64.wrap (r + p) = q := by rw [e, IntKind.wrap_i64]; rw [hp] at b2; omega
    have C0 := Lib.hid c0
    have C1 := Lib.hid c1
    clear h h' b1 b2 hm e E
    go_wp2_with fail
    clear c0 c1 c2 c3 c4

    refine wp_region_held (P := Try.prog) (S := (fun w' : World => Below w1.heap.size w1 w')) rfl ?_
    change wpAnyH _ _ _ _ _ _ _ _ w1.drew
    have hz2 : Below w1.heap.size w1 w1.drew := (Below.refl w1.heap.size w1).drew
    generalize w1.drew = wz1 at hz2 ⊢
    have R_3 := Lib.hid (rw_fw R1.out (hz2))
    have C0_4 := Lib.hid (ce_fw C0.out (hz2))
    have C1_5 := Lib.hid (ce_fw C1.out (hz2))
    have hl6 := hz2
    have HT_7 : Hid (Below w1.heap.size w1 wz1) := Lib.hid (hl6)
    refine wpAnyH_up (S' := (fun w' : World => Below wz1.heap.size wz1 w')) (fun w' h => hz2.trans (h.mono hz2.size)) ?_
    have hS8 : (fun w' : World => Below wz1.heap.size wz1 w') wz1 := Below.refl _ _
    refine takeD (i := 0) (v := .pointer (some ⟨B0, 0, none⟩)) (some 6) rfl rfl (by kernel_rfl) (by kernel_rfl) (by kernel_rfl) (fun _ _ _ h => h) (Or.inl ⟨by rfl, by rintro w' -; go_simp⟩) hS8 ?_
    simp only [Act.put, List.setIfInBounds_toArray, List.set_cons_zero, List.set_cons_succ]
    refine takeD (i := 1) (v := .int .i64 r) (some 7) rfl rfl (by kernel_rfl) (by kernel_rfl) (by kernel_rfl) (fun _ _ _ h => h) (Or.inl ⟨by rfl, by rintro w' h; have hc := ce_fw C0_4.out h; go_simp⟩) hS8 ?_
    simp only [Act.put, List.setIfInBounds_toArray, List.set_cons_zero, List.set_cons_succ]
    refine takeD (i := 2) (v := .pointer (some ⟨B0, 1, none⟩)) (some 8) rfl rfl (by kernel_rfl) (by kernel_rfl) (by kernel_rfl) (fun _ _ _ h => h) (Or.inl ⟨by rfl, by rintro w' -; go_simp⟩) hS8 ?_
    simp only [Act.put, List.setIfInBounds_toArray, List.set_cons_zero, List.set_cons_succ]
    refine takeD (i := 3) (v := .int .i64 b) (some 9) rfl rfl (by kernel_rfl) (by kernel_rfl) (by kernel_rfl) (fun _ _ _ h => h) (Or.inl ⟨by rfl, by rintro w' h; have hc := ce_fw C1_5.out h; go_simp⟩) hS8 ?_
    simp only [Act.put, List.setIfInBounds_toArray, List.set_cons_zero, List.set_cons_succ]
    refine takeD (i := 4) (v := .agg #[.int .i64 r, .int .i64 b, .int .i64 t, .int .i64 s, .int .i64 o]) (some 10) rfl rfl (by kernel_rfl) (by kernel_rfl) (by kernel_rfl) (fun _ _ _ h => h) (yieldsIf_load_mid (by rfl) _ _ rfl B0 0 rfl (#[.int .i64 r, .int .i64 b, .int .i64 t, .int .i64 s, .int .i64 o]).toList _ (fun w' h => gr_rng (rw_fw R_3.out h)) Try.underlying23 rfl (by kernel_rfl)) hS8 ?_
    simp only [Act.put, List.setIfInBounds_toArray, List.set_cons_zero, List.set_cons_succ]
    refine wpAnyH_ready (rs := [5]) (by kernel_rfl) (by simp) ?_
    refine AllReadyH.cons rfl (fun K9 hK9 => ?_) AllReadyH.nil
    have HK9 := Lib.hid hK9
    clear hK9
    rw [if_pos (by rfl)]
    go_simp
    refine (pband_any r b t s o _).mono ?_
    rintro e x10 ⟨rfl, hb11⟩
    have R_12 := Lib.hid (rw_fw R_3.out (hb11))
    have C0_13 := Lib.hid (ce_fw C0_4.out (hb11))
    have C1_14 := Lib.hid (ce_fw C1_5.out (hb11))
    have hl15 := hb11
    have HT_16 : Hid (Below w1.heap.size w1 x10) := Lib.hid (HT_7.out.trans ((hl15).mono HT_7.out.size))
    clear hb11 
    rw [EB.out]
    have hb18 : Below wz1.heap.size wz1 x10 := hl15
    have hS17 : (fun w' : World => Below wz1.heap.size wz1 w') x10 := hb18
    refine HK9.out _ _ hS17 fun _ => ?_
    try simp only [Act.put, List.setIfInBounds_toArray, List.set_cons_zero, List.set_cons_succ]
    refine wpAnyH_up (S' := (fun w' : World => Below x10.heap.size x10 w')) (fun w' h => hb18.trans (h.mono hb18.size)) ?_
    have hS19 : (fun w' : World => Below x10.heap.size x10 w') x10 := Below.refl _ _
    refine takeD (i := 6) (v := .int .i64 p) (some 12) rfl rfl (by kernel_rfl) (by kernel_rfl) (by kernel_rfl) (fun _ _ _ h => h) (Or.inl ⟨by rfl, by rintro w' -; go_simp⟩) hS19 ?_
    simp only [Act.put, List.setIfInBounds_toArray, List.set_cons_zero, List.set_cons_succ]
    refine takeD (i := 7) (v := .int .i64 q) (some 13) rfl rfl (by kernel_rfl) (by kernel_rfl) (by kernel_rfl) (fun _ _ _ h => h) (Or.inl ⟨by rfl, by rintro w' -; go_simp⟩) hS19 ?_
    simp only [Act.put, List.setIfInBounds_toArray, List.set_cons_zero, List.set_cons_succ]
    refine takeD (i := 8) (v := .int .i64 q) (some 2) rfl rfl (by kernel_rfl) (by kernel_rfl) (by kernel_rfl) (fun _ _ _ h => h) (Or.inl ⟨by rfl, by rintro w' -; go_simp⟩) hS19 ?_
    simp only [Act.put, List.setIfInBounds_toArray, List.set_cons_zero, List.set_cons_succ]
    refine wpAnyH_done (by kernel_rfl) ?_ _
    go_wp2_with fail
    go_ret
    exact ⟨rfl, B1.out.trans (HT_16.out.mono B1.out.size)⟩
  · rw [decide_eq_false h]
    have e := E.out
    rw [show Geo.size r b t s o = 0 from if_neg h] at e
    subst e
    clear h E
    go_wp2_with fail
    go_ret
    exact ⟨rfl, B1.out⟩
end Go.Proofs.Ytbaclcpnnompnaa
