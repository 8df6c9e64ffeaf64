/- Law walk: DesignChoose. WRITTEN BY gen_Zf.py. -/
import Derived.Test.YtnnacofjogfkeaaDoorZa
import Derived.Test.YtnnacofjogfkeaaDoorWa
namespace Go.Proofs.YtnnacofjogfkeaaDoor
open Go Go.RowKit Pl Co
set_option linter.unusedVariables false
set_option linter.unusedSimpArgs false

theorem chain_21_5 (f : Nat → Nat) (h0 : f 0 = 1) (h : ∀ k, f (k + 1) * (k + 1) = f k * (21 - k)) : 4096 < f 5 := by
  have h1 := h 0
  have h2 := h 1
  have h3 := h 2
  have h4 := h 3
  have h5 := h 4
  simp only [Nat.reduceAdd, Nat.reduceSub] at h1 h2 h3 h4 h5
  omega
theorem chain_31_6 (f : Nat → Nat) (h0 : f 0 = 1) (h : ∀ k, f (k + 1) * (k + 1) = f k * (31 - k)) : 4096 < f 6 := by
  have h1 := h 0
  have h2 := h 1
  have h3 := h 2
  have h4 := h 3
  have h5 := h 4
  have h6 := h 5
  simp only [Nat.reduceAdd, Nat.reduceSub] at h1 h2 h3 h4 h5 h6
  omega
theorem chain_57_8 (f : Nat → Nat) (h0 : f 0 = 1) (h : ∀ k, f (k + 1) * (k + 1) = f k * (57 - k)) : 4096 < f 8 := by
  have h1 := h 0
  have h2 := h 1
  have h3 := h 2
  have h4 := h 3
  have h5 := h 4
  have h6 := h 5
  have h7 := h 6
  have h8 := h 7
  simp only [Nat.reduceAdd, Nat.reduceSub] at h1 h2 h3 h4 h5 h6 h7 h8
  omega
theorem chain_25_5 (f : Nat → Nat) (h0 : f 0 = 1) (h : ∀ k, f (k + 1) * (k + 1) = f k * (25 - k)) : 4096 < f 5 := by
  have h1 := h 0
  have h2 := h 1
  have h3 := h 2
  have h4 := h 3
  have h5 := h 4
  simp only [Nat.reduceAdd, Nat.reduceSub] at h1 h2 h3 h4 h5
  omega
theorem chain_49_7 (f : Nat → Nat) (h0 : f 0 = 1) (h : ∀ k, f (k + 1) * (k + 1) = f k * (49 - k)) : 4096 < f 7 := by
  have h1 := h 0
  have h2 := h 1
  have h3 := h 2
  have h4 := h 3
  have h5 := h 4
  have h6 := h 5
  have h7 := h 6
  simp only [Nat.reduceAdd, Nat.reduceSub] at h1 h2 h3 h4 h5 h6 h7
  omega
theorem big_plane : ∀ j, j < 7 → j ≠ 0 → j ≠ 4 → 4096 < ch (dT j) (kT j) := by
  intro j hj h0 h4
  rcases (by omega : j = 1 ∨ j = 2 ∨ j = 3 ∨ j = 5 ∨ j = 6) with rfl | rfl | rfl | rfl | rfl
  · exact chain_21_5 (ch 21) (ch_0 21) (ch_step 21)
  · exact chain_31_6 (ch 31) (ch_0 31) (ch_step 31)
  · exact chain_57_8 (ch 57) (ch_0 57) (ch_step 57)
  · exact chain_25_5 (ch 25) (ch_0 25) (ch_step 25)
  · exact chain_49_7 (ch 49) (ch_0 49) (ch_step 49)
theorem mid_none {d k : Nat} (h : 1000 < ch d k) (h2 : ch d k ≤ 4096) (hne : ¬ (d = 16 ∧ k = 4)) : ∀ j, j < 7 → ¬ (dT j = d ∧ kT j = k) := by
  rintro j hj ⟨rfl, rfl⟩
  by_cases h0 : j = 0
  · subst h0
    exact absurd h (by decide)
  by_cases h4 : j = 4
  · subst h4
    exact hne ⟨rfl, rfl⟩
  · have := big_plane j hj h0 h4
    omega
theorem gs_nil (w : World) : Gs w (.slice none 0 0) [] := Sl.nil_ w

set_option maxHeartbeats 4000000 in
set_option maxRecDepth 100000 in
theorem chlaw_a0 (d k : Int) (w : World) (hK : Kd w) (hP : Pd w) (h1 : d < 2) : Calls Tryd.prog 5 #[.int .i64 d, .int .i64 k] w (lawPost w) := by
  have AW := Lib.hid (awake7 w hK hP)
  have HK0 := Lib.hid fun W (hb : Below w.heap.size w W) => hK.below hb
  have HP0 := Lib.hid fun W (hb : Below w.heap.size w W) => hP.below hb
  have CO := Lib.hid fun W (_ : Kd W) (_ : Pd W) => dcho_arg d k W (by omega)
  have RC := Lib.hid fun W => rch_arg d k W (by omega)
  have q1 : ¬ (2 : Int) ≤ d := by omega
  clear hK hP h1
  go_enter Tryd.func5, Tryd.ntmps5
  go_wp2_with fail
  refine AW.out.mono ?_
  rintro e x2 ⟨rfl, hb1⟩
  have hq3 : Below w.heap.size w x2 := hb1
  have HB_4 : Hid (Below w.heap.size w x2) := Lib.hid (hq3)
  clear hq3
  clear hb1
  go_wp2_with fail
  refine (CO.out _ (HK0.out _ HB_4.out) (HP0.out _ HB_4.out)).mono ?_
  rintro e x6 ⟨rfl, hb5⟩
  have hq8 : Below x2.heap.size x2 x6 := hb5
  have HB_9 : Hid (Below w.heap.size w x6) := Lib.hid (HB_4.out.trans (hq8.mono HB_4.out.size))
  clear hq8
  have hba : Below x6.heap.size x6 (x6.alloc (.cells #[.int .i64 0, .slice none 0 0] 25)) := (Below.refl _ _).alloc (Nat.le_refl _) _
  have RW := Lib.hid (row_new' x6 #[.int .i64 0, .slice none 0 0] 25)
  clear hb5 CO
  go_wp2_with fail
  obtain ⟨D, hD⟩ : ∃ D, x6.heap.size = D := ⟨_, rfl⟩
  rw [hD] at RW ⊢
  obtain ⟨y1, hy⟩ : ∃ y, (x6.alloc (.cells #[.int .i64 0, .slice none 0 0] 25)) = y := ⟨_, rfl⟩
  rw [hy] at RW hba ⊢
  have hq10 : Below x6.heap.size x6 y1 := hba
  have HB_11 : Hid (Below w.heap.size w y1) := Lib.hid (HB_9.out.trans (hq10.mono HB_9.out.size))
  clear hq10
  clear hy hba hD
  have d0 := (show _ = some _ from RW.out.cell 0)
  have d1 := (show _ = some _ from RW.out.cell 1)
  go_wp2_with fail
  clear d0 d1
  refine (RC.out _).mono ?_
  rintro e x13 ⟨rfl, hb12⟩
  have hq15 : Below y1.heap.size y1 x13 := hb12
  have R_16 := Lib.hid (Row.go RW.out hq15)
  have HB_17 : Hid (Below w.heap.size w x13) := Lib.hid (HB_11.out.trans (hq15.mono HB_11.out.size))
  clear hq15
  unfold dv
  have hba : Below x13.heap.size x13 (x13.alloc (.cells #[.int .i64 0, .slice none 0 0] 25)) := (Below.refl _ _).alloc (Nat.le_refl _) _
  obtain ⟨y18, hy⟩ : ∃ y, (x13.alloc (.cells #[.int .i64 0, .slice none 0 0] 25)) = y := ⟨_, rfl⟩
  have HY := Lib.hid hy
  rw [hy] at hba
  clear hy
  have hq19 : Below x13.heap.size x13 y18 := hba
  have R_20 := Lib.hid (Row.go R_16.out hq19)
  have HB_21 : Hid (Below w.heap.size w y18) := Lib.hid (HB_17.out.trans (hq19.mono HB_17.out.size))
  clear hq19
  clear hba hb12
  have d0 := (show _ = some _ from R_20.out.cell 0)
  have d1 := (show _ = some _ from R_20.out.cell 1)
  rw [← HY.out] at d0 d1
  have S1 : Hid (Calls Tryd.prog 13 #[.agg #[.int .i64 0, .slice none 0 0], .agg #[.int .i64 0, .slice none 0 0]] y18 (bel (.bool true) y18)) := Lib.hid (same_any 0 [] _ _ y18 (gs_nil _) (gs_nil _))
  go_wp2_with fail
  rw [HY.out]
  refine S1.out.mono ?_
  rintro e x23 ⟨rfl, hb22⟩
  have hq24 : Below y18.heap.size y18 x23 := hb22
  have R_25 := Lib.hid (Row.go R_20.out hq24)
  have HB_26 : Hid (Below w.heap.size w x23) := Lib.hid (HB_21.out.trans (hq24.mono HB_21.out.size))
  clear hq24
  clear hb22 d0 d1
  go_wp2_with fail
  go_ret
  exact ⟨rfl, HB_26.out⟩
set_option maxHeartbeats 4000000 in
set_option maxRecDepth 100000 in
theorem chlaw_a1 (d k : Int) (w : World) (hK : Kd w) (hP : Pd w) (h1 : ¬ d < 2) (h2 : 60 < d) : Calls Tryd.prog 5 #[.int .i64 d, .int .i64 k] w (lawPost w) := by
  have AW := Lib.hid (awake7 w hK hP)
  have HK0 := Lib.hid fun W (hb : Below w.heap.size w W) => hK.below hb
  have HP0 := Lib.hid fun W (hb : Below w.heap.size w W) => hP.below hb
  have CO := Lib.hid fun W (_ : Kd W) (_ : Pd W) => dcho_arg d k W (by omega)
  have RC := Lib.hid fun W => rch_arg d k W (by omega)
  have q1 : (2 : Int) ≤ d := by omega
  have q2 : ¬ d ≤ 60 := by omega
  clear hK hP h1 h2
  go_enter Tryd.func5, Tryd.ntmps5
  go_wp2_with fail
  refine AW.out.mono ?_
  rintro e x2 ⟨rfl, hb1⟩
  have hq3 : Below w.heap.size w x2 := hb1
  have HB_4 : Hid (Below w.heap.size w x2) := Lib.hid (hq3)
  clear hq3
  clear hb1
  go_wp2_with fail
  refine (CO.out _ (HK0.out _ HB_4.out) (HP0.out _ HB_4.out)).mono ?_
  rintro e x6 ⟨rfl, hb5⟩
  have hq8 : Below x2.heap.size x2 x6 := hb5
  have HB_9 : Hid (Below w.heap.size w x6) := Lib.hid (HB_4.out.trans (hq8.mono HB_4.out.size))
  clear hq8
  have hba : Below x6.heap.size x6 (x6.alloc (.cells #[.int .i64 0, .slice none 0 0] 25)) := (Below.refl _ _).alloc (Nat.le_refl _) _
  have RW := Lib.hid (row_new' x6 #[.int .i64 0, .slice none 0 0] 25)
  clear hb5 CO
  go_wp2_with fail
  obtain ⟨D, hD⟩ : ∃ D, x6.heap.size = D := ⟨_, rfl⟩
  rw [hD] at RW ⊢
  obtain ⟨y1, hy⟩ : ∃ y, (x6.alloc (.cells #[.int .i64 0, .slice none 0 0] 25)) = y := ⟨_, rfl⟩
  rw [hy] at RW hba ⊢
  have hq10 : Below x6.heap.size x6 y1 := hba
  have HB_11 : Hid (Below w.heap.size w y1) := Lib.hid (HB_9.out.trans (hq10.mono HB_9.out.size))
  clear hq10
  clear hy hba hD
  have d0 := (show _ = some _ from RW.out.cell 0)
  have d1 := (show _ = some _ from RW.out.cell 1)
  go_wp2_with fail
  clear d0 d1
  refine (RC.out _).mono ?_
  rintro e x13 ⟨rfl, hb12⟩
  have hq15 : Below y1.heap.size y1 x13 := hb12
  have R_16 := Lib.hid (Row.go RW.out hq15)
  have HB_17 : Hid (Below w.heap.size w x13) := Lib.hid (HB_11.out.trans (hq15.mono HB_11.out.size))
  clear hq15
  unfold dv
  have hba : Below x13.heap.size x13 (x13.alloc (.cells #[.int .i64 0, .slice none 0 0] 25)) := (Below.refl _ _).alloc (Nat.le_refl _) _
  obtain ⟨y18, hy⟩ : ∃ y, (x13.alloc (.cells #[.int .i64 0, .slice none 0 0] 25)) = y := ⟨_, rfl⟩
  have HY := Lib.hid hy
  rw [hy] at hba
  clear hy
  have hq19 : Below x13.heap.size x13 y18 := hba
  have R_20 := Lib.hid (Row.go R_16.out hq19)
  have HB_21 : Hid (Below w.heap.size w y18) := Lib.hid (HB_17.out.trans (hq19.mono HB_17.out.size))
  clear hq19
  clear hba hb12
  have d0 := (show _ = some _ from R_20.out.cell 0)
  have d1 := (show _ = some _ from R_20.out.cell 1)
  rw [← HY.out] at d0 d1
  have S1 : Hid (Calls Tryd.prog 13 #[.agg #[.int .i64 0, .slice none 0 0], .agg #[.int .i64 0, .slice none 0 0]] y18 (bel (.bool true) y18)) := Lib.hid (same_any 0 [] _ _ y18 (gs_nil _) (gs_nil _))
  go_wp2_with fail
  rw [HY.out]
  refine S1.out.mono ?_
  rintro e x23 ⟨rfl, hb22⟩
  have hq24 : Below y18.heap.size y18 x23 := hb22
  have R_25 := Lib.hid (Row.go R_20.out hq24)
  have HB_26 : Hid (Below w.heap.size w x23) := Lib.hid (HB_21.out.trans (hq24.mono HB_21.out.size))
  clear hq24
  clear hb22 d0 d1
  go_wp2_with fail
  go_ret
  exact ⟨rfl, HB_26.out⟩
set_option maxHeartbeats 4000000 in
set_option maxRecDepth 100000 in
theorem chlaw_a2 (d k : Int) (w : World) (hK : Kd w) (hP : Pd w) (h1 : ¬ d < 2) (h2 : ¬ 60 < d) (h3 : k < 2) : Calls Tryd.prog 5 #[.int .i64 d, .int .i64 k] w (lawPost w) := by
  have AW := Lib.hid (awake7 w hK hP)
  have HK0 := Lib.hid fun W (hb : Below w.heap.size w W) => hK.below hb
  have HP0 := Lib.hid fun W (hb : Below w.heap.size w W) => hP.below hb
  have CO := Lib.hid fun W (_ : Kd W) (_ : Pd W) => dcho_arg d k W (by omega)
  have RC := Lib.hid fun W => rch_arg d k W (by omega)
  have q1 : (2 : Int) ≤ d := by omega
  have q2 : d ≤ 60 := by omega
  have q3 : ¬ (2 : Int) ≤ k := by omega
  clear hK hP h1 h2 h3
  go_enter Tryd.func5, Tryd.ntmps5
  go_wp2_with fail
  refine AW.out.mono ?_
  rintro e x2 ⟨rfl, hb1⟩
  have hq3 : Below w.heap.size w x2 := hb1
  have HB_4 : Hid (Below w.heap.size w x2) := Lib.hid (hq3)
  clear hq3
  clear hb1
  go_wp2_with fail
  refine (CO.out _ (HK0.out _ HB_4.out) (HP0.out _ HB_4.out)).mono ?_
  rintro e x6 ⟨rfl, hb5⟩
  have hq8 : Below x2.heap.size x2 x6 := hb5
  have HB_9 : Hid (Below w.heap.size w x6) := Lib.hid (HB_4.out.trans (hq8.mono HB_4.out.size))
  clear hq8
  have hba : Below x6.heap.size x6 (x6.alloc (.cells #[.int .i64 0, .slice none 0 0] 25)) := (Below.refl _ _).alloc (Nat.le_refl _) _
  have RW := Lib.hid (row_new' x6 #[.int .i64 0, .slice none 0 0] 25)
  clear hb5 CO
  go_wp2_with fail
  obtain ⟨D, hD⟩ : ∃ D, x6.heap.size = D := ⟨_, rfl⟩
  rw [hD] at RW ⊢
  obtain ⟨y1, hy⟩ : ∃ y, (x6.alloc (.cells #[.int .i64 0, .slice none 0 0] 25)) = y := ⟨_, rfl⟩
  rw [hy] at RW hba ⊢
  have hq10 : Below x6.heap.size x6 y1 := hba
  have HB_11 : Hid (Below w.heap.size w y1) := Lib.hid (HB_9.out.trans (hq10.mono HB_9.out.size))
  clear hq10
  clear hy hba hD
  have d0 := (show _ = some _ from RW.out.cell 0)
  have d1 := (show _ = some _ from RW.out.cell 1)
  go_wp2_with fail
  clear d0 d1
  refine (RC.out _).mono ?_
  rintro e x13 ⟨rfl, hb12⟩
  have hq15 : Below y1.heap.size y1 x13 := hb12
  have R_16 := Lib.hid (Row.go RW.out hq15)
  have HB_17 : Hid (Below w.heap.size w x13) := Lib.hid (HB_11.out.trans (hq15.mono HB_11.out.size))
  clear hq15
  unfold dv
  have hba : Below x13.heap.size x13 (x13.alloc (.cells #[.int .i64 0, .slice none 0 0] 25)) := (Below.refl _ _).alloc (Nat.le_refl _) _
  obtain ⟨y18, hy⟩ : ∃ y, (x13.alloc (.cells #[.int .i64 0, .slice none 0 0] 25)) = y := ⟨_, rfl⟩
  have HY := Lib.hid hy
  rw [hy] at hba
  clear hy
  have hq19 : Below x13.heap.size x13 y18 := hba
  have R_20 := Lib.hid (Row.go R_16.out hq19)
  have HB_21 : Hid (Below w.heap.size w y18) := Lib.hid (HB_17.out.trans (hq19.mono HB_17.out.size))
  clear hq19
  clear hba hb12
  have d0 := (show _ = some _ from R_20.out.cell 0)
  have d1 := (show _ = some _ from R_20.out.cell 1)
  rw [← HY.out] at d0 d1
  have S1 : Hid (Calls Tryd.prog 13 #[.agg #[.int .i64 0, .slice none 0 0], .agg #[.int .i64 0, .slice none 0 0]] y18 (bel (.bool true) y18)) := Lib.hid (same_any 0 [] _ _ y18 (gs_nil _) (gs_nil _))
  go_wp2_with fail
  rw [HY.out]
  refine S1.out.mono ?_
  rintro e x23 ⟨rfl, hb22⟩
  have hq24 : Below y18.heap.size y18 x23 := hb22
  have R_25 := Lib.hid (Row.go R_20.out hq24)
  have HB_26 : Hid (Below w.heap.size w x23) := Lib.hid (HB_21.out.trans (hq24.mono HB_21.out.size))
  clear hq24
  clear hb22 d0 d1
  go_wp2_with fail
  go_ret
  exact ⟨rfl, HB_26.out⟩
set_option maxHeartbeats 4000000 in
set_option maxRecDepth 100000 in
theorem chlaw_a3 (d k : Int) (w : World) (hK : Kd w) (hP : Pd w) (h1 : ¬ d < 2) (h2 : ¬ 60 < d) (h3 : ¬ k < 2) (h4 : d < k) : Calls Tryd.prog 5 #[.int .i64 d, .int .i64 k] w (lawPost w) := by
  have AW := Lib.hid (awake7 w hK hP)
  have HK0 := Lib.hid fun W (hb : Below w.heap.size w W) => hK.below hb
  have HP0 := Lib.hid fun W (hb : Below w.heap.size w W) => hP.below hb
  have CO := Lib.hid fun W (_ : Kd W) (_ : Pd W) => dcho_arg d k W (by omega)
  have RC := Lib.hid fun W => rch_arg d k W (by omega)
  have q1 : (2 : Int) ≤ d := by omega
  have q2 : d ≤ 60 := by omega
  have q3 : (2 : Int) ≤ k := by omega
  have q4 : ¬ k ≤ d := by omega
  clear hK hP h1 h2 h3 h4
  go_enter Tryd.func5, Tryd.ntmps5
  go_wp2_with fail
  refine AW.out.mono ?_
  rintro e x2 ⟨rfl, hb1⟩
  have hq3 : Below w.heap.size w x2 := hb1
  have HB_4 : Hid (Below w.heap.size w x2) := Lib.hid (hq3)
  clear hq3
  clear hb1
  go_wp2_with fail
  refine (CO.out _ (HK0.out _ HB_4.out) (HP0.out _ HB_4.out)).mono ?_
  rintro e x6 ⟨rfl, hb5⟩
  have hq8 : Below x2.heap.size x2 x6 := hb5
  have HB_9 : Hid (Below w.heap.size w x6) := Lib.hid (HB_4.out.trans (hq8.mono HB_4.out.size))
  clear hq8
  have hba : Below x6.heap.size x6 (x6.alloc (.cells #[.int .i64 0, .slice none 0 0] 25)) := (Below.refl _ _).alloc (Nat.le_refl _) _
  have RW := Lib.hid (row_new' x6 #[.int .i64 0, .slice none 0 0] 25)
  clear hb5 CO
  go_wp2_with fail
  obtain ⟨D, hD⟩ : ∃ D, x6.heap.size = D := ⟨_, rfl⟩
  rw [hD] at RW ⊢
  obtain ⟨y1, hy⟩ : ∃ y, (x6.alloc (.cells #[.int .i64 0, .slice none 0 0] 25)) = y := ⟨_, rfl⟩
  rw [hy] at RW hba ⊢
  have hq10 : Below x6.heap.size x6 y1 := hba
  have HB_11 : Hid (Below w.heap.size w y1) := Lib.hid (HB_9.out.trans (hq10.mono HB_9.out.size))
  clear hq10
  clear hy hba hD
  have d0 := (show _ = some _ from RW.out.cell 0)
  have d1 := (show _ = some _ from RW.out.cell 1)
  go_wp2_with fail
  clear d0 d1
  refine (RC.out _).mono ?_
  rintro e x13 ⟨rfl, hb12⟩
  have hq15 : Below y1.heap.size y1 x13 := hb12
  have R_16 := Lib.hid (Row.go RW.out hq15)
  have HB_17 : Hid (Below w.heap.size w x13) := Lib.hid (HB_11.out.trans (hq15.mono HB_11.out.size))
  clear hq15
  unfold dv
  have hba : Below x13.heap.size x13 (x13.alloc (.cells #[.int .i64 0, .slice none 0 0] 25)) := (Below.refl _ _).alloc (Nat.le_refl _) _
  obtain ⟨y18, hy⟩ : ∃ y, (x13.alloc (.cells #[.int .i64 0, .slice none 0 0] 25)) = y := ⟨_, rfl⟩
  have HY := Lib.hid hy
  rw [hy] at hba
  clear hy
  have hq19 : Below x13.heap.size x13 y18 := hba
  have R_20 := Lib.hid (Row.go R_16.out hq19)
  have HB_21 : Hid (Below w.heap.size w y18) := Lib.hid (HB_17.out.trans (hq19.mono HB_17.out.size))
  clear hq19
  clear hba hb12
  have d0 := (show _ = some _ from R_20.out.cell 0)
  have d1 := (show _ = some _ from R_20.out.cell 1)
  rw [← HY.out] at d0 d1
  have S1 : Hid (Calls Tryd.prog 13 #[.agg #[.int .i64 0, .slice none 0 0], .agg #[.int .i64 0, .slice none 0 0]] y18 (bel (.bool true) y18)) := Lib.hid (same_any 0 [] _ _ y18 (gs_nil _) (gs_nil _))
  go_wp2_with fail
  rw [HY.out]
  refine S1.out.mono ?_
  rintro e x23 ⟨rfl, hb22⟩
  have hq24 : Below y18.heap.size y18 x23 := hb22
  have R_25 := Lib.hid (Row.go R_20.out hq24)
  have HB_26 : Hid (Below w.heap.size w x23) := Lib.hid (HB_21.out.trans (hq24.mono HB_21.out.size))
  clear hq24
  clear hb22 d0 d1
  go_wp2_with fail
  go_ret
  exact ⟨rfl, HB_26.out⟩
set_option maxHeartbeats 4000000 in
set_option maxRecDepth 100000 in
theorem chlaw_b (d k : Nat) (w : World) (hK : Kd w) (hP : Pd w) (h1 : 2 ≤ k) (h2 : k ≤ d) (h3 : d ≤ 60) (h4 : k < 4) : Calls Tryd.prog 5 #[.int .i64 (d : Int), .int .i64 (k : Int)] w (lawPost w) := by
  have AW := Lib.hid (awake7 w hK hP)
  have HK0 := Lib.hid fun W (hb : Below w.heap.size w W) => hK.below hb
  have HP0 := Lib.hid fun W (hb : Below w.heap.size w W) => hP.below hb
  have CO := Lib.hid fun W (_ : Kd W) (_ : Pd W) => dcho_arg (d : Int) (k : Int) W (by omega)
  have RC := Lib.hid fun W => rch_arg (d : Int) (k : Int) W (by omega)
  have q1 : (2 : Int) ≤ (d : Int) := by omega
  have q2 : (d : Int) ≤ 60 := by omega
  have q3 : (2 : Int) ≤ (k : Int) := by omega
  have q4 : k ≤ d := by omega
  have NM := Lib.hid fun W => rnum_any d k W (by omega) (by omega)
  have q5 : ¬ (4 : Int) ≤ (k : Int) := by omega
  clear hK hP h1 h2 h3 h4
  go_enter Tryd.func5, Tryd.ntmps5
  go_wp2_with fail
  refine AW.out.mono ?_
  rintro e x2 ⟨rfl, hb1⟩
  have hq3 : Below w.heap.size w x2 := hb1
  have HB_4 : Hid (Below w.heap.size w x2) := Lib.hid (hq3)
  clear hq3
  clear hb1
  go_wp2_with fail
  refine (CO.out _ (HK0.out _ HB_4.out) (HP0.out _ HB_4.out)).mono ?_
  rintro e x6 ⟨rfl, hb5⟩
  have hq8 : Below x2.heap.size x2 x6 := hb5
  have HB_9 : Hid (Below w.heap.size w x6) := Lib.hid (HB_4.out.trans (hq8.mono HB_4.out.size))
  clear hq8
  have hba : Below x6.heap.size x6 (x6.alloc (.cells #[.int .i64 0, .slice none 0 0] 25)) := (Below.refl _ _).alloc (Nat.le_refl _) _
  have RW := Lib.hid (row_new' x6 #[.int .i64 0, .slice none 0 0] 25)
  clear hb5 CO
  go_wp2_with fail
  obtain ⟨D, hD⟩ : ∃ D, x6.heap.size = D := ⟨_, rfl⟩
  rw [hD] at RW ⊢
  obtain ⟨y1, hy⟩ : ∃ y, (x6.alloc (.cells #[.int .i64 0, .slice none 0 0] 25)) = y := ⟨_, rfl⟩
  rw [hy] at RW hba ⊢
  have hq10 : Below x6.heap.size x6 y1 := hba
  have HB_11 : Hid (Below w.heap.size w y1) := Lib.hid (HB_9.out.trans (hq10.mono HB_9.out.size))
  clear hq10
  clear hy hba hD
  refine (NM.out _).mono ?_
  rintro e x12 ⟨c, rfl, hw9, hcc⟩
  obtain rfl := hw9.symm
  rcases (by omega : c ≤ 1000 ∨ 4096 < c ∨ (1000 < c ∧ c ≤ 4096)) with hc1 | hc1 | hc1
  · have cI : ¬ (1000 : Int) < (c : Int) := by omega
    clear hcc hc1
    have d0 := (show _ = some _ from RW.out.cell 0)
    have d1 := (show _ = some _ from RW.out.cell 1)
    go_wp2_with fail
    clear d0 d1
    refine (RC.out _).mono ?_
    rintro e x14 ⟨rfl, hb13⟩
    have hq16 : Below y1.heap.size y1 x14 := hb13
    have R_17 := Lib.hid (Row.go RW.out hq16)
    have HB_18 : Hid (Below w.heap.size w x14) := Lib.hid (HB_11.out.trans (hq16.mono HB_11.out.size))
    clear hq16
    unfold dv
    have hba : Below x14.heap.size x14 (x14.alloc (.cells #[.int .i64 0, .slice none 0 0] 25)) := (Below.refl _ _).alloc (Nat.le_refl _) _
    obtain ⟨y19, hy⟩ : ∃ y, (x14.alloc (.cells #[.int .i64 0, .slice none 0 0] 25)) = y := ⟨_, rfl⟩
    have HY := Lib.hid hy
    rw [hy] at hba
    clear hy
    have hq20 : Below x14.heap.size x14 y19 := hba
    have R_21 := Lib.hid (Row.go R_17.out hq20)
    have HB_22 : Hid (Below w.heap.size w y19) := Lib.hid (HB_18.out.trans (hq20.mono HB_18.out.size))
    clear hq20
    clear hba hb13
    have d0 := (show _ = some _ from R_21.out.cell 0)
    have d1 := (show _ = some _ from R_21.out.cell 1)
    rw [← HY.out] at d0 d1
    have S1 : Hid (Calls Tryd.prog 13 #[.agg #[.int .i64 0, .slice none 0 0], .agg #[.int .i64 0, .slice none 0 0]] y19 (bel (.bool true) y19)) := Lib.hid (same_any 0 [] _ _ y19 (gs_nil _) (gs_nil _))
    go_wp2_with fail
    rw [HY.out]
    refine S1.out.mono ?_
    rintro e x24 ⟨rfl, hb23⟩
    have hq25 : Below y19.heap.size y19 x24 := hb23
    have R_26 := Lib.hid (Row.go R_21.out hq25)
    have HB_27 : Hid (Below w.heap.size w x24) := Lib.hid (HB_22.out.trans (hq25.mono HB_22.out.size))
    clear hq25
    clear hb23 d0 d1
    go_wp2_with fail
    go_ret
    exact ⟨rfl, HB_27.out⟩
  · have cI : (1000 : Int) < (c : Int) := by omega
    have cJ : ¬ (c : Int) ≤ 4096 := by omega
    clear hcc hc1
    have d0 := (show _ = some _ from RW.out.cell 0)
    have d1 := (show _ = some _ from RW.out.cell 1)
    go_wp2_with fail
    clear d0 d1
    refine (RC.out _).mono ?_
    rintro e x14 ⟨rfl, hb13⟩
    have hq16 : Below y1.heap.size y1 x14 := hb13
    have R_17 := Lib.hid (Row.go RW.out hq16)
    have HB_18 : Hid (Below w.heap.size w x14) := Lib.hid (HB_11.out.trans (hq16.mono HB_11.out.size))
    clear hq16
    unfold dv
    have hba : Below x14.heap.size x14 (x14.alloc (.cells #[.int .i64 0, .slice none 0 0] 25)) := (Below.refl _ _).alloc (Nat.le_refl _) _
    obtain ⟨y19, hy⟩ : ∃ y, (x14.alloc (.cells #[.int .i64 0, .slice none 0 0] 25)) = y := ⟨_, rfl⟩
    have HY := Lib.hid hy
    rw [hy] at hba
    clear hy
    have hq20 : Below x14.heap.size x14 y19 := hba
    have R_21 := Lib.hid (Row.go R_17.out hq20)
    have HB_22 : Hid (Below w.heap.size w y19) := Lib.hid (HB_18.out.trans (hq20.mono HB_18.out.size))
    clear hq20
    clear hba hb13
    have d0 := (show _ = some _ from R_21.out.cell 0)
    have d1 := (show _ = some _ from R_21.out.cell 1)
    rw [← HY.out] at d0 d1
    have S1 : Hid (Calls Tryd.prog 13 #[.agg #[.int .i64 0, .slice none 0 0], .agg #[.int .i64 0, .slice none 0 0]] y19 (bel (.bool true) y19)) := Lib.hid (same_any 0 [] _ _ y19 (gs_nil _) (gs_nil _))
    go_wp2_with fail
    rw [HY.out]
    refine S1.out.mono ?_
    rintro e x24 ⟨rfl, hb23⟩
    have hq25 : Below y19.heap.size y19 x24 := hb23
    have R_26 := Lib.hid (Row.go R_21.out hq25)
    have HB_27 : Hid (Below w.heap.size w x24) := Lib.hid (HB_22.out.trans (hq25.mono HB_22.out.size))
    clear hq25
    clear hb23 d0 d1
    go_wp2_with fail
    go_ret
    exact ⟨rfl, HB_27.out⟩
  · have cI : (1000 : Int) < (c : Int) := by omega
    have cJ : (c : Int) ≤ 4096 := by omega
    clear hcc hc1
    have d0 := (show _ = some _ from RW.out.cell 0)
    have d1 := (show _ = some _ from RW.out.cell 1)
    go_wp2_with fail
    clear d0 d1
    refine (RC.out _).mono ?_
    rintro e x14 ⟨rfl, hb13⟩
    have hq16 : Below y1.heap.size y1 x14 := hb13
    have R_17 := Lib.hid (Row.go RW.out hq16)
    have HB_18 : Hid (Below w.heap.size w x14) := Lib.hid (HB_11.out.trans (hq16.mono HB_11.out.size))
    clear hq16
    unfold dv
    have hba : Below x14.heap.size x14 (x14.alloc (.cells #[.int .i64 0, .slice none 0 0] 25)) := (Below.refl _ _).alloc (Nat.le_refl _) _
    obtain ⟨y19, hy⟩ : ∃ y, (x14.alloc (.cells #[.int .i64 0, .slice none 0 0] 25)) = y := ⟨_, rfl⟩
    have HY := Lib.hid hy
    rw [hy] at hba
    clear hy
    have hq20 : Below x14.heap.size x14 y19 := hba
    have R_21 := Lib.hid (Row.go R_17.out hq20)
    have HB_22 : Hid (Below w.heap.size w y19) := Lib.hid (HB_18.out.trans (hq20.mono HB_18.out.size))
    clear hq20
    clear hba hb13
    have d0 := (show _ = some _ from R_21.out.cell 0)
    have d1 := (show _ = some _ from R_21.out.cell 1)
    rw [← HY.out] at d0 d1
    have S1 : Hid (Calls Tryd.prog 13 #[.agg #[.int .i64 0, .slice none 0 0], .agg #[.int .i64 0, .slice none 0 0]] y19 (bel (.bool true) y19)) := Lib.hid (same_any 0 [] _ _ y19 (gs_nil _) (gs_nil _))
    go_wp2_with fail
    rw [HY.out]
    refine S1.out.mono ?_
    rintro e x24 ⟨rfl, hb23⟩
    have hq25 : Below y19.heap.size y19 x24 := hb23
    have R_26 := Lib.hid (Row.go R_21.out hq25)
    have HB_27 : Hid (Below w.heap.size w x24) := Lib.hid (HB_22.out.trans (hq25.mono HB_22.out.size))
    clear hq25
    clear hb23 d0 d1
    go_wp2_with fail
    go_ret
    exact ⟨rfl, HB_27.out⟩
set_option maxHeartbeats 4000000 in
set_option maxRecDepth 100000 in
theorem chlaw_c (d k : Nat) (w : World) (hK : Kd w) (hP : Pd w) (h1 : 2 ≤ k) (h2 : k ≤ d) (h3 : d ≤ 60) (h4 : 16 < k) : Calls Tryd.prog 5 #[.int .i64 (d : Int), .int .i64 (k : Int)] w (lawPost w) := by
  have AW := Lib.hid (awake7 w hK hP)
  have HK0 := Lib.hid fun W (hb : Below w.heap.size w W) => hK.below hb
  have HP0 := Lib.hid fun W (hb : Below w.heap.size w W) => hP.below hb
  have CO := Lib.hid fun W (_ : Kd W) (_ : Pd W) => dcho_arg (d : Int) (k : Int) W (by omega)
  have RC := Lib.hid fun W => rch_arg (d : Int) (k : Int) W (by omega)
  have q1 : (2 : Int) ≤ (d : Int) := by omega
  have q2 : (d : Int) ≤ 60 := by omega
  have q3 : (2 : Int) ≤ (k : Int) := by omega
  have q4 : k ≤ d := by omega
  have NM := Lib.hid fun W => rnum_any d k W (by omega) (by omega)
  have q5 : (4 : Int) ≤ (k : Int) := by omega
  have q6 : ¬ (k : Int) ≤ 16 := by omega
  clear hK hP h1 h2 h3 h4
  go_enter Tryd.func5, Tryd.ntmps5
  go_wp2_with fail
  refine AW.out.mono ?_
  rintro e x2 ⟨rfl, hb1⟩
  have hq3 : Below w.heap.size w x2 := hb1
  have HB_4 : Hid (Below w.heap.size w x2) := Lib.hid (hq3)
  clear hq3
  clear hb1
  go_wp2_with fail
  refine (CO.out _ (HK0.out _ HB_4.out) (HP0.out _ HB_4.out)).mono ?_
  rintro e x6 ⟨rfl, hb5⟩
  have hq8 : Below x2.heap.size x2 x6 := hb5
  have HB_9 : Hid (Below w.heap.size w x6) := Lib.hid (HB_4.out.trans (hq8.mono HB_4.out.size))
  clear hq8
  have hba : Below x6.heap.size x6 (x6.alloc (.cells #[.int .i64 0, .slice none 0 0] 25)) := (Below.refl _ _).alloc (Nat.le_refl _) _
  have RW := Lib.hid (row_new' x6 #[.int .i64 0, .slice none 0 0] 25)
  clear hb5 CO
  go_wp2_with fail
  obtain ⟨D, hD⟩ : ∃ D, x6.heap.size = D := ⟨_, rfl⟩
  rw [hD] at RW ⊢
  obtain ⟨y1, hy⟩ : ∃ y, (x6.alloc (.cells #[.int .i64 0, .slice none 0 0] 25)) = y := ⟨_, rfl⟩
  rw [hy] at RW hba ⊢
  have hq10 : Below x6.heap.size x6 y1 := hba
  have HB_11 : Hid (Below w.heap.size w y1) := Lib.hid (HB_9.out.trans (hq10.mono HB_9.out.size))
  clear hq10
  clear hy hba hD
  refine (NM.out _).mono ?_
  rintro e x12 ⟨c, rfl, hw9, hcc⟩
  obtain rfl := hw9.symm
  rcases (by omega : c ≤ 1000 ∨ 4096 < c ∨ (1000 < c ∧ c ≤ 4096)) with hc1 | hc1 | hc1
  · have cI : ¬ (1000 : Int) < (c : Int) := by omega
    clear hcc hc1
    have d0 := (show _ = some _ from RW.out.cell 0)
    have d1 := (show _ = some _ from RW.out.cell 1)
    go_wp2_with fail
    clear d0 d1
    refine (RC.out _).mono ?_
    rintro e x14 ⟨rfl, hb13⟩
    have hq16 : Below y1.heap.size y1 x14 := hb13
    have R_17 := Lib.hid (Row.go RW.out hq16)
    have HB_18 : Hid (Below w.heap.size w x14) := Lib.hid (HB_11.out.trans (hq16.mono HB_11.out.size))
    clear hq16
    unfold dv
    have hba : Below x14.heap.size x14 (x14.alloc (.cells #[.int .i64 0, .slice none 0 0] 25)) := (Below.refl _ _).alloc (Nat.le_refl _) _
    obtain ⟨y19, hy⟩ : ∃ y, (x14.alloc (.cells #[.int .i64 0, .slice none 0 0] 25)) = y := ⟨_, rfl⟩
    have HY := Lib.hid hy
    rw [hy] at hba
    clear hy
    have hq20 : Below x14.heap.size x14 y19 := hba
    have R_21 := Lib.hid (Row.go R_17.out hq20)
    have HB_22 : Hid (Below w.heap.size w y19) := Lib.hid (HB_18.out.trans (hq20.mono HB_18.out.size))
    clear hq20
    clear hba hb13
    have d0 := (show _ = some _ from R_21.out.cell 0)
    have d1 := (show _ = some _ from R_21.out.cell 1)
    rw [← HY.out] at d0 d1
    have S1 : Hid (Calls Tryd.prog 13 #[.agg #[.int .i64 0, .slice none 0 0], .agg #[.int .i64 0, .slice none 0 0]] y19 (bel (.bool true) y19)) := Lib.hid (same_any 0 [] _ _ y19 (gs_nil _) (gs_nil _))
    go_wp2_with fail
    rw [HY.out]
    refine S1.out.mono ?_
    rintro e x24 ⟨rfl, hb23⟩
    have hq25 : Below y19.heap.size y19 x24 := hb23
    have R_26 := Lib.hid (Row.go R_21.out hq25)
    have HB_27 : Hid (Below w.heap.size w x24) := Lib.hid (HB_22.out.trans (hq25.mono HB_22.out.size))
    clear hq25
    clear hb23 d0 d1
    go_wp2_with fail
    go_ret
    exact ⟨rfl, HB_27.out⟩
  · have cI : (1000 : Int) < (c : Int) := by omega
    have cJ : ¬ (c : Int) ≤ 4096 := by omega
    clear hcc hc1
    have d0 := (show _ = some _ from RW.out.cell 0)
    have d1 := (show _ = some _ from RW.out.cell 1)
    go_wp2_with fail
    clear d0 d1
    refine (RC.out _).mono ?_
    rintro e x14 ⟨rfl, hb13⟩
    have hq16 : Below y1.heap.size y1 x14 := hb13
    have R_17 := Lib.hid (Row.go RW.out hq16)
    have HB_18 : Hid (Below w.heap.size w x14) := Lib.hid (HB_11.out.trans (hq16.mono HB_11.out.size))
    clear hq16
    unfold dv
    have hba : Below x14.heap.size x14 (x14.alloc (.cells #[.int .i64 0, .slice none 0 0] 25)) := (Below.refl _ _).alloc (Nat.le_refl _) _
    obtain ⟨y19, hy⟩ : ∃ y, (x14.alloc (.cells #[.int .i64 0, .slice none 0 0] 25)) = y := ⟨_, rfl⟩
    have HY := Lib.hid hy
    rw [hy] at hba
    clear hy
    have hq20 : Below x14.heap.size x14 y19 := hba
    have R_21 := Lib.hid (Row.go R_17.out hq20)
    have HB_22 : Hid (Below w.heap.size w y19) := Lib.hid (HB_18.out.trans (hq20.mono HB_18.out.size))
    clear hq20
    clear hba hb13
    have d0 := (show _ = some _ from R_21.out.cell 0)
    have d1 := (show _ = some _ from R_21.out.cell 1)
    rw [← HY.out] at d0 d1
    have S1 : Hid (Calls Tryd.prog 13 #[.agg #[.int .i64 0, .slice none 0 0], .agg #[.int .i64 0, .slice none 0 0]] y19 (bel (.bool true) y19)) := Lib.hid (same_any 0 [] _ _ y19 (gs_nil _) (gs_nil _))
    go_wp2_with fail
    rw [HY.out]
    refine S1.out.mono ?_
    rintro e x24 ⟨rfl, hb23⟩
    have hq25 : Below y19.heap.size y19 x24 := hb23
    have R_26 := Lib.hid (Row.go R_21.out hq25)
    have HB_27 : Hid (Below w.heap.size w x24) := Lib.hid (HB_22.out.trans (hq25.mono HB_22.out.size))
    clear hq25
    clear hb23 d0 d1
    go_wp2_with fail
    go_ret
    exact ⟨rfl, HB_27.out⟩
  · have cI : (1000 : Int) < (c : Int) := by omega
    have cJ : (c : Int) ≤ 4096 := by omega
    clear hcc hc1
    have d0 := (show _ = some _ from RW.out.cell 0)
    have d1 := (show _ = some _ from RW.out.cell 1)
    go_wp2_with fail
    clear d0 d1
    refine (RC.out _).mono ?_
    rintro e x14 ⟨rfl, hb13⟩
    have hq16 : Below y1.heap.size y1 x14 := hb13
    have R_17 := Lib.hid (Row.go RW.out hq16)
    have HB_18 : Hid (Below w.heap.size w x14) := Lib.hid (HB_11.out.trans (hq16.mono HB_11.out.size))
    clear hq16
    unfold dv
    have hba : Below x14.heap.size x14 (x14.alloc (.cells #[.int .i64 0, .slice none 0 0] 25)) := (Below.refl _ _).alloc (Nat.le_refl _) _
    obtain ⟨y19, hy⟩ : ∃ y, (x14.alloc (.cells #[.int .i64 0, .slice none 0 0] 25)) = y := ⟨_, rfl⟩
    have HY := Lib.hid hy
    rw [hy] at hba
    clear hy
    have hq20 : Below x14.heap.size x14 y19 := hba
    have R_21 := Lib.hid (Row.go R_17.out hq20)
    have HB_22 : Hid (Below w.heap.size w y19) := Lib.hid (HB_18.out.trans (hq20.mono HB_18.out.size))
    clear hq20
    clear hba hb13
    have d0 := (show _ = some _ from R_21.out.cell 0)
    have d1 := (show _ = some _ from R_21.out.cell 1)
    rw [← HY.out] at d0 d1
    have S1 : Hid (Calls Tryd.prog 13 #[.agg #[.int .i64 0, .slice none 0 0], .agg #[.int .i64 0, .slice none 0 0]] y19 (bel (.bool true) y19)) := Lib.hid (same_any 0 [] _ _ y19 (gs_nil _) (gs_nil _))
    go_wp2_with fail
    rw [HY.out]
    refine S1.out.mono ?_
    rintro e x24 ⟨rfl, hb23⟩
    have hq25 : Below y19.heap.size y19 x24 := hb23
    have R_26 := Lib.hid (Row.go R_21.out hq25)
    have HB_27 : Hid (Below w.heap.size w x24) := Lib.hid (HB_22.out.trans (hq25.mono HB_22.out.size))
    clear hq25
    clear hb23 d0 d1
    go_wp2_with fail
    go_ret
    exact ⟨rfl, HB_27.out⟩
theorem cho_big {d k : Nat} (hc : cho d k = none) (h4 : 4 ≤ k) : 4096 < ch d k := by
  by_cases h : ∀ j, j < 7 → ¬ (dT j = d ∧ kT j = k)
  · rw [cho_none h4 h] at hc
    by_cases h2 : ch d k ≤ 4096
    · rw [if_pos h2] at hc; cases hc
    · omega
  · obtain ⟨j, hj⟩ := Classical.not_forall.1 h
    obtain ⟨hj7, hn⟩ := Classical.not_imp.1 hj
    obtain ⟨rfl, rfl⟩ := Classical.not_not.1 hn
    cases e : aT j with
    | false => rw [cho_tp hj7 e] at hc; cases hc
    | true => rw [cho_ta hj7 e] at hc; cases hc
theorem cho_len {d k : Nat} {L : List (List Nat)} (hc : cho d k = some L) (h4 : 4 ≤ k) (h : 1000 < ch d k) (h2 : ch d k ≤ 4096) (hne : ¬ (d = 16 ∧ k = 4)) : L.length = ch d k := by
  rw [cho_none h4 (mid_none h h2 hne), if_pos h2] at hc
  rw [← Option.some.inj hc, comb_len]
set_option maxHeartbeats 4000000 in
set_option maxRecDepth 100000 in
theorem chlaw_n (d k : Nat) (w : World) (hK : Kd w) (hP : Pd w) (h1 : 4 ≤ k) (h2 : k ≤ d) (h3 : d ≤ 60) (h4 : k ≤ 16) (hc : cho d k = none) : Calls Tryd.prog 5 #[.int .i64 (d : Int), .int .i64 (k : Int)] w (lawPost w) := by
  have AW := Lib.hid (awake7 w hK hP)
  have HK0 := Lib.hid fun W (hb : Below w.heap.size w W) => hK.below hb
  have HP0 := Lib.hid fun W (hb : Below w.heap.size w W) => hP.below hb
  have CO := Lib.hid fun W (p : Kd W) (q : Pd W) => choose_none W p q h1 h4 h2 h3 hc
  have RC := Lib.hid fun W => (rch_ok d k W h1 h4 h2 h3).mono fun e w' hp => (by unfold rchPost at hp; rw [hc] at hp; exact hp : e = .returned (.tuple #[dv 0 (.slice none 0 0), .int .i64 7]) ∧ Below W.heap.size W w')
  have NB := Lib.hid (cho_big hc h1)
  have q1 : (2 : Int) ≤ (d : Int) := by omega
  have q2 : (d : Int) ≤ 60 := by omega
  have q3 : (2 : Int) ≤ (k : Int) := by omega
  have q4 : k ≤ d := by omega
  have NM := Lib.hid fun W => rnum_any d k W (by omega) (by omega)
  have q5 : (4 : Int) ≤ (k : Int) := by omega
  have q6 : (k : Int) ≤ 16 := by omega
  clear hK hP h1 h2 h3 h4 hc
  go_enter Tryd.func5, Tryd.ntmps5
  go_wp2_with fail
  refine AW.out.mono ?_
  rintro e x2 ⟨rfl, hb1⟩
  have hq3 : Below w.heap.size w x2 := hb1
  have HB_4 : Hid (Below w.heap.size w x2) := Lib.hid (hq3)
  clear hq3
  clear hb1
  go_wp2_with fail
  refine (CO.out _ (HK0.out _ HB_4.out) (HP0.out _ HB_4.out)).mono ?_
  rintro e x6 ⟨rfl, hb5⟩
  have hq8 : Below x2.heap.size x2 x6 := hb5
  have HB_9 : Hid (Below w.heap.size w x6) := Lib.hid (HB_4.out.trans (hq8.mono HB_4.out.size))
  clear hq8
  have hba : Below x6.heap.size x6 (x6.alloc (.cells #[.int .i64 0, .slice none 0 0] 25)) := (Below.refl _ _).alloc (Nat.le_refl _) _
  have RW := Lib.hid (row_new' x6 #[.int .i64 0, .slice none 0 0] 25)
  clear hb5 CO
  go_wp2_with fail
  obtain ⟨D, hD⟩ : ∃ D, x6.heap.size = D := ⟨_, rfl⟩
  rw [hD] at RW ⊢
  obtain ⟨y1, hy⟩ : ∃ y, (x6.alloc (.cells #[.int .i64 0, .slice none 0 0] 25)) = y := ⟨_, rfl⟩
  rw [hy] at RW hba ⊢
  have hq10 : Below x6.heap.size x6 y1 := hba
  have HB_11 : Hid (Below w.heap.size w y1) := Lib.hid (HB_9.out.trans (hq10.mono HB_9.out.size))
  clear hq10
  clear hy hba hD
  refine (NM.out _).mono ?_
  rintro e x12 ⟨c, rfl, hw9, hcc⟩
  obtain rfl := hw9.symm
  rcases (by omega : c ≤ 1000 ∨ 4096 < c ∨ (1000 < c ∧ c ≤ 4096)) with hc1 | hc1 | hc1
  · have cI : ¬ (1000 : Int) < (c : Int) := by omega
    clear hcc hc1
    have d0 := (show _ = some _ from RW.out.cell 0)
    have d1 := (show _ = some _ from RW.out.cell 1)
    go_wp2_with fail
    clear d0 d1
    refine (RC.out _).mono ?_
    rintro e x14 ⟨rfl, hb13⟩
    have hq16 : Below y1.heap.size y1 x14 := hb13
    have R_17 := Lib.hid (Row.go RW.out hq16)
    have HB_18 : Hid (Below w.heap.size w x14) := Lib.hid (HB_11.out.trans (hq16.mono HB_11.out.size))
    clear hq16
    unfold dv
    have hba : Below x14.heap.size x14 (x14.alloc (.cells #[.int .i64 0, .slice none 0 0] 25)) := (Below.refl _ _).alloc (Nat.le_refl _) _
    obtain ⟨y19, hy⟩ : ∃ y, (x14.alloc (.cells #[.int .i64 0, .slice none 0 0] 25)) = y := ⟨_, rfl⟩
    have HY := Lib.hid hy
    rw [hy] at hba
    clear hy
    have hq20 : Below x14.heap.size x14 y19 := hba
    have R_21 := Lib.hid (Row.go R_17.out hq20)
    have HB_22 : Hid (Below w.heap.size w y19) := Lib.hid (HB_18.out.trans (hq20.mono HB_18.out.size))
    clear hq20
    clear hba hb13
    have d0 := (show _ = some _ from R_21.out.cell 0)
    have d1 := (show _ = some _ from R_21.out.cell 1)
    rw [← HY.out] at d0 d1
    have S1 : Hid (Calls Tryd.prog 13 #[.agg #[.int .i64 0, .slice none 0 0], .agg #[.int .i64 0, .slice none 0 0]] y19 (bel (.bool true) y19)) := Lib.hid (same_any 0 [] _ _ y19 (gs_nil _) (gs_nil _))
    go_wp2_with fail
    rw [HY.out]
    refine S1.out.mono ?_
    rintro e x24 ⟨rfl, hb23⟩
    have hq25 : Below y19.heap.size y19 x24 := hb23
    have R_26 := Lib.hid (Row.go R_21.out hq25)
    have HB_27 : Hid (Below w.heap.size w x24) := Lib.hid (HB_22.out.trans (hq25.mono HB_22.out.size))
    clear hq25
    clear hb23 d0 d1
    go_wp2_with fail
    go_ret
    exact ⟨rfl, HB_27.out⟩
  · have cI : (1000 : Int) < (c : Int) := by omega
    have cJ : ¬ (c : Int) ≤ 4096 := by omega
    clear hcc hc1
    have d0 := (show _ = some _ from RW.out.cell 0)
    have d1 := (show _ = some _ from RW.out.cell 1)
    go_wp2_with fail
    clear d0 d1
    refine (RC.out _).mono ?_
    rintro e x14 ⟨rfl, hb13⟩
    have hq16 : Below y1.heap.size y1 x14 := hb13
    have R_17 := Lib.hid (Row.go RW.out hq16)
    have HB_18 : Hid (Below w.heap.size w x14) := Lib.hid (HB_11.out.trans (hq16.mono HB_11.out.size))
    clear hq16
    unfold dv
    have hba : Below x14.heap.size x14 (x14.alloc (.cells #[.int .i64 0, .slice none 0 0] 25)) := (Below.refl _ _).alloc (Nat.le_refl _) _
    obtain ⟨y19, hy⟩ : ∃ y, (x14.alloc (.cells #[.int .i64 0, .slice none 0 0] 25)) = y := ⟨_, rfl⟩
    have HY := Lib.hid hy
    rw [hy] at hba
    clear hy
    have hq20 : Below x14.heap.size x14 y19 := hba
    have R_21 := Lib.hid (Row.go R_17.out hq20)
    have HB_22 : Hid (Below w.heap.size w y19) := Lib.hid (HB_18.out.trans (hq20.mono HB_18.out.size))
    clear hq20
    clear hba hb13
    have d0 := (show _ = some _ from R_21.out.cell 0)
    have d1 := (show _ = some _ from R_21.out.cell 1)
    rw [← HY.out] at d0 d1
    have S1 : Hid (Calls Tryd.prog 13 #[.agg #[.int .i64 0, .slice none 0 0], .agg #[.int .i64 0, .slice none 0 0]] y19 (bel (.bool true) y19)) := Lib.hid (same_any 0 [] _ _ y19 (gs_nil _) (gs_nil _))
    go_wp2_with fail
    rw [HY.out]
    refine S1.out.mono ?_
    rintro e x24 ⟨rfl, hb23⟩
    have hq25 : Below y19.heap.size y19 x24 := hb23
    have R_26 := Lib.hid (Row.go R_21.out hq25)
    have HB_27 : Hid (Below w.heap.size w x24) := Lib.hid (HB_22.out.trans (hq25.mono HB_22.out.size))
    clear hq25
    clear hb23 d0 d1
    go_wp2_with fail
    go_ret
    exact ⟨rfl, HB_27.out⟩
  · exact absurd NB.out (by rcases hcc with h | h <;> omega)
set_option maxHeartbeats 4000000 in
set_option maxRecDepth 100000 in
theorem chlaw_s (d k : Nat) (L : List (List Nat)) (w : World) (hK : Kd w) (hP : Pd w) (h1 : 4 ≤ k) (h2 : k ≤ d) (h3 : d ≤ 60) (h4 : k ≤ 16) (hc : cho d k = some L) : Calls Tryd.prog 5 #[.int .i64 (d : Int), .int .i64 (k : Int)] w (lawPost w) := by
  have AW := Lib.hid (awake7 w hK hP)
  have HK0 := Lib.hid fun W (hb : Below w.heap.size w W) => hK.below hb
  have HP0 := Lib.hid fun W (hb : Below w.heap.size w W) => hP.below hb
  have CO := Lib.hid fun W (p : Kd W) (q : Pd W) => choose_some W p q h1 h4 h2 h3 hc
  have RC := Lib.hid fun W => (rch_ok d k W h1 h4 h2 h3).mono fun e w' hp => (by unfold rchPost at hp; rw [hc] at hp; obtain ⟨x, he, hf, hb⟩ := hp; exact ⟨x, he, hf.gs, hb⟩ : ∃ v, e = .returned (.tuple #[dv d v, .int .i64 0]) ∧ Gs w' v L ∧ Below W.heap.size W w')
  obtain ⟨N, hN⟩ : ∃ N, L.length = N := ⟨_, rfl⟩
  have LN := Lib.hid hN
  have LC0 := Lib.hid (show 1000 < ch d k → ch d k ≤ 4096 → ¬ (d = 16 ∧ k = 4) → N = ch d k from fun p q r => by rw [← hN]; exact cho_len hc h1 p q r)
  clear hN
  have q1 : (2 : Int) ≤ (d : Int) := by omega
  have q2 : (d : Int) ≤ 60 := by omega
  have q3 : (2 : Int) ≤ (k : Int) := by omega
  have q4 : k ≤ d := by omega
  have NM := Lib.hid fun W => rnum_any d k W (by omega) (by omega)
  have q5 : (4 : Int) ≤ (k : Int) := by omega
  have q6 : (k : Int) ≤ 16 := by omega
  clear hK hP h1 h2 h3 h4 hc
  go_enter Tryd.func5, Tryd.ntmps5
  go_wp2_with fail
  refine AW.out.mono ?_
  rintro e x2 ⟨rfl, hb1⟩
  have hq3 : Below w.heap.size w x2 := hb1
  have HB_4 : Hid (Below w.heap.size w x2) := Lib.hid (hq3)
  clear hq3
  clear hb1
  go_wp2_with fail
  refine (CO.out _ (HK0.out _ HB_4.out) (HP0.out _ HB_4.out)).mono ?_
  rintro e x6 ⟨vv, rfl, hg7, hb5⟩
  obtain ⟨A1, k1, rfl⟩ := slform hg7
  rw [LN.out] at hg7 ⊢
  have hq8 : Below x2.heap.size x2 x6 := hb5
  have HB_9 : Hid (Below w.heap.size w x6) := Lib.hid (HB_4.out.trans (hq8.mono HB_4.out.size))
  clear hq8
  have G1_ := Lib.hid hg7
  clear hg7
  have hba : Below x6.heap.size x6 (x6.alloc (.cells #[.int .i64 (d : Int), .slice A1 N k1] 25)) := (Below.refl _ _).alloc (Nat.le_refl _) _
  have RW := Lib.hid (row_new' x6 #[.int .i64 (d : Int), .slice A1 N k1] 25)
  clear hb5 CO
  unfold dv
  go_wp2_with fail
  obtain ⟨D, hD⟩ : ∃ D, x6.heap.size = D := ⟨_, rfl⟩
  rw [hD] at RW ⊢
  obtain ⟨y1, hy⟩ : ∃ y, (x6.alloc (.cells #[.int .i64 (d : Int), .slice A1 N k1] 25)) = y := ⟨_, rfl⟩
  rw [hy] at RW hba ⊢
  have hq10 : Below x6.heap.size x6 y1 := hba
  have G_11 := Lib.hid (Gs.to G1_.out hq10)
  have HB_12 : Hid (Below w.heap.size w y1) := Lib.hid (HB_9.out.trans (hq10.mono HB_9.out.size))
  clear hq10
  clear hy hba hD
  refine (NM.out _).mono ?_
  rintro e x13 ⟨c, rfl, hw9, hcc⟩
  obtain rfl := hw9.symm
  rcases (by omega : c ≤ 1000 ∨ 4096 < c ∨ (1000 < c ∧ c ≤ 4096)) with hc1 | hc1 | hc1
  · have cI : ¬ (1000 : Int) < (c : Int) := by omega
    clear hcc hc1
    have d0 := (show _ = some _ from RW.out.cell 0)
    have d1 := (show _ = some _ from RW.out.cell 1)
    go_wp2_with fail
    clear d0 d1
    refine (RC.out _).mono ?_
    rintro e x15 ⟨v2, rfl, hg16, hb14⟩
    obtain ⟨A2, k2, rfl⟩ := slform hg16
    rw [LN.out] at hg16 ⊢
    have hq17 : Below y1.heap.size y1 x15 := hb14
    have G_18 := Lib.hid (Gs.to G_11.out hq17)
    have R_19 := Lib.hid (Row.go RW.out hq17)
    have HB_20 : Hid (Below w.heap.size w x15) := Lib.hid (HB_12.out.trans (hq17.mono HB_12.out.size))
    clear hq17
    have G2_ := Lib.hid hg16
    clear hg16
    unfold dv
    have hba : Below x15.heap.size x15 (x15.alloc (.cells #[.int .i64 (d : Int), .slice A2 N k2] 25)) := (Below.refl _ _).alloc (Nat.le_refl _) _
    obtain ⟨y21, hy⟩ : ∃ y, (x15.alloc (.cells #[.int .i64 (d : Int), .slice A2 N k2] 25)) = y := ⟨_, rfl⟩
    have HY := Lib.hid hy
    rw [hy] at hba
    clear hy
    have hq22 : Below x15.heap.size x15 y21 := hba
    have G_23 := Lib.hid (Gs.to G_18.out hq22)
    have R_24 := Lib.hid (Row.go R_19.out hq22)
    have G2_25 := Lib.hid (Gs.to G2_.out hq22)
    have HB_26 : Hid (Below w.heap.size w y21) := Lib.hid (HB_20.out.trans (hq22.mono HB_20.out.size))
    clear hq22
    clear hba hb14
    have d0 := (show _ = some _ from R_24.out.cell 0)
    have d1 := (show _ = some _ from R_24.out.cell 1)
    rw [← HY.out] at d0 d1
    have S1 : Hid (Calls Tryd.prog 13 #[.agg #[.int .i64 (d : Int), .slice A1 N k1], .agg #[.int .i64 (d : Int), .slice A2 N k2]] y21 (bel (.bool true) y21)) := Lib.hid (same_any d L _ _ y21 G_23.out G2_25.out)
    go_wp2_with fail
    rw [HY.out]
    refine S1.out.mono ?_
    rintro e x28 ⟨rfl, hb27⟩
    have hq29 : Below y21.heap.size y21 x28 := hb27
    have G_30 := Lib.hid (Gs.to G_23.out hq29)
    have R_31 := Lib.hid (Row.go R_24.out hq29)
    have G2_32 := Lib.hid (Gs.to G2_25.out hq29)
    have HB_33 : Hid (Below w.heap.size w x28) := Lib.hid (HB_26.out.trans (hq29.mono HB_26.out.size))
    clear hq29
    clear hb27 d0 d1
    go_wp2_with fail
    go_ret
    exact ⟨rfl, HB_33.out⟩
  · have cI : (1000 : Int) < (c : Int) := by omega
    have cJ : ¬ (c : Int) ≤ 4096 := by omega
    clear hcc hc1
    have d0 := (show _ = some _ from RW.out.cell 0)
    have d1 := (show _ = some _ from RW.out.cell 1)
    go_wp2_with fail
    clear d0 d1
    refine (RC.out _).mono ?_
    rintro e x15 ⟨v2, rfl, hg16, hb14⟩
    obtain ⟨A2, k2, rfl⟩ := slform hg16
    rw [LN.out] at hg16 ⊢
    have hq17 : Below y1.heap.size y1 x15 := hb14
    have G_18 := Lib.hid (Gs.to G_11.out hq17)
    have R_19 := Lib.hid (Row.go RW.out hq17)
    have HB_20 : Hid (Below w.heap.size w x15) := Lib.hid (HB_12.out.trans (hq17.mono HB_12.out.size))
    clear hq17
    have G2_ := Lib.hid hg16
    clear hg16
    unfold dv
    have hba : Below x15.heap.size x15 (x15.alloc (.cells #[.int .i64 (d : Int), .slice A2 N k2] 25)) := (Below.refl _ _).alloc (Nat.le_refl _) _
    obtain ⟨y21, hy⟩ : ∃ y, (x15.alloc (.cells #[.int .i64 (d : Int), .slice A2 N k2] 25)) = y := ⟨_, rfl⟩
    have HY := Lib.hid hy
    rw [hy] at hba
    clear hy
    have hq22 : Below x15.heap.size x15 y21 := hba
    have G_23 := Lib.hid (Gs.to G_18.out hq22)
    have R_24 := Lib.hid (Row.go R_19.out hq22)
    have G2_25 := Lib.hid (Gs.to G2_.out hq22)
    have HB_26 : Hid (Below w.heap.size w y21) := Lib.hid (HB_20.out.trans (hq22.mono HB_20.out.size))
    clear hq22
    clear hba hb14
    have d0 := (show _ = some _ from R_24.out.cell 0)
    have d1 := (show _ = some _ from R_24.out.cell 1)
    rw [← HY.out] at d0 d1
    have S1 : Hid (Calls Tryd.prog 13 #[.agg #[.int .i64 (d : Int), .slice A1 N k1], .agg #[.int .i64 (d : Int), .slice A2 N k2]] y21 (bel (.bool true) y21)) := Lib.hid (same_any d L _ _ y21 G_23.out G2_25.out)
    go_wp2_with fail
    rw [HY.out]
    refine S1.out.mono ?_
    rintro e x28 ⟨rfl, hb27⟩
    have hq29 : Below y21.heap.size y21 x28 := hb27
    have G_30 := Lib.hid (Gs.to G_23.out hq29)
    have R_31 := Lib.hid (Row.go R_24.out hq29)
    have G2_32 := Lib.hid (Gs.to G2_25.out hq29)
    have HB_33 : Hid (Below w.heap.size w x28) := Lib.hid (HB_26.out.trans (hq29.mono HB_26.out.size))
    clear hq29
    clear hb27 d0 d1
    go_wp2_with fail
    go_ret
    exact ⟨rfl, HB_33.out⟩
  · have LC := Lib.hid (show ¬ (d = 16 ∧ k = 4) → N = c from fun r => by rcases hcc with h | h; rw [LC0.out (by omega) (by omega) r, h]; omega)
    have cI : (1000 : Int) < (c : Int) := by omega
    have cJ : (c : Int) ≤ 4096 := by omega
    clear hcc hc1 LC0
    by_cases e16 : d = 16 ∧ k = 4
    · have eA : ((d : Int) != 16) = false := by simp; omega
      have eB : ((k : Int) != 4) = false := by simp; omega
      clear e16 LC
      have d0 := (show _ = some _ from RW.out.cell 0)
      have d1 := (show _ = some _ from RW.out.cell 1)
      go_wp2_with fail
      clear d0 d1
      refine (RC.out _).mono ?_
      rintro e x15 ⟨v2, rfl, hg16, hb14⟩
      obtain ⟨A2, k2, rfl⟩ := slform hg16
      rw [LN.out] at hg16 ⊢
      have hq17 : Below y1.heap.size y1 x15 := hb14
      have G_18 := Lib.hid (Gs.to G_11.out hq17)
      have R_19 := Lib.hid (Row.go RW.out hq17)
      have HB_20 : Hid (Below w.heap.size w x15) := Lib.hid (HB_12.out.trans (hq17.mono HB_12.out.size))
      clear hq17
      have G2_ := Lib.hid hg16
      clear hg16
      unfold dv
      have hba : Below x15.heap.size x15 (x15.alloc (.cells #[.int .i64 (d : Int), .slice A2 N k2] 25)) := (Below.refl _ _).alloc (Nat.le_refl _) _
      obtain ⟨y21, hy⟩ : ∃ y, (x15.alloc (.cells #[.int .i64 (d : Int), .slice A2 N k2] 25)) = y := ⟨_, rfl⟩
      have HY := Lib.hid hy
      rw [hy] at hba
      clear hy
      have hq22 : Below x15.heap.size x15 y21 := hba
      have G_23 := Lib.hid (Gs.to G_18.out hq22)
      have R_24 := Lib.hid (Row.go R_19.out hq22)
      have G2_25 := Lib.hid (Gs.to G2_.out hq22)
      have HB_26 : Hid (Below w.heap.size w y21) := Lib.hid (HB_20.out.trans (hq22.mono HB_20.out.size))
      clear hq22
      clear hba hb14
      have d0 := (show _ = some _ from R_24.out.cell 0)
      have d1 := (show _ = some _ from R_24.out.cell 1)
      rw [← HY.out] at d0 d1
      have S1 : Hid (Calls Tryd.prog 13 #[.agg #[.int .i64 (d : Int), .slice A1 N k1], .agg #[.int .i64 (d : Int), .slice A2 N k2]] y21 (bel (.bool true) y21)) := Lib.hid (same_any d L _ _ y21 G_23.out G2_25.out)
      go_wp2_with fail
      rw [HY.out]
      refine S1.out.mono ?_
      rintro e x28 ⟨rfl, hb27⟩
      have hq29 : Below y21.heap.size y21 x28 := hb27
      have G_30 := Lib.hid (Gs.to G_23.out hq29)
      have R_31 := Lib.hid (Row.go R_24.out hq29)
      have G2_32 := Lib.hid (Gs.to G2_25.out hq29)
      have HB_33 : Hid (Below w.heap.size w x28) := Lib.hid (HB_26.out.trans (hq29.mono HB_26.out.size))
      clear hq29
      clear hb27 d0 d1
      go_wp2_with fail
      go_ret
      exact ⟨rfl, HB_33.out⟩
    · obtain rfl : N = c := LC.out e16
      by_cases d16 : d = 16
      · have eA : ((d : Int) != 16) = false := by simp; omega
        have eB : ((k : Int) != 4) = true := by simp; omega
        clear e16 LC d16
        have d0 := (show _ = some _ from RW.out.cell 0)
        have d1 := (show _ = some _ from RW.out.cell 1)
        go_wp2_with fail
        go_ret
        exact ⟨rfl, HB_12.out⟩
      · have eA : ((d : Int) != 16) = true := by simp; omega
        clear e16 LC d16
        have d0 := (show _ = some _ from RW.out.cell 0)
        have d1 := (show _ = some _ from RW.out.cell 1)
        go_wp2_with fail
        go_ret
        exact ⟨rfl, HB_12.out⟩
theorem chooselaw_walk (d k : Int) (w : World) (hK : Kd w) (hP : Pd w) : Calls Tryd.prog 5 #[.int .i64 d, .int .i64 k] w (lawPost w) := by
  by_cases h1 : d < 2
  · exact chlaw_a0 d k w hK hP h1
  by_cases h2 : 60 < d
  · exact chlaw_a1 d k w hK hP h1 h2
  by_cases h3 : k < 2
  · exact chlaw_a2 d k w hK hP h1 h2 h3
  by_cases h4 : d < k
  · exact chlaw_a3 d k w hK hP h1 h2 h3 h4
  obtain ⟨v, rfl⟩ : ∃ v : Nat, d = (v : Int) := ⟨d.toNat, by omega⟩
  obtain ⟨n, rfl⟩ : ∃ n : Nat, k = (n : Int) := ⟨k.toNat, by omega⟩
  by_cases h5 : n < 4
  · exact chlaw_b v n w hK hP (by omega) (by omega) (by omega) h5
  by_cases h6 : 16 < n
  · exact chlaw_c v n w hK hP (by omega) (by omega) (by omega) h6
  cases hc : cho v n with
  | none => exact chlaw_n v n w hK hP (by omega) (by omega) (by omega) (by omega) hc
  | some L => exact chlaw_s v n L w hK hP (by omega) (by omega) (by omega) (by omega) hc
end Go.Proofs.YtnnacofjogfkeaaDoor
