/- The program's Locate. WRITTEN BY gen_Kpc.py. -/
import Derived.Test.YtbaclcpnnompnaaKpb
import Derived.BigQuiet
namespace Go.Proofs.Ytbaclcpnnompnaa
open Go Go.RowKit
set_option linter.unusedVariables false
set_option linter.unusedSimpArgs false

theorem pdN {B : Nat} {a w : World} (h : Below B a w) (n : Nat) : Below B a (w.drewN n) := h.trans ⟨rfl, rfl, rfl, Nat.le_refl _, fun _ _ => rfl⟩
set_option maxHeartbeats 4000000 in
set_option maxRecDepth 100000 in
theorem ploc_bad (r b t s o a : Int) (w : World) (h : ¬ Geo.GV r b t s o) : Calls Try.prog 64 #[.agg #[.int .i64 r, .int .i64 b, .int .i64 t, .int .i64 s, .int .i64 o], .int .i64 a] w (gPost (locV (0, 0, 0, 1)) w) := by
  obtain ⟨B0, hB0⟩ : ∃ B, w.heap.size = B := ⟨_, rfl⟩
  obtain ⟨W0, hW0⟩ : ∃ W, w.alloc (.cells #[.int .i64 r, .int .i64 b, .int .i64 t, .int .i64 s, .int .i64 o] 23) = W := ⟨_, rfl⟩
  have BW : Hid (Below w.heap.size w W0) := Lib.hid (by subst hW0; exact (Below.refl _ _).alloc (Nat.le_refl _) _)
  have R0 : Hid (Row W0 B0 23 #[.int .i64 r, .int .i64 b, .int .i64 t, .int .i64 s, .int .i64 o]) := Lib.hid (by subst hW0; exact gr_new w _ _ hB0)
  have c0 := R0.out.cell 0
  have c1 := R0.out.cell 1
  have c2 := R0.out.cell 2
  have c3 := R0.out.cell 3
  have c4 := R0.out.cell 4
  simp only [List.getElem?_toArray, List.getElem?_cons_zero, List.getElem?_cons_succ] at c0 c1 c2 c3 c4
  have HB0 := Lib.hid hB0
  have HW0 := Lib.hid hW0
  clear hB0 hW0
  go_enter Try.func64, Try.ntmps64
  go_wp2_with (first | rw [HB0.out] | rw [HW0.out])
  refine (pvalid_any r b t s o W0).mono ?_
  rintro e w1 ⟨rfl, hb⟩
  replace c0 := ce_fw c0 hb
  replace c1 := ce_fw c1 hb
  replace c2 := ce_fw c2 hb
  replace c3 := ce_fw c3 hb
  replace c4 := ce_fw c4 hb
  have B1 := Lib.hid (BW.out.trans (hb.mono BW.out.size))
  have R1 := Lib.hid (rw_fw R0.out hb)
  clear hb
  rw [decide_eq_false h]
  clear h
  go_wp2_with fail
  refine bodyPost_ret (results_tmp4 rfl _ _ _) rfl ?_
  exact ⟨rfl, B1.out⟩
set_option maxHeartbeats 4000000 in
set_option maxRecDepth 100000 in
theorem ploc_low (r b t s o a : Int) (w : World) (h : Geo.GV r b t s o) (h1 : a < r) : Calls Try.prog 64 #[.agg #[.int .i64 r, .int .i64 b, .int .i64 t, .int .i64 s, .int .i64 o], .int .i64 a] w (gPost (locV (0, 0, 0, 2)) w) := by
  obtain ⟨B0, hB0⟩ : ∃ B, w.heap.size = B := ⟨_, rfl⟩
  obtain ⟨W0, hW0⟩ : ∃ W, w.alloc (.cells #[.int .i64 r, .int .i64 b, .int .i64 t, .int .i64 s, .int .i64 o] 23) = W := ⟨_, rfl⟩
  have BW : Hid (Below w.heap.size w W0) := Lib.hid (by subst hW0; exact (Below.refl _ _).alloc (Nat.le_refl _) _)
  have R0 : Hid (Row W0 B0 23 #[.int .i64 r, .int .i64 b, .int .i64 t, .int .i64 s, .int .i64 o]) := Lib.hid (by subst hW0; exact gr_new w _ _ hB0)
  have c0 := R0.out.cell 0
  have c1 := R0.out.cell 1
  have c2 := R0.out.cell 2
  have c3 := R0.out.cell 3
  have c4 := R0.out.cell 4
  simp only [List.getElem?_toArray, List.getElem?_cons_zero, List.getElem?_cons_succ] at c0 c1 c2 c3 c4
  have HB0 := Lib.hid hB0
  have HW0 := Lib.hid hW0
  clear hB0 hW0
  go_enter Try.func64, Try.ntmps64
  go_wp2_with (first | rw [HB0.out] | rw [HW0.out])
  refine (pvalid_any r b t s o W0).mono ?_
  rintro e w1 ⟨rfl, hb⟩
  replace c0 := ce_fw c0 hb
  replace c1 := ce_fw c1 hb
  replace c2 := ce_fw c2 hb
  replace c3 := ce_fw c3 hb
  replace c4 := ce_fw c4 hb
  have B1 := Lib.hid (BW.out.trans (hb.mono BW.out.size))
  have R1 := Lib.hid (rw_fw R0.out hb)
  clear hb
  rw [decide_eq_true h]
  clear h
  have d1 : decide (a < r) = true := decide_eq_true (by omega)
  go_wp2_with fail
  refine bodyPost_ret (results_tmp4 rfl _ _ _) rfl ?_
  exact ⟨rfl, B1.out⟩
set_option maxHeartbeats 4000000 in
set_option maxRecDepth 100000 in
theorem ploc_high (r b t s o a : Int) (w : World) (h : Geo.GV r b t s o) (h1 : ¬ a < r) (z : Int) (hz : Geo.size r b t s o = z) (h2 : z ≤ a) : Calls Try.prog 64 #[.agg #[.int .i64 r, .int .i64 b, .int .i64 t, .int .i64 s, .int .i64 o], .int .i64 a] w (gPost (locV (0, 0, 0, 2)) w) := by
  have ES := Lib.hid hz
  clear hz
  obtain ⟨B0, hB0⟩ : ∃ B, w.heap.size = B := ⟨_, rfl⟩
  obtain ⟨W0, hW0⟩ : ∃ W, w.alloc (.cells #[.int .i64 r, .int .i64 b, .int .i64 t, .int .i64 s, .int .i64 o] 23) = W := ⟨_, rfl⟩
  have BW : Hid (Below w.heap.size w W0) := Lib.hid (by subst hW0; exact (Below.refl _ _).alloc (Nat.le_refl _) _)
  have R0 : Hid (Row W0 B0 23 #[.int .i64 r, .int .i64 b, .int .i64 t, .int .i64 s, .int .i64 o]) := Lib.hid (by subst hW0; exact gr_new w _ _ hB0)
  have c0 := R0.out.cell 0
  have c1 := R0.out.cell 1
  have c2 := R0.out.cell 2
  have c3 := R0.out.cell 3
  have c4 := R0.out.cell 4
  simp only [List.getElem?_toArray, List.getElem?_cons_zero, List.getElem?_cons_succ] at c0 c1 c2 c3 c4
  have HB0 := Lib.hid hB0
  have HW0 := Lib.hid hW0
  clear hB0 hW0
  go_enter Try.func64, Try.ntmps64
  go_wp2_with (first | rw [HB0.out] | rw [HW0.out])
  refine (pvalid_any r b t s o W0).mono ?_
  rintro e w1 ⟨rfl, hb⟩
  replace c0 := ce_fw c0 hb
  replace c1 := ce_fw c1 hb
  replace c2 := ce_fw c2 hb
  replace c3 := ce_fw c3 hb
  replace c4 := ce_fw c4 hb
  have B1 := Lib.hid (BW.out.trans (hb.mono BW.out.size))
  have R1 := Lib.hid (rw_fw R0.out hb)
  clear hb
  rw [decide_eq_true h]
  clear h
  have d1 : decide (a < r) = false := decide_eq_false (by omega)
  have d2 : decide (z ≤ a) = true := decide_eq_true (by omega)
  go_wp2_with fail
  refine (psize_any r b t s o w1).mono ?_
  rw [show Geo.size r b t s o = z from ES.out]
  rintro e w2 ⟨rfl, hb⟩
  replace c0 := ce_fw c0 hb
  replace c1 := ce_fw c1 hb
  replace c2 := ce_fw c2 hb
  replace c3 := ce_fw c3 hb
  replace c4 := ce_fw c4 hb
  have B2 := Lib.hid (B1.out.trans (hb.mono B1.out.size))
  have R2 := Lib.hid (rw_fw R1.out hb)
  clear hb
  go_wp2_with fail
  refine bodyPost_ret (results_tmp4 rfl _ _ _) rfl ?_
  exact ⟨rfl, B2.out⟩
set_option maxHeartbeats 4000000 in
set_option maxRecDepth 100000 in
theorem ploc_in (r b t s o a : Int) (w : World) (h : Geo.GV r b t s o) (h1 : ¬ a < r) (z : Int) (hz : Geo.size r b t s o = z) (h2 : ¬ z ≤ a) : Calls Try.prog 64 #[.agg #[.int .i64 r, .int .i64 b, .int .i64 t, .int .i64 s, .int .i64 o], .int .i64 a] w (gPost (locV ((a - r) / (t * s), (a - r) / s % t, (a - r) % s, 0)) w) := by
  have ES := Lib.hid hz
  have hz2 := hz
  rw [show Geo.size r b t s o = r + b * (t * s) from if_pos h] at hz2
  have h' := h
  unfold Geo.GV at h'
  have b1 := gm (t := t) (s := s) (a := 16) (c := 64) (by omega) (by omega) (by omega) (by omega)
  have b2 := gm (t := b) (s := t * s) (a := 64) (c := 1024) (by omega) (by omega) (by omega) (by omega)
  obtain ⟨n, hn⟩ : ∃ n, a - r = n := ⟨_, rfl⟩
  have n0 : 0 ≤ n := by omega
  have n1 : n ≤ 65536 := by omega
  rw [hn, Int.mul_comm t s, ← Int.ediv_ediv_of_nonneg (show 0 ≤ s by omega)]
  have kb : 0 ≤ n / s ∧ n / s ≤ n := ⟨Int.ediv_nonneg n0 (by omega), Int.ediv_le_self _ n0⟩
  have q1b : 0 ≤ n / s / t ∧ n / s / t ≤ n / s := ⟨Int.ediv_nonneg kb.1 (by omega), Int.ediv_le_self _ kb.1⟩
  have q2b : 0 ≤ n / s % t ∧ n / s % t < t := ⟨Int.emod_nonneg _ (by omega), Int.emod_lt_of_pos _ (by omega)⟩
  have q3b : 0 ≤ n % s ∧ n % s < s := ⟨Int.emod_nonneg _ (by omega), Int.emod_lt_of_pos _ (by omega)⟩
  have t2 : n.tdiv s = n / s := Int.tdiv_eq_ediv_of_nonneg n0
  have t1 : (n / s).tdiv t = n / s / t := Int.tdiv_eq_ediv_of_nonneg kb.1
  have t3 : (n / s).tmod t = n / s % t := Int.tmod_eq_emod_of_nonneg kb.1
  have t4 : n.tmod s = n % s := Int.tmod_eq_emod_of_nonneg n0
  obtain ⟨q1, hq1⟩ : ∃ q, n / s / t = q := ⟨_, rfl⟩
  obtain ⟨q2, hq2⟩ : ∃ q, n / s % t = q := ⟨_, rfl⟩
  obtain ⟨q3, hq3⟩ : ∃ q, n % s = q := ⟨_, rfl⟩
  rw [hq1] at t1 q1b ⊢
  rw [hq2] at t3 q2b ⊢
  rw [hq3] at t4 q3b ⊢
  obtain ⟨k, hk⟩ : ∃ k, n / s = k := ⟨_, rfl⟩
  rw [hk] at t2 t3 hq2 kb t1 hq1 q1b
  have wk : IntKind.i64.wrap k = k := by rw [IntKind.wrap_i64]; omega
  have wq : IntKind.i64.wrap q1 = q1 := by rw [IntKind.wrap_i64]; omega
  have wn : IntKind.i64.wrap n = n := by rw [IntKind.wrap_i64]; omega
  have ns : ¬ s = 0 := by omega
  have nt : ¬ t = 0 := by omega
  have HN := Lib.hid hn
  clear hz hz2 b1 b2
  obtain ⟨B0, hB0⟩ : ∃ B, w.heap.size = B := ⟨_, rfl⟩
  obtain ⟨W0, hW0⟩ : ∃ W, w.alloc (.cells #[.int .i64 r, .int .i64 b, .int .i64 t, .int .i64 s, .int .i64 o] 23) = W := ⟨_, rfl⟩
  have BW : Hid (Below w.heap.size w W0) := Lib.hid (by subst hW0; exact (Below.refl _ _).alloc (Nat.le_refl _) _)
  have R0 : Hid (Row W0 B0 23 #[.int .i64 r, .int .i64 b, .int .i64 t, .int .i64 s, .int .i64 o]) := Lib.hid (by subst hW0; exact gr_new w _ _ hB0)
  have c0 := R0.out.cell 0
  have c1 := R0.out.cell 1
  have c2 := R0.out.cell 2
  have c3 := R0.out.cell 3
  have c4 := R0.out.cell 4
  simp only [List.getElem?_toArray, List.getElem?_cons_zero, List.getElem?_cons_succ] at c0 c1 c2 c3 c4
  have HB0 := Lib.hid hB0
  have HW0 := Lib.hid hW0
  clear hB0 hW0
  go_enter Try.func64, Try.ntmps64
  go_wp2_with (first | rw [HB0.out] | rw [HW0.out])
  refine (pvalid_any r b t s o W0).mono ?_
  rintro e w1 ⟨rfl, hb⟩
  replace c0 := ce_fw c0 hb
  replace c1 := ce_fw c1 hb
  replace c2 := ce_fw c2 hb
  replace c3 := ce_fw c3 hb
  replace c4 := ce_fw c4 hb
  have B1 := Lib.hid (BW.out.trans (hb.mono BW.out.size))
  have R1 := Lib.hid (rw_fw R0.out hb)
  clear hb
  rw [decide_eq_true h]
  clear h
  have d1 : decide (a < r) = false := decide_eq_false (by omega)
  have d2 : decide (z ≤ a) = false := decide_eq_false (by omega)
  go_wp2_with fail
  refine (psize_any r b t s o w1).mono ?_
  rw [show Geo.size r b t s o = z from ES.out]
  rintro e w2 ⟨rfl, hb⟩
  replace c0 := ce_fw c0 hb
  replace c1 := ce_fw c1 hb
  replace c2 := ce_fw c2 hb
  replace c3 := ce_fw c3 hb
  replace c4 := ce_fw c4 hb
  have B2 := Lib.hid (B1.out.trans (hb.mono B1.out.size))
  have R2 := Lib.hid (rw_fw R1.out hb)
  clear hb
  have C2 := Lib.hid c2
  have C3 := Lib.hid c3
  go_wp2_with (first | rw [HN.out] | (go_quiet (fail)))
  refine bodyPost_ret (results_tmp4 rfl _ _ _) rfl ?_
  exact ⟨rfl, pdN (pdN B2.out _) _⟩
theorem ploc_any (r b t s o a : Int) (w : World) : Calls Try.prog 64 #[.agg #[.int .i64 r, .int .i64 b, .int .i64 t, .int .i64 s, .int .i64 o], .int .i64 a] w (gPost (locV (Geo.loc r b t s o a)) w) := by
  by_cases h : Geo.GV r b t s o
  · by_cases h1 : a < r
    · rw [show Geo.loc r b t s o a = (0, 0, 0, 2) by unfold Geo.loc; rw [if_pos h, if_neg (by omega)]]; exact ploc_low r b t s o a w h h1
    · have hz : Geo.size r b t s o = r + b * (t * s) := if_pos h
      by_cases h2 : r + b * (t * s) ≤ a
      · rw [show Geo.loc r b t s o a = (0, 0, 0, 2) by unfold Geo.loc; rw [if_pos h, if_neg (by omega)]]; exact ploc_high r b t s o a w h h1 _ hz h2
      · rw [show Geo.loc r b t s o a = ((a - r) / (t * s), (a - r) / s % t, (a - r) % s, 0) by unfold Geo.loc; rw [if_pos h, if_pos (by omega)]]; exact ploc_in r b t s o a w h h1 _ hz h2
  · rw [Geo.loc_bad h]; exact ploc_bad r b t s o a w h
end Go.Proofs.Ytbaclcpnnompnaa
