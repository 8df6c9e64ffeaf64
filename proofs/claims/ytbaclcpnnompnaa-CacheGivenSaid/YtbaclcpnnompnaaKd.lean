/- The reference's Locate. WRITTEN BY gen_Kd.py. -/
import Derived.Test.YtbaclcpnnompnaaKc
namespace Go.Proofs.Ytbaclcpnnompnaa
open Go Go.RowKit
set_option linter.unusedVariables false
set_option linter.unusedSimpArgs false
/-- What Locate returns, as one value. -/
def locV (q : Int × Int × Int × Int) : Value := .tuple #[.int .i64 q.1, .int .i64 q.2.1, .int .i64 q.2.2.1, .int .i64 q.2.2.2]
theorem results_tmp4 {fn : Func} {t u v x : Tmp} (h : fn.results = #[.tmp t, .tmp u, .tmp v, .tmp x]) (tmps : Array Value) (P : Program) (w : World) :
    (results fn tmps).run P w = .ok (.tuple #[tmps.getD t undef, tmps.getD u undef, tmps.getD v undef, tmps.getD x undef]) w := by
  simp [results, h]

set_option maxHeartbeats 4000000 in
set_option maxRecDepth 100000 in
theorem rloc_bad (r b t s o a : Int) (w : World) (h : ¬ Geo.GV r b t s o) : Calls Try.prog 66 #[.agg #[.int .i64 r, .int .i64 b, .int .i64 t, .int .i64 s, .int .i64 o], .int .i64 a] w (gPost (locV (0, 0, 0, 1)) w) := by
  obtain ⟨B0, hB0⟩ : ∃ B, w.heap.size = B := ⟨_, rfl⟩
  obtain ⟨W0, hW0⟩ : ∃ W, w.alloc (.cells #[.int .i64 r, .int .i64 b, .int .i64 t, .int .i64 s, .int .i64 o] 23) = W := ⟨_, rfl⟩
  have BW : Hid (Below w.heap.size w W0) := Lib.hid (by subst hW0; exact (Below.refl _ _).alloc (Nat.le_refl _) _)
  have R0 : Hid (Row W0 B0 23 #[.int .i64 r, .int .i64 b, .int .i64 t, .int .i64 s, .int .i64 o]) := Lib.hid (by subst hW0; exact gr_new w _ _ hB0)
  have c0 := R0.out.cell 0
  have c1 := R0.out.cell 1
  have c2 := R0.out.cell 2
  have c3 := R0.out.cell 3
  have c4 := R0.out.cell 4
  simp only [List.getElem?_toArray, List.getElem?_cons_zero, List.getElem?_cons_succ] at c0 c1 c2 c3 c4
  have HB0 := Lib.hid hB0
  have HW0 := Lib.hid hW0
  clear hB0 hW0
  go_enter Try.func66, Try.ntmps66
  go_wp2_with (first | rw [HB0.out] | rw [HW0.out])
  refine (rvalid_any r b t s o W0).mono ?_
  rintro e w1 ⟨rfl, hb⟩
  replace c0 := ce_fw c0 hb
  replace c1 := ce_fw c1 hb
  replace c2 := ce_fw c2 hb
  replace c3 := ce_fw c3 hb
  replace c4 := ce_fw c4 hb
  have B1 := Lib.hid (BW.out.trans (hb.mono BW.out.size))
  have R1 := Lib.hid (rw_fw R0.out hb)
  clear hb
  rw [decide_eq_false h]
  clear h
  go_wp2_with fail
  refine bodyPost_ret (results_tmp4 rfl _ _ _) rfl ?_
  exact ⟨rfl, B1.out⟩
set_option maxHeartbeats 4000000 in
set_option maxRecDepth 100000 in
theorem rloc_low (r b t s o a : Int) (w : World) (h : Geo.GV r b t s o) (h1 : a < r) : Calls Try.prog 66 #[.agg #[.int .i64 r, .int .i64 b, .int .i64 t, .int .i64 s, .int .i64 o], .int .i64 a] w (gPost (locV (0, 0, 0, 2)) w) := by
  obtain ⟨B0, hB0⟩ : ∃ B, w.heap.size = B := ⟨_, rfl⟩
  obtain ⟨W0, hW0⟩ : ∃ W, w.alloc (.cells #[.int .i64 r, .int .i64 b, .int .i64 t, .int .i64 s, .int .i64 o] 23) = W := ⟨_, rfl⟩
  have BW : Hid (Below w.heap.size w W0) := Lib.hid (by subst hW0; exact (Below.refl _ _).alloc (Nat.le_refl _) _)
  have R0 : Hid (Row W0 B0 23 #[.int .i64 r, .int .i64 b, .int .i64 t, .int .i64 s, .int .i64 o]) := Lib.hid (by subst hW0; exact gr_new w _ _ hB0)
  have c0 := R0.out.cell 0
  have c1 := R0.out.cell 1
  have c2 := R0.out.cell 2
  have c3 := R0.out.cell 3
  have c4 := R0.out.cell 4
  simp only [List.getElem?_toArray, List.getElem?_cons_zero, List.getElem?_cons_succ] at c0 c1 c2 c3 c4
  have HB0 := Lib.hid hB0
  have HW0 := Lib.hid hW0
  clear hB0 hW0
  go_enter Try.func66, Try.ntmps66
  go_wp2_with (first | rw [HB0.out] | rw [HW0.out])
  refine (rvalid_any r b t s o W0).mono ?_
  rintro e w1 ⟨rfl, hb⟩
  replace c0 := ce_fw c0 hb
  replace c1 := ce_fw c1 hb
  replace c2 := ce_fw c2 hb
  replace c3 := ce_fw c3 hb
  replace c4 := ce_fw c4 hb
  have B1 := Lib.hid (BW.out.trans (hb.mono BW.out.size))
  have R1 := Lib.hid (rw_fw R0.out hb)
  clear hb
  rw [decide_eq_true h]
  clear h
  have d1 : decide (a < r) = true := decide_eq_true (by omega)
  go_wp2_with fail
  refine bodyPost_ret (results_tmp4 rfl _ _ _) rfl ?_
  exact ⟨rfl, B1.out⟩
set_option maxHeartbeats 4000000 in
set_option maxRecDepth 100000 in
theorem rloc_high (r b t s o a : Int) (w : World) (h : Geo.GV r b t s o) (h1 : ¬ a < r) (z : Int) (hz : Geo.size r b t s o = z) (h2 : z ≤ a) : Calls Try.prog 66 #[.agg #[.int .i64 r, .int .i64 b, .int .i64 t, .int .i64 s, .int .i64 o], .int .i64 a] w (gPost (locV (0, 0, 0, 2)) w) := by
  have ES := Lib.hid hz
  clear hz
  obtain ⟨B0, hB0⟩ : ∃ B, w.heap.size = B := ⟨_, rfl⟩
  obtain ⟨W0, hW0⟩ : ∃ W, w.alloc (.cells #[.int .i64 r, .int .i64 b, .int .i64 t, .int .i64 s, .int .i64 o] 23) = W := ⟨_, rfl⟩
  have BW : Hid (Below w.heap.size w W0) := Lib.hid (by subst hW0; exact (Below.refl _ _).alloc (Nat.le_refl _) _)
  have R0 : Hid (Row W0 B0 23 #[.int .i64 r, .int .i64 b, .int .i64 t, .int .i64 s, .int .i64 o]) := Lib.hid (by subst hW0; exact gr_new w _ _ hB0)
  have c0 := R0.out.cell 0
  have c1 := R0.out.cell 1
  have c2 := R0.out.cell 2
  have c3 := R0.out.cell 3
  have c4 := R0.out.cell 4
  simp only [List.getElem?_toArray, List.getElem?_cons_zero, List.getElem?_cons_succ] at c0 c1 c2 c3 c4
  have HB0 := Lib.hid hB0
  have HW0 := Lib.hid hW0
  clear hB0 hW0
  go_enter Try.func66, Try.ntmps66
  go_wp2_with (first | rw [HB0.out] | rw [HW0.out])
  refine (rvalid_any r b t s o W0).mono ?_
  rintro e w1 ⟨rfl, hb⟩
  replace c0 := ce_fw c0 hb
  replace c1 := ce_fw c1 hb
  replace c2 := ce_fw c2 hb
  replace c3 := ce_fw c3 hb
  replace c4 := ce_fw c4 hb
  have B1 := Lib.hid (BW.out.trans (hb.mono BW.out.size))
  have R1 := Lib.hid (rw_fw R0.out hb)
  clear hb
  rw [decide_eq_true h]
  clear h
  have d1 : decide (a < r) = false := decide_eq_false (by omega)
  have d2 : decide (z ≤ a) = true := decide_eq_true (by omega)
  go_wp2_with fail
  refine (rsize_any r b t s o w1).mono ?_
  rw [show Geo.size r b t s o = z from ES.out]
  rintro e w2 ⟨rfl, hb⟩
  replace c0 := ce_fw c0 hb
  replace c1 := ce_fw c1 hb
  replace c2 := ce_fw c2 hb
  replace c3 := ce_fw c3 hb
  replace c4 := ce_fw c4 hb
  have B2 := Lib.hid (B1.out.trans (hb.mono B1.out.size))
  have R2 := Lib.hid (rw_fw R1.out hb)
  clear hb
  go_wp2_with fail
  refine bodyPost_ret (results_tmp4 rfl _ _ _) rfl ?_
  exact ⟨rfl, B2.out⟩
set_option maxHeartbeats 4000000 in
set_option maxRecDepth 100000 in
theorem rloc_in (r b t s o a : Int) (w : World) (h : Geo.GV r b t s o) (h1 : ¬ a < r) (z : Int) (hz : Geo.size r b t s o = z) (h2 : ¬ z ≤ a) : Calls Try.prog 66 #[.agg #[.int .i64 r, .int .i64 b, .int .i64 t, .int .i64 s, .int .i64 o], .int .i64 a] w (gPost (locV ((a - r) / (t * s), (a - r) / s % t, (a - r) % s, 0)) w) := by
  have ES := Lib.hid hz
  have hz2 := hz
  rw [show Geo.size r b t s o = r + b * (t * s) from if_pos h] at hz2
  obtain ⟨m, hm⟩ : ∃ m, t * s = m := ⟨_, rfl⟩
  have EB := Lib.hid (show Geo.band r b t s o = m by rw [← hm]; exact if_pos h)
  have h' := h
  unfold Geo.GV at h'
  have b1 := gm (t := t) (s := s) (a := 16) (c := 64) (by omega) (by omega) (by omega) (by omega)
  have p1 : 0 < t * s := Int.mul_pos (by omega) (by omega)
  rw [hm] at b1 hz2 p1
  have b2 := gm (t := b) (s := m) (a := 64) (c := 1024) (by omega) (by omega) (by omega) (by omega)
  obtain ⟨n, hn⟩ : ∃ n, a - r = n := ⟨_, rfl⟩
  have n0 : 0 ≤ n := by omega
  have n1 : n ≤ 65536 := by omega
  rw [hn, hm]
  have q1b : 0 ≤ n / m ∧ n / m ≤ n := ⟨Int.ediv_nonneg n0 (by omega), Int.ediv_le_self _ n0⟩
  have kb : 0 ≤ n / s ∧ n / s ≤ n := ⟨Int.ediv_nonneg n0 (by omega), Int.ediv_le_self _ n0⟩
  have q2b : 0 ≤ n / s % t ∧ n / s % t < t := ⟨Int.emod_nonneg _ (by omega), Int.emod_lt_of_pos _ (by omega)⟩
  have q3b : 0 ≤ n % s ∧ n % s < s := ⟨Int.emod_nonneg _ (by omega), Int.emod_lt_of_pos _ (by omega)⟩
  have t1 : n.tdiv m = n / m := Int.tdiv_eq_ediv_of_nonneg n0
  have t2 : n.tdiv s = n / s := Int.tdiv_eq_ediv_of_nonneg n0
  have t3 : (n / s).tmod t = n / s % t := Int.tmod_eq_emod_of_nonneg kb.1
  have t4 : n.tmod s = n % s := Int.tmod_eq_emod_of_nonneg n0
  obtain ⟨q1, hq1⟩ : ∃ q, n / m = q := ⟨_, rfl⟩
  obtain ⟨q2, hq2⟩ : ∃ q, n / s % t = q := ⟨_, rfl⟩
  obtain ⟨q3, hq3⟩ : ∃ q, n % s = q := ⟨_, rfl⟩
  rw [hq1] at t1 q1b ⊢
  rw [hq2] at t3 q2b ⊢
  rw [hq3] at t4 q3b ⊢
  obtain ⟨k, hk⟩ : ∃ k, n / s = k := ⟨_, rfl⟩
  rw [hk] at t2 t3 hq2 kb
  have wk : IntKind.i64.wrap k = k := by rw [IntKind.wrap_i64]; omega
  have wq : IntKind.i64.wrap q1 = q1 := by rw [IntKind.wrap_i64]; omega
  have nm : ¬ m = 0 := by omega
  have ns : ¬ s = 0 := by omega
  have nt : ¬ t = 0 := by omega
  have HN := Lib.hid hn
  clear hz hz2 hm b1 b2
  obtain ⟨B0, hB0⟩ : ∃ B, w.heap.size = B := ⟨_, rfl⟩
  obtain ⟨W0, hW0⟩ : ∃ W, w.alloc (.cells #[.int .i64 r, .int .i64 b, .int .i64 t, .int .i64 s, .int .i64 o] 23) = W := ⟨_, rfl⟩
  have BW : Hid (Below w.heap.size w W0) := Lib.hid (by subst hW0; exact (Below.refl _ _).alloc (Nat.le_refl _) _)
  have R0 : Hid (Row W0 B0 23 #[.int .i64 r, .int .i64 b, .int .i64 t, .int .i64 s, .int .i64 o]) := Lib.hid (by subst hW0; exact gr_new w _ _ hB0)
  have c0 := R0.out.cell 0
  have c1 := R0.out.cell 1
  have c2 := R0.out.cell 2
  have c3 := R0.out.cell 3
  have c4 := R0.out.cell 4
  simp only [List.getElem?_toArray, List.getElem?_cons_zero, List.getElem?_cons_succ] at c0 c1 c2 c3 c4
  have HB0 := Lib.hid hB0
  have HW0 := Lib.hid hW0
  clear hB0 hW0
  go_enter Try.func66, Try.ntmps66
  go_wp2_with (first | rw [HB0.out] | rw [HW0.out])
  refine (rvalid_any r b t s o W0).mono ?_
  rintro e w1 ⟨rfl, hb⟩
  replace c0 := ce_fw c0 hb
  replace c1 := ce_fw c1 hb
  replace c2 := ce_fw c2 hb
  replace c3 := ce_fw c3 hb
  replace c4 := ce_fw c4 hb
  have B1 := Lib.hid (BW.out.trans (hb.mono BW.out.size))
  have R1 := Lib.hid (rw_fw R0.out hb)
  clear hb
  rw [decide_eq_true h]
  clear h
  have d1 : decide (a < r) = false := decide_eq_false (by omega)
  have d2 : decide (z ≤ a) = false := decide_eq_false (by omega)
  go_wp2_with fail
  refine (rsize_any r b t s o w1).mono ?_
  rw [show Geo.size r b t s o = z from ES.out]
  rintro e w2 ⟨rfl, hb⟩
  replace c0 := ce_fw c0 hb
  replace c1 := ce_fw c1 hb
  replace c2 := ce_fw c2 hb
  replace c3 := ce_fw c3 hb
  replace c4 := ce_fw c4 hb
  have B2 := Lib.hid (B1.out.trans (hb.mono B1.out.size))
  have R2 := Lib.hid (rw_fw R1.out hb)
  clear hb
  have C2 := Lib.hid c2
  have C3 := Lib.hid c3
  go_wp2_with fail
  clear c0 c1 c2 c3 c4
  refine wp_region_held (P := Try.prog) (S := (fun w' : World => Below w2.heap.size w2 w')) rfl ?_
  change wpAnyH _ _ _ _ _ _ _ _ w2.drew
  have hz2 : Below w2.heap.size w2 w2.drew := (Below.refl w2.heap.size w2).drew
  generalize w2.drew = wz1 at hz2 ⊢
  have R_3 := Lib.hid (rw_fw R2.out (hz2))
  have C2_4 := Lib.hid (ce_fw C2.out (hz2))
  have C3_5 := Lib.hid (ce_fw C3.out (hz2))
  have hl6 := hz2
  have HT_7 : Hid (Below w2.heap.size w2 wz1) := Lib.hid (hl6)
  refine wpAnyH_up (S' := (fun w' : World => Below wz1.heap.size wz1 w')) (fun w' h => hz2.trans (h.mono hz2.size)) ?_
  have hS8 : (fun w' : World => Below wz1.heap.size wz1 w') wz1 := Below.refl _ _
  refine takeD (i := 0) (v := .int .i64 n) (some 26) rfl rfl (by kernel_rfl) (by kernel_rfl) (by kernel_rfl) (fun _ _ _ h => h) (Or.inl ⟨by rfl, by rintro w' -; go_simp⟩) hS8 ?_
  simp only [Act.put, List.setIfInBounds_toArray, List.set_cons_zero, List.set_cons_succ]
  refine takeD (i := 1) (v := .agg #[.int .i64 r, .int .i64 b, .int .i64 t, .int .i64 s, .int .i64 o]) (some 27) rfl rfl (by kernel_rfl) (by kernel_rfl) (by kernel_rfl) (fun _ _ _ h => h) (yieldsIf_load_mid (by rfl) _ _ rfl B0 0 rfl (#[.int .i64 r, .int .i64 b, .int .i64 t, .int .i64 s, .int .i64 o]).toList _ (fun w' h => gr_rng (rw_fw R_3.out h)) Try.underlying23 rfl (by kernel_rfl)) hS8 ?_
  simp only [Act.put, List.setIfInBounds_toArray, List.set_cons_zero, List.set_cons_succ]
  refine takeD (i := 4) (v := .int .i64 n) (some 30) rfl rfl (by kernel_rfl) (by kernel_rfl) (by kernel_rfl) (fun _ _ _ h => h) (Or.inl ⟨by rfl, by rintro w' -; go_simp⟩) hS8 ?_
  simp only [Act.put, List.setIfInBounds_toArray, List.set_cons_zero, List.set_cons_succ]
  refine takeD (i := 5) (v := .pointer (some ⟨B0, 3, none⟩)) (some 31) rfl rfl (by kernel_rfl) (by kernel_rfl) (by kernel_rfl) (fun _ _ _ h => h) (Or.inl ⟨by rfl, by rintro w' -; go_simp⟩) hS8 ?_
  simp only [Act.put, List.setIfInBounds_toArray, List.set_cons_zero, List.set_cons_succ]
  refine takeD (i := 6) (v := .int .i64 s) (some 32) rfl rfl (by kernel_rfl) (by kernel_rfl) (by kernel_rfl) (fun _ _ _ h => h) (Or.inl ⟨by rfl, by rintro w' h; have hc := ce_fw C3_5.out h; go_simp⟩) hS8 ?_
  simp only [Act.put, List.setIfInBounds_toArray, List.set_cons_zero, List.set_cons_succ]
  refine takeD (i := 7) (v := .int .i64 k) (some 33) rfl rfl (by kernel_rfl) (by kernel_rfl) (by kernel_rfl) (fun _ _ _ h => h) (Or.inl ⟨by rfl, by rintro w' -; go_simp⟩) hS8 ?_
  simp only [Act.put, List.setIfInBounds_toArray, List.set_cons_zero, List.set_cons_succ]
  refine takeD (i := 8) (v := .pointer (some ⟨B0, 2, none⟩)) (some 34) rfl rfl (by kernel_rfl) (by kernel_rfl) (by kernel_rfl) (fun _ _ _ h => h) (Or.inl ⟨by rfl, by rintro w' -; go_simp⟩) hS8 ?_
  simp only [Act.put, List.setIfInBounds_toArray, List.set_cons_zero, List.set_cons_succ]
  refine takeD (i := 9) (v := .int .i64 t) (some 35) rfl rfl (by kernel_rfl) (by kernel_rfl) (by kernel_rfl) (fun _ _ _ h => h) (Or.inl ⟨by rfl, by rintro w' h; have hc := ce_fw C2_4.out h; go_simp⟩) hS8 ?_
  simp only [Act.put, List.setIfInBounds_toArray, List.set_cons_zero, List.set_cons_succ]
  refine takeD (i := 10) (v := .int .i64 q2) (some 36) rfl rfl (by kernel_rfl) (by kernel_rfl) (by kernel_rfl) (fun _ _ _ h => h) (Or.inl ⟨by rfl, by rintro w' -; go_simp⟩) hS8 ?_
  simp only [Act.put, List.setIfInBounds_toArray, List.set_cons_zero, List.set_cons_succ]
  refine takeD (i := 11) (v := .int .i64 n) (some 37) rfl rfl (by kernel_rfl) (by kernel_rfl) (by kernel_rfl) (fun _ _ _ h => h) (Or.inl ⟨by rfl, by rintro w' -; go_simp⟩) hS8 ?_
  simp only [Act.put, List.setIfInBounds_toArray, List.set_cons_zero, List.set_cons_succ]
  refine takeD (i := 12) (v := .pointer (some ⟨B0, 3, none⟩)) (some 38) rfl rfl (by kernel_rfl) (by kernel_rfl) (by kernel_rfl) (fun _ _ _ h => h) (Or.inl ⟨by rfl, by rintro w' -; go_simp⟩) hS8 ?_
  simp only [Act.put, List.setIfInBounds_toArray, List.set_cons_zero, List.set_cons_succ]
  refine takeD (i := 13) (v := .int .i64 s) (some 39) rfl rfl (by kernel_rfl) (by kernel_rfl) (by kernel_rfl) (fun _ _ _ h => h) (Or.inl ⟨by rfl, by rintro w' h; have hc := ce_fw C3_5.out h; go_simp⟩) hS8 ?_
  simp only [Act.put, List.setIfInBounds_toArray, List.set_cons_zero, List.set_cons_succ]
  refine takeD (i := 14) (v := .int .i64 q3) (some 40) rfl rfl (by kernel_rfl) (by kernel_rfl) (by kernel_rfl) (fun _ _ _ h => h) (Or.inl ⟨by rfl, by rintro w' -; go_simp⟩) hS8 ?_
  simp only [Act.put, List.setIfInBounds_toArray, List.set_cons_zero, List.set_cons_succ]
  refine wpAnyH_ready (rs := [2]) (by kernel_rfl) (by simp) ?_
  refine AllReadyH.cons rfl (fun K9 hK9 => ?_) AllReadyH.nil
  have HK9 := Lib.hid hK9
  clear hK9
  rw [if_pos (by rfl)]
  go_simp
  refine (rband_any r b t s o _).mono ?_
  rintro e x10 ⟨rfl, hb11⟩
  have R_12 := Lib.hid (rw_fw R_3.out (hb11))
  have C2_13 := Lib.hid (ce_fw C2_4.out (hb11))
  have C3_14 := Lib.hid (ce_fw C3_5.out (hb11))
  have hl15 := hb11
  have HT_16 : Hid (Below w2.heap.size w2 x10) := Lib.hid (HT_7.out.trans ((hl15).mono HT_7.out.size))
  clear hb11 
  rw [EB.out]
  have hb18 : Below wz1.heap.size wz1 x10 := hl15
  have hS17 : (fun w' : World => Below wz1.heap.size wz1 w') x10 := hb18
  refine HK9.out _ _ hS17 fun _ => ?_
  try simp only [Act.put, List.setIfInBounds_toArray, List.set_cons_zero, List.set_cons_succ]
  refine wpAnyH_up (S' := (fun w' : World => Below x10.heap.size x10 w')) (fun w' h => hb18.trans (h.mono hb18.size)) ?_
  have hS19 : (fun w' : World => Below x10.heap.size x10 w') x10 := Below.refl _ _
  refine takeD (i := 3) (v := .int .i64 q1) (some 29) rfl rfl (by kernel_rfl) (by kernel_rfl) (by kernel_rfl) (fun _ _ _ h => h) (Or.inl ⟨by rfl, by rintro w' -; go_simp⟩) hS19 ?_
  simp only [Act.put, List.setIfInBounds_toArray, List.set_cons_zero, List.set_cons_succ]
  refine takeD (i := 15) (v := .int .i64 q1) (some 4) rfl rfl (by kernel_rfl) (by kernel_rfl) (by kernel_rfl) (fun _ _ _ h => h) (Or.inl ⟨by rfl, by rintro w' -; go_simp⟩) hS19 ?_
  simp only [Act.put, List.setIfInBounds_toArray, List.set_cons_zero, List.set_cons_succ]
  refine takeD (i := 16) (v := .int .i64 q2) (some 5) rfl rfl (by kernel_rfl) (by kernel_rfl) (by kernel_rfl) (fun _ _ _ h => h) (Or.inl ⟨by rfl, by rintro w' -; go_simp⟩) hS19 ?_
  simp only [Act.put, List.setIfInBounds_toArray, List.set_cons_zero, List.set_cons_succ]
  refine takeD (i := 17) (v := .int .i64 q3) (some 6) rfl rfl (by kernel_rfl) (by kernel_rfl) (by kernel_rfl) (fun _ _ _ h => h) (Or.inl ⟨by rfl, by rintro w' -; go_simp⟩) hS19 ?_
  simp only [Act.put, List.setIfInBounds_toArray, List.set_cons_zero, List.set_cons_succ]
  refine takeD (i := 18) (v := .int .i64 0) (some 7) rfl rfl (by kernel_rfl) (by kernel_rfl) (by kernel_rfl) (fun _ _ _ h => h) (Or.inl ⟨by rfl, by rintro w' -; go_simp⟩) hS19 ?_
  simp only [Act.put, List.setIfInBounds_toArray, List.set_cons_zero, List.set_cons_succ]
  refine wpAnyH_done (by kernel_rfl) ?_ _
  go_wp2_with fail
  refine bodyPost_ret (results_tmp4 rfl _ _ _) rfl ?_
  exact ⟨rfl, B2.out.trans (HT_16.out.mono B2.out.size)⟩
theorem rloc_any (r b t s o a : Int) (w : World) : Calls Try.prog 66 #[.agg #[.int .i64 r, .int .i64 b, .int .i64 t, .int .i64 s, .int .i64 o], .int .i64 a] w (gPost (locV (Geo.loc r b t s o a)) w) := by
  by_cases h : Geo.GV r b t s o
  · by_cases h1 : a < r
    · rw [show Geo.loc r b t s o a = (0, 0, 0, 2) by unfold Geo.loc; rw [if_pos h, if_neg (by omega)]]; exact rloc_low r b t s o a w h h1
    · have hz : Geo.size r b t s o = r + b * (t * s) := if_pos h
      by_cases h2 : r + b * (t * s) ≤ a
      · rw [show Geo.loc r b t s o a = (0, 0, 0, 2) by unfold Geo.loc; rw [if_pos h, if_neg (by omega)]]; exact rloc_high r b t s o a w h h1 _ hz h2
      · rw [show Geo.loc r b t s o a = ((a - r) / (t * s), (a - r) / s % t, (a - r) % s, 0) by unfold Geo.loc; rw [if_pos h, if_pos (by omega)]]; exact rloc_in r b t s o a w h h1 _ hz h2
  · rw [Geo.loc_bad h]; exact rloc_bad r b t s o a w h
end Go.Proofs.Ytbaclcpnnompnaa
