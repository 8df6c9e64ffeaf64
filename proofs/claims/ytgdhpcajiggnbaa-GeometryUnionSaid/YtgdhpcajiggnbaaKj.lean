/- Layer 10: the walk of GeometryUnion. WRITTEN BY gen_Kj.py. -/
import Derived.Test.YtgdhpcajiggnbaaKe
namespace Go.Proofs.Ytgdhpcajiggnbaa
open Go Go.RowKit
set_option linter.unusedVariables false
set_option linter.unusedSimpArgs false

set_option maxHeartbeats 4000000 in
set_option maxRecDepth 100000 in
theorem guni_bad (r b t s o x : Int) (w : World) (h : ¬ Geo.GV r b t s o) : Calls Try.prog 9 #[.agg #[.int .i64 r, .int .i64 b, .int .i64 t, .int .i64 s, .int .i64 o], .int .i64 x] w (lawPost w) := by
  have V := Lib.hid fun w => rvalid_any r b t s o w
  rw [decide_eq_false h] at V
  clear h
  obtain ⟨B0, hB0⟩ : ∃ B, w.heap.size = B := ⟨_, rfl⟩
  obtain ⟨W0, hW0⟩ : ∃ W, w.alloc (.cells #[.int .i64 r, .int .i64 b, .int .i64 t, .int .i64 s, .int .i64 o] 23) = W := ⟨_, rfl⟩
  have BW : Hid (Below w.heap.size w W0) := Lib.hid (by subst hW0; exact (Below.refl _ _).alloc (Nat.le_refl _) _)
  have R0 : Hid (Row W0 B0 23 #[.int .i64 r, .int .i64 b, .int .i64 t, .int .i64 s, .int .i64 o]) := Lib.hid (by subst hW0; exact gr_new w _ _ hB0)
  have c0 := R0.out.cell 0
  have c1 := R0.out.cell 1
  have c2 := R0.out.cell 2
  have c3 := R0.out.cell 3
  have c4 := R0.out.cell 4
  simp only [List.getElem?_toArray, List.getElem?_cons_zero, List.getElem?_cons_succ] at c0 c1 c2 c3 c4
  have HB0 := Lib.hid hB0
  have HW0 := Lib.hid hW0
  clear hB0 hW0
  go_enter Try.func9, Try.ntmps9
  go_wp2_with (first | rw [HB0.out] | rw [HW0.out])
  refine (awake10 _).mono ?_
  rintro e x1 ⟨rfl, hb⟩
  replace c0 := ce_fw c0 hb
  replace c1 := ce_fw c1 hb
  replace c2 := ce_fw c2 hb
  replace c3 := ce_fw c3 hb
  replace c4 := ce_fw c4 hb
  have D1 := Lib.hid (BW.out.trans (hb.mono BW.out.size))
  have Q1 := Lib.hid (rw_fw R0.out hb)
  clear hb
  go_wp2_with fail
  refine (V.out _).mono ?_
  rintro e x2 ⟨rfl, hb⟩
  replace c0 := ce_fw c0 hb
  replace c1 := ce_fw c1 hb
  replace c2 := ce_fw c2 hb
  replace c3 := ce_fw c3 hb
  replace c4 := ce_fw c4 hb
  have D2 := Lib.hid (D1.out.trans (hb.mono D1.out.size))
  have Q2 := Lib.hid (rw_fw Q1.out hb)
  clear hb
  go_wp2_with fail
  refine (awake10 _).mono ?_
  rintro e x3 ⟨rfl, hb⟩
  replace c0 := ce_fw c0 hb
  replace c1 := ce_fw c1 hb
  replace c2 := ce_fw c2 hb
  replace c3 := ce_fw c3 hb
  replace c4 := ce_fw c4 hb
  have D3 := Lib.hid (D2.out.trans (hb.mono D2.out.size))
  have Q3 := Lib.hid (rw_fw Q2.out hb)
  clear hb
  go_wp2_with fail
  go_ret
  exact ⟨rfl, D3.out⟩

set_option maxHeartbeats 4000000 in
set_option maxRecDepth 100000 in
theorem guni_neg (r b t s o x : Int) (w : World) (h : Geo.GV r b t s o) (h0 : x < 0) : Calls Try.prog 9 #[.agg #[.int .i64 r, .int .i64 b, .int .i64 t, .int .i64 s, .int .i64 o], .int .i64 x] w (lawPost w) := by
  have V := Lib.hid fun w => rvalid_any r b t s o w
  rw [decide_eq_true h] at V
  clear h
  have d : decide (x < (0 : Int)) = true := decide_eq_true h0
  obtain ⟨B0, hB0⟩ : ∃ B, w.heap.size = B := ⟨_, rfl⟩
  obtain ⟨W0, hW0⟩ : ∃ W, w.alloc (.cells #[.int .i64 r, .int .i64 b, .int .i64 t, .int .i64 s, .int .i64 o] 23) = W := ⟨_, rfl⟩
  have BW : Hid (Below w.heap.size w W0) := Lib.hid (by subst hW0; exact (Below.refl _ _).alloc (Nat.le_refl _) _)
  have R0 : Hid (Row W0 B0 23 #[.int .i64 r, .int .i64 b, .int .i64 t, .int .i64 s, .int .i64 o]) := Lib.hid (by subst hW0; exact gr_new w _ _ hB0)
  have c0 := R0.out.cell 0
  have c1 := R0.out.cell 1
  have c2 := R0.out.cell 2
  have c3 := R0.out.cell 3
  have c4 := R0.out.cell 4
  simp only [List.getElem?_toArray, List.getElem?_cons_zero, List.getElem?_cons_succ] at c0 c1 c2 c3 c4
  have HB0 := Lib.hid hB0
  have HW0 := Lib.hid hW0
  clear hB0 hW0
  go_enter Try.func9, Try.ntmps9
  go_wp2_with (first | rw [HB0.out] | rw [HW0.out])
  refine (awake10 _).mono ?_
  rintro e x1 ⟨rfl, hb⟩
  replace c0 := ce_fw c0 hb
  replace c1 := ce_fw c1 hb
  replace c2 := ce_fw c2 hb
  replace c3 := ce_fw c3 hb
  replace c4 := ce_fw c4 hb
  have D1 := Lib.hid (BW.out.trans (hb.mono BW.out.size))
  have Q1 := Lib.hid (rw_fw R0.out hb)
  clear hb
  go_wp2_with fail
  refine (V.out _).mono ?_
  rintro e x2 ⟨rfl, hb⟩
  replace c0 := ce_fw c0 hb
  replace c1 := ce_fw c1 hb
  replace c2 := ce_fw c2 hb
  replace c3 := ce_fw c3 hb
  replace c4 := ce_fw c4 hb
  have D2 := Lib.hid (D1.out.trans (hb.mono D1.out.size))
  have Q2 := Lib.hid (rw_fw Q1.out hb)
  clear hb
  go_wp2_with fail
  refine (awake10 _).mono ?_
  rintro e x3 ⟨rfl, hb⟩
  replace c0 := ce_fw c0 hb
  replace c1 := ce_fw c1 hb
  replace c2 := ce_fw c2 hb
  replace c3 := ce_fw c3 hb
  replace c4 := ce_fw c4 hb
  have D3 := Lib.hid (D2.out.trans (hb.mono D2.out.size))
  have Q3 := Lib.hid (rw_fw Q2.out hb)
  clear hb
  go_wp2_with fail
  go_ret
  exact ⟨rfl, D3.out⟩

set_option maxHeartbeats 4000000 in
set_option maxRecDepth 100000 in
theorem guni_high (r b t s o x : Int) (w : World) (h : Geo.GV r b t s o) (h0 : ¬ x < 0) (h1 : b ≤ x) : Calls Try.prog 9 #[.agg #[.int .i64 r, .int .i64 b, .int .i64 t, .int .i64 s, .int .i64 o], .int .i64 x] w (lawPost w) := by
  have V := Lib.hid fun w => rvalid_any r b t s o w
  rw [decide_eq_true h] at V
  clear h
  have d : decide (x < (0 : Int)) = false := decide_eq_false h0
  have d1 : decide (b ≤ x) = true := decide_eq_true h1
  obtain ⟨B0, hB0⟩ : ∃ B, w.heap.size = B := ⟨_, rfl⟩
  obtain ⟨W0, hW0⟩ : ∃ W, w.alloc (.cells #[.int .i64 r, .int .i64 b, .int .i64 t, .int .i64 s, .int .i64 o] 23) = W := ⟨_, rfl⟩
  have BW : Hid (Below w.heap.size w W0) := Lib.hid (by subst hW0; exact (Below.refl _ _).alloc (Nat.le_refl _) _)
  have R0 : Hid (Row W0 B0 23 #[.int .i64 r, .int .i64 b, .int .i64 t, .int .i64 s, .int .i64 o]) := Lib.hid (by subst hW0; exact gr_new w _ _ hB0)
  have c0 := R0.out.cell 0
  have c1 := R0.out.cell 1
  have c2 := R0.out.cell 2
  have c3 := R0.out.cell 3
  have c4 := R0.out.cell 4
  simp only [List.getElem?_toArray, List.getElem?_cons_zero, List.getElem?_cons_succ] at c0 c1 c2 c3 c4
  have HB0 := Lib.hid hB0
  have HW0 := Lib.hid hW0
  clear hB0 hW0
  go_enter Try.func9, Try.ntmps9
  go_wp2_with (first | rw [HB0.out] | rw [HW0.out])
  refine (awake10 _).mono ?_
  rintro e x1 ⟨rfl, hb⟩
  replace c0 := ce_fw c0 hb
  replace c1 := ce_fw c1 hb
  replace c2 := ce_fw c2 hb
  replace c3 := ce_fw c3 hb
  replace c4 := ce_fw c4 hb
  have D1 := Lib.hid (BW.out.trans (hb.mono BW.out.size))
  have Q1 := Lib.hid (rw_fw R0.out hb)
  clear hb
  go_wp2_with fail
  refine (V.out _).mono ?_
  rintro e x2 ⟨rfl, hb⟩
  replace c0 := ce_fw c0 hb
  replace c1 := ce_fw c1 hb
  replace c2 := ce_fw c2 hb
  replace c3 := ce_fw c3 hb
  replace c4 := ce_fw c4 hb
  have D2 := Lib.hid (D1.out.trans (hb.mono D1.out.size))
  have Q2 := Lib.hid (rw_fw Q1.out hb)
  clear hb
  go_wp2_with fail
  refine (awake10 _).mono ?_
  rintro e x3 ⟨rfl, hb⟩
  replace c0 := ce_fw c0 hb
  replace c1 := ce_fw c1 hb
  replace c2 := ce_fw c2 hb
  replace c3 := ce_fw c3 hb
  replace c4 := ce_fw c4 hb
  have D3 := Lib.hid (D2.out.trans (hb.mono D2.out.size))
  have Q3 := Lib.hid (rw_fw Q2.out hb)
  clear hb
  go_wp2_with fail
  go_ret
  exact ⟨rfl, D3.out⟩

set_option maxHeartbeats 4000000 in
set_option maxRecDepth 100000 in
theorem guni_in (r b t s o x : Int) (w : World) (h : Geo.GV r b t s o) (h0 : ¬ x < 0) (h1 : ¬ b ≤ x) : Calls Try.prog 9 #[.agg #[.int .i64 r, .int .i64 b, .int .i64 t, .int .i64 s, .int .i64 o], .int .i64 x] w (lawPost w) := by
  have h' := h
  unfold Geo.GV at h'
  have V := Lib.hid fun w => rvalid_any r b t s o w
  have Y := Lib.hid fun w => pband_any r b t s o w
  have A1 := Lib.hid fun w => paddr_any r b t s o x 0 0 w
  have A2 := Lib.hid fun w => paddr_any r b t s o x (t - 1) (s - 1) w
  have Z := Lib.hid fun w => psize_any r b t s o w
  rw [show Geo.band r b t s o = t * s from if_pos h] at Y
  rw [show Geo.size r b t s o = r + b * (t * s) from if_pos h] at Z
  rw [show Geo.addr r b t s o x 0 0 = (r + (x * t + 0) * s + 0, 0) by unfold Geo.addr; rw [if_pos h, if_pos (by omega)]] at A1
  rw [show Geo.addr r b t s o x (t - 1) (s - 1) = (r + (x * t + (t - 1)) * s + (s - 1), 0) by unfold Geo.addr; rw [if_pos h, if_pos (by omega)]] at A2
  rw [decide_eq_true h] at V
  have e1 : r + (x * t + 0) * s + 0 = r + x * (t * s) := by rw [Int.add_zero, Int.add_zero, Int.mul_assoc]
  have e2 : r + (x * t + (t - 1)) * s + (s - 1) = r + x * (t * s) + t * s - 1 := by
    have : (x * t + (t - 1)) * s = x * (t * s) + (t * s - s) := by rw [Int.add_mul, Int.sub_mul, Int.one_mul, Int.mul_assoc]
    rw [this]; omega
  rw [e1] at A1
  rw [e2] at A2
  obtain ⟨m, hm⟩ : ∃ m, t * s = m := ⟨_, rfl⟩
  have b1 := gm (t := t) (s := s) (a := 16) (c := 64) (by omega) (by omega) (by omega) (by omega)
  rw [hm] at b1 A1 A2 Y Z
  have b2 := gm (t := x) (s := m) (a := 64) (c := 1024) (by omega) (by omega) (by omega) (by omega)
  have b3 := gm (t := b) (s := m) (a := 64) (c := 1024) (by omega) (by omega) (by omega) (by omega)
  obtain ⟨xm, hxm⟩ : ∃ v, x * m = v := ⟨_, rfl⟩
  obtain ⟨bm, hbm⟩ : ∃ v, b * m = v := ⟨_, rfl⟩
  rw [hxm] at b2 A1 A2
  rw [hbm] at b3 Z
  obtain ⟨f, hf⟩ : ∃ v, r + xm = v := ⟨_, rfl⟩
  obtain ⟨z, hz⟩ : ∃ v, r + bm = v := ⟨_, rfl⟩
  rw [hf] at A1 A2
  rw [hz] at Z
  obtain ⟨g, hg⟩ : ∃ v, f + m = v := ⟨_, rfl⟩
  rw [hg] at A2
  obtain ⟨l, hl⟩ : ∃ v, g - 1 = v := ⟨_, rfl⟩
  rw [hl] at A2
  have k1 : IntKind.i64.wrap xm = xm := by rw [IntKind.wrap_i64]; omega
  have k2 : IntKind.i64.wrap bm = bm := by rw [IntKind.wrap_i64]; omega
  have k3 : IntKind.i64.wrap f = f := by rw [IntKind.wrap_i64]; omega
  have k4 : IntKind.i64.wrap z = z := by rw [IntKind.wrap_i64]; omega
  have k5 : IntKind.i64.wrap g = g := by rw [IntKind.wrap_i64]; omega
  have k6 : IntKind.i64.wrap l = l := by rw [IntKind.wrap_i64]; omega
  have EE := Lib.hid (And.intro hxm (And.intro hbm (And.intro hf (And.intro hz (And.intro hg hl)))))
  clear hm h b2 b3 hxm hbm hf hz hg hl e1 e2
  have d : decide (x < (0 : Int)) = false := decide_eq_false h0
  have d1 : decide (b ≤ x) = false := decide_eq_false h1
  obtain ⟨B0, hB0⟩ : ∃ B, w.heap.size = B := ⟨_, rfl⟩
  obtain ⟨W0, hW0⟩ : ∃ W, w.alloc (.cells #[.int .i64 r, .int .i64 b, .int .i64 t, .int .i64 s, .int .i64 o] 23) = W := ⟨_, rfl⟩
  have BW : Hid (Below w.heap.size w W0) := Lib.hid (by subst hW0; exact (Below.refl _ _).alloc (Nat.le_refl _) _)
  have R0 : Hid (Row W0 B0 23 #[.int .i64 r, .int .i64 b, .int .i64 t, .int .i64 s, .int .i64 o]) := Lib.hid (by subst hW0; exact gr_new w _ _ hB0)
  have c0 := R0.out.cell 0
  have c1 := R0.out.cell 1
  have c2 := R0.out.cell 2
  have c3 := R0.out.cell 3
  have c4 := R0.out.cell 4
  simp only [List.getElem?_toArray, List.getElem?_cons_zero, List.getElem?_cons_succ] at c0 c1 c2 c3 c4
  have HB0 := Lib.hid hB0
  have HW0 := Lib.hid hW0
  clear hB0 hW0
  go_enter Try.func9, Try.ntmps9
  go_wp2_with (first | rw [HB0.out] | rw [HW0.out])
  refine (awake10 _).mono ?_
  rintro e x1 ⟨rfl, hb⟩
  replace c0 := ce_fw c0 hb
  replace c1 := ce_fw c1 hb
  replace c2 := ce_fw c2 hb
  replace c3 := ce_fw c3 hb
  replace c4 := ce_fw c4 hb
  have D1 := Lib.hid (BW.out.trans (hb.mono BW.out.size))
  have Q1 := Lib.hid (rw_fw R0.out hb)
  clear hb
  go_wp2_with fail
  refine (V.out _).mono ?_
  rintro e x2 ⟨rfl, hb⟩
  replace c0 := ce_fw c0 hb
  replace c1 := ce_fw c1 hb
  replace c2 := ce_fw c2 hb
  replace c3 := ce_fw c3 hb
  replace c4 := ce_fw c4 hb
  have D2 := Lib.hid (D1.out.trans (hb.mono D1.out.size))
  have Q2 := Lib.hid (rw_fw Q1.out hb)
  clear hb
  go_wp2_with fail
  refine (Y.out _).mono ?_
  rintro e x3 ⟨rfl, hb⟩
  replace c0 := ce_fw c0 hb
  replace c1 := ce_fw c1 hb
  replace c2 := ce_fw c2 hb
  replace c3 := ce_fw c3 hb
  replace c4 := ce_fw c4 hb
  have D3 := Lib.hid (D2.out.trans (hb.mono D2.out.size))
  have Q3 := Lib.hid (rw_fw Q2.out hb)
  clear hb
  go_wp2_with fail
  refine (A1.out _).mono ?_
  rintro e x4 ⟨rfl, hb⟩
  replace c0 := ce_fw c0 hb
  replace c1 := ce_fw c1 hb
  replace c2 := ce_fw c2 hb
  replace c3 := ce_fw c3 hb
  replace c4 := ce_fw c4 hb
  have D4 := Lib.hid (D3.out.trans (hb.mono D3.out.size))
  have Q4 := Lib.hid (rw_fw Q3.out hb)
  clear hb
  go_wp2_with fail
  refine (A2.out _).mono ?_
  rintro e x5 ⟨rfl, hb⟩
  replace c0 := ce_fw c0 hb
  replace c1 := ce_fw c1 hb
  replace c2 := ce_fw c2 hb
  replace c3 := ce_fw c3 hb
  replace c4 := ce_fw c4 hb
  have D5 := Lib.hid (D4.out.trans (hb.mono D4.out.size))
  have Q5 := Lib.hid (rw_fw Q4.out hb)
  clear hb
  go_wp2_with fail
  have C0 := Lib.hid c0
  have C1 := Lib.hid c1
  clear c0 c1 c2 c3 c4
  obtain ⟨hxm, hbm, hf, hz, hg, hl⟩ := EE.out
  refine wp_region_held (P := Try.prog) (S := (fun w' : World => Below x5.heap.size x5 w')) rfl ?_
  change wpAnyH _ _ _ _ _ _ _ _ x5.drew
  have hz2 : Below x5.heap.size x5 x5.drew := (Below.refl x5.heap.size x5).drew
  generalize x5.drew = wz1 at hz2 ⊢
  have R_3 := Lib.hid (rw_fw Q5.out (hz2))
  have C0_4 := Lib.hid (ce_fw C0.out (hz2))
  have C1_5 := Lib.hid (ce_fw C1.out (hz2))
  have hl6 := hz2
  have HT_7 : Hid (Below w.heap.size w wz1) := Lib.hid (D5.out.trans ((hl6).mono D5.out.size))
  refine wpAnyH_up (S' := (fun w' : World => Below wz1.heap.size wz1 w')) (fun w' h => hz2.trans (h.mono hz2.size)) ?_
  have hS8 : (fun w' : World => Below wz1.heap.size wz1 w') wz1 := Below.refl _ _
  refine takeD (i := 0) (v := .int .i64 0) (some 48) rfl rfl (by kernel_rfl) (by kernel_rfl) (by kernel_rfl) (fun _ _ _ h => h) (Or.inl ⟨by rfl, by rintro w' -; go_simp⟩) hS8 ?_
  simp only [Act.put, List.setIfInBounds_toArray, List.set_cons_zero, List.set_cons_succ]
  refine takeD (i := 1) (v := .bool true) (some 49) rfl rfl (by kernel_rfl) (by kernel_rfl) (by kernel_rfl) (fun _ _ _ h => h) (Or.inl ⟨by rfl, by rintro w' -; go_simp⟩) hS8 ?_
  simp only [Act.put, List.setIfInBounds_toArray, List.set_cons_zero, List.set_cons_succ]
  refine takeD (i := 2) (v := .bool true) (some 50) rfl rfl (by kernel_rfl) (by kernel_rfl) (by kernel_rfl) (fun _ _ _ h => h) (Or.inl ⟨by rfl, by rintro w' -; go_simp⟩) hS8 ?_
  simp only [Act.put, List.setIfInBounds_toArray, List.set_cons_zero, List.set_cons_succ]
  refine takeD (i := 3) (v := .int .i64 0) (some 51) rfl rfl (by kernel_rfl) (by kernel_rfl) (by kernel_rfl) (fun _ _ _ h => h) (Or.inl ⟨by rfl, by rintro w' -; go_simp⟩) hS8 ?_
  simp only [Act.put, List.setIfInBounds_toArray, List.set_cons_zero, List.set_cons_succ]
  refine takeD (i := 4) (v := .bool true) (some 52) rfl rfl (by kernel_rfl) (by kernel_rfl) (by kernel_rfl) (fun _ _ _ h => h) (Or.inl ⟨by rfl, by rintro w' -; go_simp⟩) hS8 ?_
  simp only [Act.put, List.setIfInBounds_toArray, List.set_cons_zero, List.set_cons_succ]
  refine takeD (i := 5) (v := .bool true) (some 53) rfl rfl (by kernel_rfl) (by kernel_rfl) (by kernel_rfl) (fun _ _ _ h => h) (Or.inl ⟨by rfl, by rintro w' -; go_simp⟩) hS8 ?_
  simp only [Act.put, List.setIfInBounds_toArray, List.set_cons_zero, List.set_cons_succ]
  refine takeD (i := 6) (v := .bool true) (some 54) rfl rfl (by kernel_rfl) (by kernel_rfl) (by kernel_rfl) (fun _ _ _ h => h) (Or.inl ⟨by rfl, by rintro w' -; go_simp⟩) hS8 ?_
  simp only [Act.put, List.setIfInBounds_toArray, List.set_cons_zero, List.set_cons_succ]
  refine takeD (i := 7) (v := .int .i64 f) (some 55) rfl rfl (by kernel_rfl) (by kernel_rfl) (by kernel_rfl) (fun _ _ _ h => h) (Or.inl ⟨by rfl, by rintro w' -; go_simp⟩) hS8 ?_
  simp only [Act.put, List.setIfInBounds_toArray, List.set_cons_zero, List.set_cons_succ]
  refine takeD (i := 8) (v := .pointer (some ⟨B0, 0, none⟩)) (some 56) rfl rfl (by kernel_rfl) (by kernel_rfl) (by kernel_rfl) (fun _ _ _ h => h) (Or.inl ⟨by rfl, by rintro w' -; go_simp⟩) hS8 ?_
  simp only [Act.put, List.setIfInBounds_toArray, List.set_cons_zero, List.set_cons_succ]
  refine takeD (i := 9) (v := .int .i64 r) (some 57) rfl rfl (by kernel_rfl) (by kernel_rfl) (by kernel_rfl) (fun _ _ _ h => h) (Or.inl ⟨by rfl, by rintro w' h; have hc := ce_fw C0_4.out h; go_simp⟩) hS8 ?_
  simp only [Act.put, List.setIfInBounds_toArray, List.set_cons_zero, List.set_cons_succ]
  refine takeD (i := 10) (v := .int .i64 x) (some 58) rfl rfl (by kernel_rfl) (by kernel_rfl) (by kernel_rfl) (fun _ _ _ h => h) (Or.inl ⟨by rfl, by rintro w' -; go_simp⟩) hS8 ?_
  simp only [Act.put, List.setIfInBounds_toArray, List.set_cons_zero, List.set_cons_succ]
  refine takeD (i := 11) (v := .int .i64 m) (some 59) rfl rfl (by kernel_rfl) (by kernel_rfl) (by kernel_rfl) (fun _ _ _ h => h) (Or.inl ⟨by rfl, by rintro w' -; go_simp⟩) hS8 ?_
  simp only [Act.put, List.setIfInBounds_toArray, List.set_cons_zero, List.set_cons_succ]
  refine takeD (i := 12) (v := .int .i64 xm) (some 60) rfl rfl (by kernel_rfl) (by kernel_rfl) (by kernel_rfl) (fun _ _ _ h => h) (Or.inl ⟨by rfl, by rintro w' -; go_simp⟩) hS8 ?_
  simp only [Act.put, List.setIfInBounds_toArray, List.set_cons_zero, List.set_cons_succ]
  refine takeD (i := 13) (v := .int .i64 f) (some 61) rfl rfl (by kernel_rfl) (by kernel_rfl) (by kernel_rfl) (fun _ _ _ h => h) (Or.inl ⟨by rfl, by rintro w' -; go_simp⟩) hS8 ?_
  simp only [Act.put, List.setIfInBounds_toArray, List.set_cons_zero, List.set_cons_succ]
  refine takeD (i := 14) (v := .bool true) (some 62) rfl rfl (by kernel_rfl) (by kernel_rfl) (by kernel_rfl) (fun _ _ _ h => h) (Or.inl ⟨by rfl, by rintro w' -; go_simp⟩) hS8 ?_
  simp only [Act.put, List.setIfInBounds_toArray, List.set_cons_zero, List.set_cons_succ]
  refine takeD (i := 15) (v := .bool true) (some 63) rfl rfl (by kernel_rfl) (by kernel_rfl) (by kernel_rfl) (fun _ _ _ h => h) (Or.inl ⟨by rfl, by rintro w' -; go_simp⟩) hS8 ?_
  simp only [Act.put, List.setIfInBounds_toArray, List.set_cons_zero, List.set_cons_succ]
  refine takeD (i := 16) (v := .bool true) (some 64) rfl rfl (by kernel_rfl) (by kernel_rfl) (by kernel_rfl) (fun _ _ _ h => h) (Or.inl ⟨by rfl, by rintro w' -; go_simp⟩) hS8 ?_
  simp only [Act.put, List.setIfInBounds_toArray, List.set_cons_zero, List.set_cons_succ]
  refine takeD (i := 17) (v := .int .i64 l) (some 65) rfl rfl (by kernel_rfl) (by kernel_rfl) (by kernel_rfl) (fun _ _ _ h => h) (Or.inl ⟨by rfl, by rintro w' -; go_simp⟩) hS8 ?_
  simp only [Act.put, List.setIfInBounds_toArray, List.set_cons_zero, List.set_cons_succ]
  refine takeD (i := 18) (v := .int .i64 f) (some 66) rfl rfl (by kernel_rfl) (by kernel_rfl) (by kernel_rfl) (fun _ _ _ h => h) (Or.inl ⟨by rfl, by rintro w' -; go_simp⟩) hS8 ?_
  simp only [Act.put, List.setIfInBounds_toArray, List.set_cons_zero, List.set_cons_succ]
  refine takeD (i := 19) (v := .int .i64 m) (some 67) rfl rfl (by kernel_rfl) (by kernel_rfl) (by kernel_rfl) (fun _ _ _ h => h) (Or.inl ⟨by rfl, by rintro w' -; go_simp⟩) hS8 ?_
  simp only [Act.put, List.setIfInBounds_toArray, List.set_cons_zero, List.set_cons_succ]
  refine takeD (i := 20) (v := .int .i64 g) (some 68) rfl rfl (by kernel_rfl) (by kernel_rfl) (by kernel_rfl) (fun _ _ _ h => h) (Or.inl ⟨by rfl, by rintro w' -; go_simp⟩) hS8 ?_
  simp only [Act.put, List.setIfInBounds_toArray, List.set_cons_zero, List.set_cons_succ]
  refine takeD (i := 21) (v := .int .i64 l) (some 69) rfl rfl (by kernel_rfl) (by kernel_rfl) (by kernel_rfl) (fun _ _ _ h => h) (Or.inl ⟨by rfl, by rintro w' -; go_simp⟩) hS8 ?_
  simp only [Act.put, List.setIfInBounds_toArray, List.set_cons_zero, List.set_cons_succ]
  refine takeD (i := 22) (v := .bool true) (some 70) rfl rfl (by kernel_rfl) (by kernel_rfl) (by kernel_rfl) (fun _ _ _ h => h) (Or.inl ⟨by rfl, by rintro w' -; go_simp⟩) hS8 ?_
  simp only [Act.put, List.setIfInBounds_toArray, List.set_cons_zero, List.set_cons_succ]
  refine takeD (i := 23) (v := .bool true) (some 71) rfl rfl (by kernel_rfl) (by kernel_rfl) (by kernel_rfl) (fun _ _ _ h => h) (Or.inl ⟨by rfl, by rintro w' -; go_simp⟩) hS8 ?_
  simp only [Act.put, List.setIfInBounds_toArray, List.set_cons_zero, List.set_cons_succ]
  refine takeD (i := 24) (v := .bool true) (some 72) rfl rfl (by kernel_rfl) (by kernel_rfl) (by kernel_rfl) (fun _ _ _ h => h) (Or.inl ⟨by rfl, by rintro w' -; go_simp⟩) hS8 ?_
  simp only [Act.put, List.setIfInBounds_toArray, List.set_cons_zero, List.set_cons_succ]
  refine takeD (i := 25) (v := .agg #[.int .i64 r, .int .i64 b, .int .i64 t, .int .i64 s, .int .i64 o]) (some 73) rfl rfl (by kernel_rfl) (by kernel_rfl) (by kernel_rfl) (fun _ _ _ h => h) (yieldsIf_load_mid (by rfl) _ _ rfl B0 0 rfl (#[.int .i64 r, .int .i64 b, .int .i64 t, .int .i64 s, .int .i64 o]).toList _ (fun w' h => gr_rng (rw_fw R_3.out h)) Try.underlying23 rfl (by kernel_rfl)) hS8 ?_
  simp only [Act.put, List.setIfInBounds_toArray, List.set_cons_zero, List.set_cons_succ]
  refine takeD (i := 27) (v := .pointer (some ⟨B0, 0, none⟩)) (some 75) rfl rfl (by kernel_rfl) (by kernel_rfl) (by kernel_rfl) (fun _ _ _ h => h) (Or.inl ⟨by rfl, by rintro w' -; go_simp⟩) hS8 ?_
  simp only [Act.put, List.setIfInBounds_toArray, List.set_cons_zero, List.set_cons_succ]
  refine takeD (i := 28) (v := .int .i64 r) (some 76) rfl rfl (by kernel_rfl) (by kernel_rfl) (by kernel_rfl) (fun _ _ _ h => h) (Or.inl ⟨by rfl, by rintro w' h; have hc := ce_fw C0_4.out h; go_simp⟩) hS8 ?_
  simp only [Act.put, List.setIfInBounds_toArray, List.set_cons_zero, List.set_cons_succ]
  refine takeD (i := 29) (v := .pointer (some ⟨B0, 1, none⟩)) (some 77) rfl rfl (by kernel_rfl) (by kernel_rfl) (by kernel_rfl) (fun _ _ _ h => h) (Or.inl ⟨by rfl, by rintro w' -; go_simp⟩) hS8 ?_
  simp only [Act.put, List.setIfInBounds_toArray, List.set_cons_zero, List.set_cons_succ]
  refine takeD (i := 30) (v := .int .i64 b) (some 78) rfl rfl (by kernel_rfl) (by kernel_rfl) (by kernel_rfl) (fun _ _ _ h => h) (Or.inl ⟨by rfl, by rintro w' h; have hc := ce_fw C1_5.out h; go_simp⟩) hS8 ?_
  simp only [Act.put, List.setIfInBounds_toArray, List.set_cons_zero, List.set_cons_succ]
  refine takeD (i := 31) (v := .int .i64 m) (some 79) rfl rfl (by kernel_rfl) (by kernel_rfl) (by kernel_rfl) (fun _ _ _ h => h) (Or.inl ⟨by rfl, by rintro w' -; go_simp⟩) hS8 ?_
  simp only [Act.put, List.setIfInBounds_toArray, List.set_cons_zero, List.set_cons_succ]
  refine takeD (i := 32) (v := .int .i64 bm) (some 80) rfl rfl (by kernel_rfl) (by kernel_rfl) (by kernel_rfl) (fun _ _ _ h => h) (Or.inl ⟨by rfl, by rintro w' -; go_simp⟩) hS8 ?_
  simp only [Act.put, List.setIfInBounds_toArray, List.set_cons_zero, List.set_cons_succ]
  refine takeD (i := 33) (v := .int .i64 z) (some 81) rfl rfl (by kernel_rfl) (by kernel_rfl) (by kernel_rfl) (fun _ _ _ h => h) (Or.inl ⟨by rfl, by rintro w' -; go_simp⟩) hS8 ?_
  simp only [Act.put, List.setIfInBounds_toArray, List.set_cons_zero, List.set_cons_succ]
  refine wpAnyH_ready (rs := [26]) (by kernel_rfl) (by simp) ?_
  refine AllReadyH.cons rfl (fun K9 hK9 => ?_) AllReadyH.nil
  have HK9 := Lib.hid hK9
  clear hK9
  rw [if_pos (by rfl)]
  go_simp
  refine (Z.out _).mono ?_
  rintro e x10 ⟨rfl, hb11⟩
  have R_12 := Lib.hid (rw_fw R_3.out (hb11))
  have C0_13 := Lib.hid (ce_fw C0_4.out (hb11))
  have C1_14 := Lib.hid (ce_fw C1_5.out (hb11))
  have hl15 := hb11
  have HT_16 : Hid (Below w.heap.size w x10) := Lib.hid (HT_7.out.trans ((hl15).mono HT_7.out.size))
  clear hb11 
  have hb18 : Below wz1.heap.size wz1 x10 := hl15
  have hS17 : (fun w' : World => Below wz1.heap.size wz1 w') x10 := hb18
  refine HK9.out _ _ hS17 fun _ => ?_
  try simp only [Act.put, List.setIfInBounds_toArray, List.set_cons_zero, List.set_cons_succ]
  refine wpAnyH_up (S' := (fun w' : World => Below x10.heap.size x10 w')) (fun w' h => hb18.trans (h.mono hb18.size)) ?_
  have hS19 : (fun w' : World => Below x10.heap.size x10 w') x10 := Below.refl _ _
  refine takeD (i := 34) (v := .bool true) (some 82) rfl rfl (by kernel_rfl) (by kernel_rfl) (by kernel_rfl) (fun _ _ _ h => h) (Or.inl ⟨by rfl, by rintro w' -; go_simp⟩) hS19 ?_
  simp only [Act.put, List.setIfInBounds_toArray, List.set_cons_zero, List.set_cons_succ]
  refine takeD (i := 35) (v := .bool true) (some 83) rfl rfl (by kernel_rfl) (by kernel_rfl) (by kernel_rfl) (fun _ _ _ h => h) (Or.inl ⟨by rfl, by rintro w' -; go_simp⟩) hS19 ?_
  simp only [Act.put, List.setIfInBounds_toArray, List.set_cons_zero, List.set_cons_succ]
  refine takeD (i := 36) (v := .bool true) (some 4) rfl rfl (by kernel_rfl) (by kernel_rfl) (by kernel_rfl) (fun _ _ _ h => h) (Or.inl ⟨by rfl, by rintro w' -; go_simp⟩) hS19 ?_
  simp only [Act.put, List.setIfInBounds_toArray, List.set_cons_zero, List.set_cons_succ]
  refine wpAnyH_done (by kernel_rfl) ?_ _
  go_wp2_with fail
  go_ret
  exact ⟨rfl, HT_16.out⟩
theorem gunion_walk (r b t s o x : Int) (w : World) : Calls Try.prog 9 #[.agg #[.int .i64 r, .int .i64 b, .int .i64 t, .int .i64 s, .int .i64 o], .int .i64 x] w (lawPost w) := by
  by_cases h : Geo.GV r b t s o
  · by_cases h0 : x < 0
    · exact guni_neg r b t s o x w h h0
    by_cases h1 : b ≤ x
    · exact guni_high r b t s o x w h h0 h1
    · exact guni_in r b t s o x w h h0 h1
  · exact guni_bad r b t s o x w h
end Go.Proofs.Ytgdhpcajiggnbaa
