/- Layer 14: walk of the law DiskNew. WRITTEN BY gen_Dqb.py. -/
import Derived.Test.YtdjjihppaobbcaaDqa
namespace Go.Proofs.Ytdjjihppaobbcaa
open Go Go.RowKit Med Flt
set_option linter.unusedVariables false
set_option linter.unusedSimpArgs false
theorem Geo.GV.nat {r b t s o : Int} (h : Geo.GV r b t s o) : ∃ R B T S O : Nat, r = R ∧ b = B ∧ t = T ∧ s = S ∧ o = O := by
  unfold Geo.GV at h
  exact ⟨r.toNat, b.toNat, t.toNat, s.toNat, o.toNat, by omega, by omega, by omega, by omega, by omega⟩
theorem st_new (n : Nat) : st (List.replicate n Med.blank) 0 = 0 := by
  unfold st
  split
  · unfold at_
    rw [List.getD_eq_getElem?_getD, List.getElem?_replicate]
    split <;> rfl
  · rfl
/-- A new disk of the program. -/
def newDk (R Bn T S : Nat) : Dsk.Dk := Dsk.Dk.new (List.replicate (R + Bn * (T * S)) Med.blank) Dsk.Pw.new
theorem new_shows {B : Zn} {c : World} {D P R Bn T S O : Nat} {L : List F} (h : PDk B c D P R Bn T S O L (newDk R Bn T S)) :
    Calls Try.prog 15 #[.pointer (some ⟨D, 0, none⟩)] c (qPost (.bool false) c) ∧ Calls Try.prog 16 #[.pointer (some ⟨D, 0, none⟩)] c (qPost (.int .i64 0) c) ∧ Calls Try.prog 17 #[.pointer (some ⟨D, 0, none⟩)] c (qPost (.int .i64 0) c) ∧
    Calls Try.prog 18 #[.pointer (some ⟨D, 0, none⟩), .int .i64 0] c (qPost (.int .i64 0) c) ∧ Calls Try.prog 19 #[.pointer (some ⟨D, 0, none⟩)] c (gPost (.agg #[.int .i64 0, .int .i64 0, .int .i64 0, .int .i64 0]) c) ∧
    Calls Try.prog 14 #[.pointer (some ⟨D, 0, none⟩)] c (gPost (.agg #[.int .i64 (R : Int), .int .i64 (Bn : Int), .int .i64 (T : Int), .int .i64 (S : Int), .int .i64 (O : Int)]) c) := by
  have h4 := pstat_any (p := Dsk.Pw.new) h 0
  rw [show st (Dsk.cont R Bn T S O (newDk R Bn T S)) 0 = 0 from st_new _] at h4
  exact ⟨pdead_any (p := Dsk.Pw.new) h, pops_any (p := Dsk.Pw.new) h, ppend_any (p := Dsk.Pw.new) h, h4, pstats_any (p := Dsk.Pw.new) h, pgeo14_any (p := Dsk.Pw.new) h⟩
set_option maxHeartbeats 4000000 in
set_option maxRecDepth 100000 in
theorem new14_geo {r b t s o : Int} {v : Value} {L : List F} {w : World} (h0 : Fts w v L) (hl : L.length * 24 ≤ 140737488351232) (hv : ¬ Geo.GV r b t s o) : Calls Try.prog 3 #[.agg #[.int .i64 r, .int .i64 b, .int .i64 t, .int .i64 s, .int .i64 o], v] w (lawPost w) := by
  obtain ⟨A0, cc, rfl⟩ := h0.form
  obtain ⟨B0, hB0⟩ : ∃ B, w.heap.size = B := ⟨_, rfl⟩
  obtain ⟨W0, hW0⟩ : ∃ W, w.alloc (.cells #[.int .i64 r, .int .i64 b, .int .i64 t, .int .i64 s, .int .i64 o] 23) = W := ⟨_, rfl⟩
  have T0 : Hid (Below w.heap.size w W0) := Lib.hid (by subst hW0; exact (Below.refl _ _).alloc (Nat.le_refl _) _)
  have G0 : Hid (Row W0 B0 23 #[.int .i64 r, .int .i64 b, .int .i64 t, .int .i64 s, .int .i64 o]) := Lib.hid (by subst hW0; exact gr_new w _ _ hB0)
  have HB0 := Lib.hid hB0
  have HW0 := Lib.hid hW0
  have L0 := Lib.hid (h0.fw T0.out)
  obtain ⟨N, hN⟩ : ∃ n, L.length = n := ⟨_, rfl⟩
  have EN := Lib.hid hN
  rw [hN] at L0 ⊢
  have HV := Lib.hid hv
  clear hB0 hW0 h0 hN hv hl
  go_enter Try.func3, Try.ntmps3
  go_wp2_with (first | rw [HB0.out] | rw [HW0.out])
  refine (awake14 _).mono ?_
  rintro e x1 ⟨rfl, hb⟩
  have G_2 := Lib.hid (Row.go G0.out (hb))
  have F_3 := Lib.hid (Fts.fw L0.out (hb))
  have hl4 := hb
  have HT_5 : Hid (Below w.heap.size w x1) := Lib.hid (T0.out.trans ((hl4).mono T0.out.size))
  clear hb
  obtain ⟨c0, c1_, c2, c3, c4⟩ := geo_cells14 G_2.out
  go_wp2_with fail
  clear c0 c1_ c2 c3 c4
  have RV := rvalid_any r b t s o x1
  rw [decide_eq_false HV.out] at RV
  refine (RV).mono ?_
  rintro e x6 ⟨rfl, hb⟩
  have G_7 := Lib.hid (Row.go G_2.out (hb))
  have F_8 := Lib.hid (Fts.fw F_3.out (hb))
  have hl9 := hb
  have HT_10 : Hid (Below w.heap.size w x6) := Lib.hid (HT_5.out.trans ((hl9).mono HT_5.out.size))
  clear hb
  clear RV
  go_wp2_with fail
  refine (pnp_any _).mono ?_
  rintro e x11 ⟨P, rfl, hP, hp, hb⟩
  have PP0 := Lib.hid hp
  have PL := Lib.hid (Nat.le_trans HT_10.out.size hP)
  have G_12 := Lib.hid (Row.go G_7.out (hb))
  have F_13 := Lib.hid (Fts.fw F_8.out (hb))
  have hl14 := hb
  have HT_15 : Hid (Below w.heap.size w x11) := Lib.hid (HT_10.out.trans ((hl14).mono HT_10.out.size))
  clear hP hp hb
  obtain ⟨c0, c1_, c2, c3, c4⟩ := geo_cells14 G_12.out
  go_wp2_with fail
  clear c0 c1_ c2 c3 c4
  refine (pdnew_geo HV.out).mono ?_
  rintro e x16 ⟨rfl, hb⟩
  have G_17 := Lib.hid (Row.go G_12.out (hb))
  have F_18 := Lib.hid (Fts.fw F_13.out (hb))
  have P_19 := Lib.hid (PPw.fw PP0.out (hb))
  have hl20 := hb
  have HT_21 : Hid (Below w.heap.size w x16) := Lib.hid (HT_15.out.trans ((hl20).mono HT_15.out.size))
  clear hb
  obtain ⟨c0, c1_, c2, c3, c4⟩ := geo_cells14 G_17.out
  go_wp2_with fail
  clear c0 c1_ c2 c3 c4
  refine (pdnew_geo HV.out).mono ?_
  rintro e x22 ⟨rfl, hb⟩
  have G_23 := Lib.hid (Row.go G_17.out (hb))
  have F_24 := Lib.hid (Fts.fw F_18.out (hb))
  have P_25 := Lib.hid (PPw.fw P_19.out (hb))
  have hl26 := hb
  have HT_27 : Hid (Below w.heap.size w x22) := Lib.hid (HT_21.out.trans ((hl26).mono HT_21.out.size))
  clear hb
  obtain ⟨c0, c1_, c2, c3, c4⟩ := geo_cells14 G_23.out
  go_wp2_with fail
  clear c0 c1_ c2 c3 c4
  have RV := rvalid_any r b t s o x22
  rw [decide_eq_false HV.out] at RV
  refine (RV).mono ?_
  rintro e x28 ⟨rfl, hb⟩
  have G_29 := Lib.hid (Row.go G_23.out (hb))
  have F_30 := Lib.hid (Fts.fw F_24.out (hb))
  have P_31 := Lib.hid (PPw.fw P_25.out (hb))
  have hl32 := hb
  have HT_33 : Hid (Below w.heap.size w x28) := Lib.hid (HT_27.out.trans ((hl32).mono HT_27.out.size))
  clear hb
  clear RV
  go_wp2_with fail
  go_ret
  exact ⟨rfl, HT_33.out⟩
set_option maxHeartbeats 4000000 in
set_option maxRecDepth 100000 in
theorem new14_big {R Bn T S O : Nat} {v : Value} {L : List F} {w : World} (h0 : Fts w v L) (hl : L.length * 24 ≤ 140737488351232) (hv : Geo.GV (R : Int) Bn T S O) (hz : (2000 : Int) < Geo.size (R : Int) Bn T S O) : Calls Try.prog 3 #[.agg #[.int .i64 (R : Int), .int .i64 (Bn : Int), .int .i64 (T : Int), .int .i64 (S : Int), .int .i64 (O : Int)], v] w (lawPost w) := by
  obtain ⟨A0, cc, rfl⟩ := h0.form
  obtain ⟨B0, hB0⟩ : ∃ B, w.heap.size = B := ⟨_, rfl⟩
  obtain ⟨W0, hW0⟩ : ∃ W, w.alloc (.cells #[.int .i64 (R : Int), .int .i64 (Bn : Int), .int .i64 (T : Int), .int .i64 (S : Int), .int .i64 (O : Int)] 23) = W := ⟨_, rfl⟩
  have T0 : Hid (Below w.heap.size w W0) := Lib.hid (by subst hW0; exact (Below.refl _ _).alloc (Nat.le_refl _) _)
  have G0 : Hid (Row W0 B0 23 #[.int .i64 (R : Int), .int .i64 (Bn : Int), .int .i64 (T : Int), .int .i64 (S : Int), .int .i64 (O : Int)]) := Lib.hid (by subst hW0; exact gr_new w _ _ hB0)
  have HB0 := Lib.hid hB0
  have HW0 := Lib.hid hW0
  have L0 := Lib.hid (h0.fw T0.out)
  obtain ⟨N, hN⟩ : ∃ n, L.length = n := ⟨_, rfl⟩
  have EN := Lib.hid hN
  rw [hN] at L0 ⊢
  have HV := Lib.hid hv
  obtain ⟨z, hz2⟩ : ∃ z, Geo.size (R : Int) Bn T S O = z := ⟨_, rfl⟩
  have HZ := Lib.hid hz2
  rw [hz2] at hz
  have d1 : decide ((2000 : Int) < z) = true := decide_eq_true hz
  clear hB0 hW0 h0 hN hv hl hz2
  go_enter Try.func3, Try.ntmps3
  go_wp2_with (first | rw [HB0.out] | rw [HW0.out])
  refine (awake14 _).mono ?_
  rintro e x1 ⟨rfl, hb⟩
  have G_2 := Lib.hid (Row.go G0.out (hb))
  have F_3 := Lib.hid (Fts.fw L0.out (hb))
  have hl4 := hb
  have HT_5 : Hid (Below w.heap.size w x1) := Lib.hid (T0.out.trans ((hl4).mono T0.out.size))
  clear hb
  obtain ⟨c0, c1_, c2, c3, c4⟩ := geo_cells14 G_2.out
  go_wp2_with fail
  clear c0 c1_ c2 c3 c4
  have RV := rvalid_any (R : Int) Bn T S O x1
  rw [decide_eq_true HV.out] at RV
  refine (RV).mono ?_
  rintro e x6 ⟨rfl, hb⟩
  have G_7 := Lib.hid (Row.go G_2.out (hb))
  have F_8 := Lib.hid (Fts.fw F_3.out (hb))
  have hl9 := hb
  have HT_10 : Hid (Below w.heap.size w x6) := Lib.hid (HT_5.out.trans ((hl9).mono HT_5.out.size))
  clear hb
  obtain ⟨c0, c1_, c2, c3, c4⟩ := geo_cells14 G_7.out
  go_wp2_with fail
  clear c0 c1_ c2 c3 c4
  have SZ := rsize_any (R : Int) Bn T S O x6
  rw [HZ.out] at SZ
  refine (SZ).mono ?_
  rintro e x11 ⟨rfl, hb⟩
  have G_12 := Lib.hid (Row.go G_7.out (hb))
  have F_13 := Lib.hid (Fts.fw F_8.out (hb))
  have hl14 := hb
  have HT_15 : Hid (Below w.heap.size w x11) := Lib.hid (HT_10.out.trans ((hl14).mono HT_10.out.size))
  clear hb
  clear SZ RV
  go_wp2_with fail
  refine (awake14 _).mono ?_
  rintro e x16 ⟨rfl, hb⟩
  have G_17 := Lib.hid (Row.go G_12.out (hb))
  have F_18 := Lib.hid (Fts.fw F_13.out (hb))
  have hl19 := hb
  have HT_20 : Hid (Below w.heap.size w x16) := Lib.hid (HT_15.out.trans ((hl19).mono HT_15.out.size))
  clear hb
  go_wp2_with fail
  go_ret
  exact ⟨rfl, HT_20.out⟩
set_option maxHeartbeats 4000000 in
set_option maxRecDepth 100000 in
theorem new14_flt {R Bn T S O : Nat} {v : Value} {L : List F} {w : World} (h0 : Fts w v L) (hl : L.length * 24 ≤ 140737488351232) (hv : Geo.GV (R : Int) Bn T S O) (hz : ¬ (2000 : Int) < Geo.size (R : Int) Bn T S O) (hq : vld L = false) : Calls Try.prog 3 #[.agg #[.int .i64 (R : Int), .int .i64 (Bn : Int), .int .i64 (T : Int), .int .i64 (S : Int), .int .i64 (O : Int)], v] w (lawPost w) := by
  obtain ⟨A0, cc, rfl⟩ := h0.form
  obtain ⟨B0, hB0⟩ : ∃ B, w.heap.size = B := ⟨_, rfl⟩
  obtain ⟨W0, hW0⟩ : ∃ W, w.alloc (.cells #[.int .i64 (R : Int), .int .i64 (Bn : Int), .int .i64 (T : Int), .int .i64 (S : Int), .int .i64 (O : Int)] 23) = W := ⟨_, rfl⟩
  have T0 : Hid (Below w.heap.size w W0) := Lib.hid (by subst hW0; exact (Below.refl _ _).alloc (Nat.le_refl _) _)
  have G0 : Hid (Row W0 B0 23 #[.int .i64 (R : Int), .int .i64 (Bn : Int), .int .i64 (T : Int), .int .i64 (S : Int), .int .i64 (O : Int)]) := Lib.hid (by subst hW0; exact gr_new w _ _ hB0)
  have HB0 := Lib.hid hB0
  have HW0 := Lib.hid hW0
  have L0 := Lib.hid (h0.fw T0.out)
  obtain ⟨N, hN⟩ : ∃ n, L.length = n := ⟨_, rfl⟩
  have EN := Lib.hid hN
  rw [hN] at L0 ⊢
  have HV := Lib.hid hv
  obtain ⟨z, hz2⟩ : ∃ z, Geo.size (R : Int) Bn T S O = z := ⟨_, rfl⟩
  have HZ := Lib.hid hz2
  rw [hz2] at hz
  have d1 : decide ((2000 : Int) < z) = false := decide_eq_false hz
  have VL := Lib.hid hq
  have HLN := Lib.hid (show L.length * 24 ≤ 140737488355328 by omega)
  clear hB0 hW0 h0 hN hv hl hz2 hz hq
  go_enter Try.func3, Try.ntmps3
  go_wp2_with (first | rw [HB0.out] | rw [HW0.out])
  refine (awake14 _).mono ?_
  rintro e x1 ⟨rfl, hb⟩
  have G_2 := Lib.hid (Row.go G0.out (hb))
  have F_3 := Lib.hid (Fts.fw L0.out (hb))
  have hl4 := hb
  have HT_5 : Hid (Below w.heap.size w x1) := Lib.hid (T0.out.trans ((hl4).mono T0.out.size))
  clear hb
  obtain ⟨c0, c1_, c2, c3, c4⟩ := geo_cells14 G_2.out
  go_wp2_with fail
  clear c0 c1_ c2 c3 c4
  have RV := rvalid_any (R : Int) Bn T S O x1
  rw [decide_eq_true HV.out] at RV
  refine (RV).mono ?_
  rintro e x6 ⟨rfl, hb⟩
  have G_7 := Lib.hid (Row.go G_2.out (hb))
  have F_8 := Lib.hid (Fts.fw F_3.out (hb))
  have hl9 := hb
  have HT_10 : Hid (Below w.heap.size w x6) := Lib.hid (HT_5.out.trans ((hl9).mono HT_5.out.size))
  clear hb
  obtain ⟨c0, c1_, c2, c3, c4⟩ := geo_cells14 G_7.out
  go_wp2_with fail
  clear c0 c1_ c2 c3 c4
  have SZ := rsize_any (R : Int) Bn T S O x6
  rw [HZ.out] at SZ
  refine (SZ).mono ?_
  rintro e x11 ⟨rfl, hb⟩
  have G_12 := Lib.hid (Row.go G_7.out (hb))
  have F_13 := Lib.hid (Fts.fw F_8.out (hb))
  have hl14 := hb
  have HT_15 : Hid (Below w.heap.size w x11) := Lib.hid (HT_10.out.trans ((hl14).mono HT_10.out.size))
  clear hb
  clear SZ RV
  go_wp2_with fail
  refine (pnp_any _).mono ?_
  rintro e x16 ⟨P, rfl, hP, hp, hb⟩
  have PP0 := Lib.hid hp
  have PL := Lib.hid (Nat.le_trans HT_15.out.size hP)
  have G_17 := Lib.hid (Row.go G_12.out (hb))
  have F_18 := Lib.hid (Fts.fw F_13.out (hb))
  have hl19 := hb
  have HT_20 : Hid (Below w.heap.size w x16) := Lib.hid (HT_15.out.trans ((hl19).mono HT_15.out.size))
  clear hP hp hb
  obtain ⟨c0, c1_, c2, c3, c4⟩ := geo_cells14 G_17.out
  go_wp2_with fail
  clear c0 c1_ c2 c3 c4
  refine (pdnew_flt HV.out F_18.out VL.out).mono ?_
  rintro e x21 ⟨rfl, hb⟩
  have G_22 := Lib.hid (Row.go G_17.out (hb))
  have F_23 := Lib.hid (Fts.fw F_18.out (hb))
  have P_24 := Lib.hid (PPw.fw PP0.out (hb))
  have hl25 := hb
  have HT_26 : Hid (Below w.heap.size w x21) := Lib.hid (HT_20.out.trans ((hl25).mono HT_20.out.size))
  clear hb
  obtain ⟨c0, c1_, c2, c3, c4⟩ := geo_cells14 G_22.out
  go_wp2_with fail
  clear c0 c1_ c2 c3 c4
  refine (pdnew_flt HV.out F_23.out VL.out).mono ?_
  rintro e x27 ⟨rfl, hb⟩
  have G_28 := Lib.hid (Row.go G_22.out (hb))
  have F_29 := Lib.hid (Fts.fw F_23.out (hb))
  have P_30 := Lib.hid (PPw.fw P_24.out (hb))
  have hl31 := hb
  have HT_32 : Hid (Below w.heap.size w x27) := Lib.hid (HT_26.out.trans ((hl31).mono HT_26.out.size))
  clear hb
  obtain ⟨c0, c1_, c2, c3, c4⟩ := geo_cells14 G_28.out
  go_wp2_with fail
  clear c0 c1_ c2 c3 c4
  have RV := rvalid_any (R : Int) Bn T S O x27
  rw [decide_eq_true HV.out] at RV
  refine (RV).mono ?_
  rintro e x33 ⟨rfl, hb⟩
  have G_34 := Lib.hid (Row.go G_28.out (hb))
  have F_35 := Lib.hid (Fts.fw F_29.out (hb))
  have P_36 := Lib.hid (PPw.fw P_30.out (hb))
  have hl37 := hb
  have HT_38 : Hid (Below w.heap.size w x33) := Lib.hid (HT_32.out.trans ((hl37).mono HT_32.out.size))
  clear hb
  clear RV
  go_wp2_with fail
  have LV := rvl_any _ L _ F_35.out
  rw [VL.out] at LV
  refine (LV).mono ?_
  rintro e x39 ⟨rfl, hb⟩
  have G_40 := Lib.hid (Row.go G_34.out (hb))
  have F_41 := Lib.hid (Fts.fw F_35.out (hb))
  have P_42 := Lib.hid (PPw.fw P_36.out (hb))
  have hl43 := hb
  have HT_44 : Hid (Below w.heap.size w x39) := Lib.hid (HT_38.out.trans ((hl43).mono HT_38.out.size))
  clear hb
  clear LV
  go_wp2_with fail
  go_ret
  exact ⟨rfl, HT_44.out⟩
set_option maxHeartbeats 4000000 in
set_option maxRecDepth 100000 in
theorem new14_ok {R Bn T S O : Nat} {v : Value} {L : List F} {w : World} (h0 : Fts w v L) (hl : L.length * 24 ≤ 140737488351232) (hv : Geo.GV (R : Int) Bn T S O) (hz : ¬ (2000 : Int) < Geo.size (R : Int) Bn T S O) (hq : vld L = true) : Calls Try.prog 3 #[.agg #[.int .i64 (R : Int), .int .i64 (Bn : Int), .int .i64 (T : Int), .int .i64 (S : Int), .int .i64 (O : Int)], v] w (lawPost w) := by
  obtain ⟨A0, cc, rfl⟩ := h0.form
  obtain ⟨B0, hB0⟩ : ∃ B, w.heap.size = B := ⟨_, rfl⟩
  obtain ⟨W0, hW0⟩ : ∃ W, w.alloc (.cells #[.int .i64 (R : Int), .int .i64 (Bn : Int), .int .i64 (T : Int), .int .i64 (S : Int), .int .i64 (O : Int)] 23) = W := ⟨_, rfl⟩
  have T0 : Hid (Below w.heap.size w W0) := Lib.hid (by subst hW0; exact (Below.refl _ _).alloc (Nat.le_refl _) _)
  have G0 : Hid (Row W0 B0 23 #[.int .i64 (R : Int), .int .i64 (Bn : Int), .int .i64 (T : Int), .int .i64 (S : Int), .int .i64 (O : Int)]) := Lib.hid (by subst hW0; exact gr_new w _ _ hB0)
  have HB0 := Lib.hid hB0
  have HW0 := Lib.hid hW0
  have L0 := Lib.hid (h0.fw T0.out)
  obtain ⟨N, hN⟩ : ∃ n, L.length = n := ⟨_, rfl⟩
  have EN := Lib.hid hN
  rw [hN] at L0 ⊢
  have HV := Lib.hid hv
  obtain ⟨z, hz2⟩ : ∃ z, Geo.size (R : Int) Bn T S O = z := ⟨_, rfl⟩
  have HZ := Lib.hid hz2
  rw [hz2] at hz
  have d1 : decide ((2000 : Int) < z) = false := decide_eq_false hz
  have VL := Lib.hid hq
  have HLN := Lib.hid (show L.length * 24 ≤ 140737488355328 by omega)
  clear hB0 hW0 h0 hN hv hl hz2 hz hq
  go_enter Try.func3, Try.ntmps3
  go_wp2_with (first | rw [HB0.out] | rw [HW0.out])
  refine (awake14 _).mono ?_
  rintro e x1 ⟨rfl, hb⟩
  have G_2 := Lib.hid (Row.go G0.out (hb))
  have F_3 := Lib.hid (Fts.fw L0.out (hb))
  have hl4 := hb
  have HT_5 : Hid (Below w.heap.size w x1) := Lib.hid (T0.out.trans ((hl4).mono T0.out.size))
  clear hb
  obtain ⟨c0, c1_, c2, c3, c4⟩ := geo_cells14 G_2.out
  go_wp2_with fail
  clear c0 c1_ c2 c3 c4
  have RV := rvalid_any (R : Int) Bn T S O x1
  rw [decide_eq_true HV.out] at RV
  refine (RV).mono ?_
  rintro e x6 ⟨rfl, hb⟩
  have G_7 := Lib.hid (Row.go G_2.out (hb))
  have F_8 := Lib.hid (Fts.fw F_3.out (hb))
  have hl9 := hb
  have HT_10 : Hid (Below w.heap.size w x6) := Lib.hid (HT_5.out.trans ((hl9).mono HT_5.out.size))
  clear hb
  obtain ⟨c0, c1_, c2, c3, c4⟩ := geo_cells14 G_7.out
  go_wp2_with fail
  clear c0 c1_ c2 c3 c4
  have SZ := rsize_any (R : Int) Bn T S O x6
  rw [HZ.out] at SZ
  refine (SZ).mono ?_
  rintro e x11 ⟨rfl, hb⟩
  have G_12 := Lib.hid (Row.go G_7.out (hb))
  have F_13 := Lib.hid (Fts.fw F_8.out (hb))
  have hl14 := hb
  have HT_15 : Hid (Below w.heap.size w x11) := Lib.hid (HT_10.out.trans ((hl14).mono HT_10.out.size))
  clear hb
  clear SZ RV
  go_wp2_with fail
  refine (pnp_any _).mono ?_
  rintro e x16 ⟨P, rfl, hP, hp, hb⟩
  have PP0 := Lib.hid hp
  have PL := Lib.hid (Nat.le_trans HT_15.out.size hP)
  have G_17 := Lib.hid (Row.go G_12.out (hb))
  have F_18 := Lib.hid (Fts.fw F_13.out (hb))
  have hl19 := hb
  have HT_20 : Hid (Below w.heap.size w x16) := Lib.hid (HT_15.out.trans ((hl19).mono HT_15.out.size))
  clear hP hp hb
  obtain ⟨c0, c1_, c2, c3, c4⟩ := geo_cells14 G_17.out
  go_wp2_with fail
  clear c0 c1_ c2 c3 c4
  refine (pdnew_ok HV.out F_18.out VL.out (by rw [EN.out] at HLN ⊢; exact HLN.out) PP0.out).mono ?_
  rintro e x21 ⟨D, rfl, hd, hb⟩
  have PD0 := Lib.hid (show PDk _ _ D P R Bn T S O L (newDk R Bn T S) from hd)
  have G_22 := Lib.hid (Row.go G_17.out (hb))
  have F_23 := Lib.hid (Fts.fw F_18.out (hb))
  have P_24 := Lib.hid (PPw.fw PP0.out (hb))
  have hl25 := hb
  have HT_26 : Hid (Below w.heap.size w x21) := Lib.hid (HT_20.out.trans ((hl25).mono HT_20.out.size))
  clear hd hb
  obtain ⟨c0, c1_, c2, c3, c4⟩ := geo_cells14 G_22.out
  go_wp2_with fail
  clear c0 c1_ c2 c3 c4
  refine (pdnew_pow HV.out F_23.out VL.out).mono ?_
  rintro e x27 ⟨rfl, hb⟩
  have G_28 := Lib.hid (Row.go G_22.out (hb))
  have F_29 := Lib.hid (Fts.fw F_23.out (hb))
  have P_30 := Lib.hid (PPw.fw P_24.out (hb))
  have D_31 := Lib.hid (PDk.fw PD0.out (hb))
  have hl32 := hb
  have HT_33 : Hid (Below w.heap.size w x27) := Lib.hid (HT_26.out.trans ((hl32).mono HT_26.out.size))
  clear hb
  obtain ⟨c0, c1_, c2, c3, c4⟩ := geo_cells14 G_28.out
  go_wp2_with fail
  clear c0 c1_ c2 c3 c4
  have RV := rvalid_any (R : Int) Bn T S O x27
  rw [decide_eq_true HV.out] at RV
  refine (RV).mono ?_
  rintro e x34 ⟨rfl, hb⟩
  have G_35 := Lib.hid (Row.go G_28.out (hb))
  have F_36 := Lib.hid (Fts.fw F_29.out (hb))
  have P_37 := Lib.hid (PPw.fw P_30.out (hb))
  have D_38 := Lib.hid (PDk.fw D_31.out (hb))
  have hl39 := hb
  have HT_40 : Hid (Below w.heap.size w x34) := Lib.hid (HT_33.out.trans ((hl39).mono HT_33.out.size))
  clear hb
  clear RV
  go_wp2_with fail
  have LV := rvl_any _ L _ F_36.out
  rw [VL.out] at LV
  refine (LV).mono ?_
  rintro e x41 ⟨rfl, hb⟩
  have G_42 := Lib.hid (Row.go G_35.out (hb))
  have F_43 := Lib.hid (Fts.fw F_36.out (hb))
  have P_44 := Lib.hid (PPw.fw P_37.out (hb))
  have D_45 := Lib.hid (PDk.fw D_38.out (hb))
  have hl46 := hb
  have HT_47 : Hid (Below w.heap.size w x41) := Lib.hid (HT_40.out.trans ((hl46).mono HT_40.out.size))
  clear hb
  clear LV
  go_wp2_with fail
  refine wp_region_held (P := Try.prog) (S := (fun w' : World => Below x41.heap.size x41 w')) rfl ?_
  change wpAnyH _ _ _ _ _ _ _ _ x41.drew
  have hz49 : Below x41.heap.size x41 x41.drew := (Below.refl x41.heap.size x41).drew
  generalize x41.drew = wz48 at hz49 ⊢
  have G_50 := Lib.hid (Row.go G_42.out (hz49))
  have F_51 := Lib.hid (Fts.fw F_43.out (hz49))
  have P_52 := Lib.hid (PPw.fw P_44.out (hz49))
  have D_53 := Lib.hid (PDk.fw D_45.out (hz49))
  have hl54 := hz49
  have HT_55 : Hid (Below w.heap.size w wz48) := Lib.hid (HT_47.out.trans ((hl54).mono HT_47.out.size))
  refine wpAnyH_up (S' := (fun w' : World => Below wz48.heap.size wz48 w')) (fun w' h => hz49.trans (h.mono hz49.size)) ?_
  have hS56 : (fun w' : World => Below wz48.heap.size wz48 w') wz48 := Below.refl _ _
  refine takeD (i := 0) (v := .pointer (some ⟨D, 0, none⟩)) (some 54) rfl rfl (by kernel_rfl) (by kernel_rfl) (by kernel_rfl) (fun _ _ _ h => h) (Or.inl ⟨by rfl, by rintro w' -; go_simp⟩) hS56 ?_
  simp only [Act.put, List.setIfInBounds_toArray, List.set_cons_zero, List.set_cons_succ]
  refine takeD (i := 1) (v := .bool true) (some 55) rfl rfl (by kernel_rfl) (by kernel_rfl) (by kernel_rfl) (fun _ _ _ h => h) (Or.inl ⟨by rfl, by rintro w' -; go_simp⟩) hS56 ?_
  simp only [Act.put, List.setIfInBounds_toArray, List.set_cons_zero, List.set_cons_succ]
  refine takeD (i := 2) (v := .bool true) (some 56) rfl rfl (by kernel_rfl) (by kernel_rfl) (by kernel_rfl) (fun _ _ _ h => h) (Or.inl ⟨by rfl, by rintro w' -; go_simp⟩) hS56 ?_
  simp only [Act.put, List.setIfInBounds_toArray, List.set_cons_zero, List.set_cons_succ]
  refine takeD (i := 3) (v := .int .i64 0) (some 57) rfl rfl (by kernel_rfl) (by kernel_rfl) (by kernel_rfl) (fun _ _ _ h => h) (Or.inl ⟨by rfl, by rintro w' -; go_simp⟩) hS56 ?_
  simp only [Act.put, List.setIfInBounds_toArray, List.set_cons_zero, List.set_cons_succ]
  refine takeD (i := 4) (v := .bool true) (some 58) rfl rfl (by kernel_rfl) (by kernel_rfl) (by kernel_rfl) (fun _ _ _ h => h) (Or.inl ⟨by rfl, by rintro w' -; go_simp⟩) hS56 ?_
  simp only [Act.put, List.setIfInBounds_toArray, List.set_cons_zero, List.set_cons_succ]
  refine takeD (i := 5) (v := .bool true) (some 59) rfl rfl (by kernel_rfl) (by kernel_rfl) (by kernel_rfl) (fun _ _ _ h => h) (Or.inl ⟨by rfl, by rintro w' -; go_simp⟩) hS56 ?_
  simp only [Act.put, List.setIfInBounds_toArray, List.set_cons_zero, List.set_cons_succ]
  refine takeD (i := 6) (v := .bool true) (some 60) rfl rfl (by kernel_rfl) (by kernel_rfl) (by kernel_rfl) (fun _ _ _ h => h) (Or.inl ⟨by rfl, by rintro w' -; go_simp⟩) hS56 ?_
  simp only [Act.put, List.setIfInBounds_toArray, List.set_cons_zero, List.set_cons_succ]
  refine takeD (i := 7) (v := .int .i64 1) (some 61) rfl rfl (by kernel_rfl) (by kernel_rfl) (by kernel_rfl) (fun _ _ _ h => h) (Or.inl ⟨by rfl, by rintro w' -; go_simp⟩) hS56 ?_
  simp only [Act.put, List.setIfInBounds_toArray, List.set_cons_zero, List.set_cons_succ]
  refine takeD (i := 8) (v := .bool true) (some 62) rfl rfl (by kernel_rfl) (by kernel_rfl) (by kernel_rfl) (fun _ _ _ h => h) (Or.inl ⟨by rfl, by rintro w' -; go_simp⟩) hS56 ?_
  simp only [Act.put, List.setIfInBounds_toArray, List.set_cons_zero, List.set_cons_succ]
  refine takeD (i := 9) (v := .bool true) (some 63) rfl rfl (by kernel_rfl) (by kernel_rfl) (by kernel_rfl) (fun _ _ _ h => h) (Or.inl ⟨by rfl, by rintro w' -; go_simp⟩) hS56 ?_
  simp only [Act.put, List.setIfInBounds_toArray, List.set_cons_zero, List.set_cons_succ]
  refine takeD (i := 10) (v := .bool true) (some 64) rfl rfl (by kernel_rfl) (by kernel_rfl) (by kernel_rfl) (fun _ _ _ h => h) (Or.inl ⟨by rfl, by rintro w' -; go_simp⟩) hS56 ?_
  simp only [Act.put, List.setIfInBounds_toArray, List.set_cons_zero, List.set_cons_succ]
  refine takeD (i := 11) (v := .pointer (some ⟨D, 0, none⟩)) (some 65) rfl rfl (by kernel_rfl) (by kernel_rfl) (by kernel_rfl) (fun _ _ _ h => h) (Or.inl ⟨by rfl, by rintro w' -; go_simp⟩) hS56 ?_
  simp only [Act.put, List.setIfInBounds_toArray, List.set_cons_zero, List.set_cons_succ]
  refine takeD (i := 13) (v := .agg #[.int .i64 (R : Int), .int .i64 (Bn : Int), .int .i64 (T : Int), .int .i64 (S : Int), .int .i64 (O : Int)]) (some 67) rfl rfl (by kernel_rfl) (by kernel_rfl) (by kernel_rfl) (fun _ _ _ h => h) (yieldsIf_load_mid (by rfl) _ _ rfl B0 0 rfl [.int .i64 (R : Int), .int .i64 (Bn : Int), .int .i64 (T : Int), .int .i64 (S : Int), .int .i64 (O : Int)] _ (fun w' h => geo_rg14 (Row.go G_50.out h)) Try.underlying23 rfl (by kernel_rfl)) hS56 ?_
  simp only [Act.put, List.setIfInBounds_toArray, List.set_cons_zero, List.set_cons_succ]
  refine wpAnyH_ready (rs := [12]) (by kernel_rfl) (by simp) ?_
  refine AllReadyH.cons rfl (fun K57 hK57 => ?_) AllReadyH.nil
  have HK57 := Lib.hid hK57
  clear hK57
  rw [if_pos (by rfl)]
  go_simp
  refine (new_shows D_53.out).2.2.2.2.2.mono ?_
  rintro e x58 ⟨rfl, hw⟩
  have hb : Below wz48.heap.size wz48 x58 := hw
  have G_59 := Lib.hid (Row.go G_50.out (hb))
  have F_60 := Lib.hid (Fts.fw F_51.out (hb))
  have P_61 := Lib.hid (PPw.fw P_52.out (hb))
  have D_62 := Lib.hid (PDk.fw D_53.out (hb))
  have hl63 := hb
  have HT_64 : Hid (Below w.heap.size w x58) := Lib.hid (HT_55.out.trans ((hl63).mono HT_55.out.size))
  clear hb hw
  have hb66 : Below wz48.heap.size wz48 x58 := hl63
  have hS65 : (fun w' : World => Below wz48.heap.size wz48 w') x58 := hb66
  refine HK57.out _ _ hS65 fun _ => ?_
  try simp only [Act.put, List.setIfInBounds_toArray, List.set_cons_zero, List.set_cons_succ]
  refine wpAnyH_up (S' := (fun w' : World => Below x58.heap.size x58 w')) (fun w' h => hb66.trans (h.mono hb66.size)) ?_
  have hS67 : (fun w' : World => Below x58.heap.size x58 w') x58 := Below.refl _ _
  refine takeD (i := 14) (v := .bool true) (some 68) rfl rfl (by kernel_rfl) (by kernel_rfl) (by kernel_rfl) (fun _ _ _ h => h) (Or.inl ⟨by rfl, by rintro w' -; go_simp⟩) hS67 ?_
  simp only [Act.put, List.setIfInBounds_toArray, List.set_cons_zero, List.set_cons_succ]
  refine takeD (i := 15) (v := .bool true) (some 69) rfl rfl (by kernel_rfl) (by kernel_rfl) (by kernel_rfl) (fun _ _ _ h => h) (Or.inl ⟨by rfl, by rintro w' -; go_simp⟩) hS67 ?_
  simp only [Act.put, List.setIfInBounds_toArray, List.set_cons_zero, List.set_cons_succ]
  refine takeD (i := 16) (v := .bool true) (some 70) rfl rfl (by kernel_rfl) (by kernel_rfl) (by kernel_rfl) (fun _ _ _ h => h) (Or.inl ⟨by rfl, by rintro w' -; go_simp⟩) hS67 ?_
  simp only [Act.put, List.setIfInBounds_toArray, List.set_cons_zero, List.set_cons_succ]
  refine takeD (i := 17) (v := .pointer (some ⟨D, 0, none⟩)) (some 71) rfl rfl (by kernel_rfl) (by kernel_rfl) (by kernel_rfl) (fun _ _ _ h => h) (Or.inl ⟨by rfl, by rintro w' -; go_simp⟩) hS67 ?_
  simp only [Act.put, List.setIfInBounds_toArray, List.set_cons_zero, List.set_cons_succ]
  refine wpAnyH_ready (rs := [18]) (by kernel_rfl) (by simp) ?_
  refine AllReadyH.cons rfl (fun K68 hK68 => ?_) AllReadyH.nil
  have HK68 := Lib.hid hK68
  clear hK68
  rw [if_pos (by rfl)]
  go_simp
  refine (new_shows D_62.out).1.mono ?_
  rintro e x69 ⟨rfl, hw⟩
  have hb : Below x58.heap.size x58 x69 := hw ▸ Below.refl _ _
  have G_70 := Lib.hid (Row.go G_59.out (hb))
  have F_71 := Lib.hid (Fts.fw F_60.out (hb))
  have P_72 := Lib.hid (PPw.fw P_61.out (hb))
  have D_73 := Lib.hid (PDk.fw D_62.out (hb))
  have hl74 := hb
  have HT_75 : Hid (Below w.heap.size w x69) := Lib.hid (HT_64.out.trans ((hl74).mono HT_64.out.size))
  clear hb hw
  have hb77 : Below x58.heap.size x58 x69 := hl74
  have hS76 : (fun w' : World => Below x58.heap.size x58 w') x69 := hb77
  refine HK68.out _ _ hS76 fun _ => ?_
  try simp only [Act.put, List.setIfInBounds_toArray, List.set_cons_zero, List.set_cons_succ]
  refine wpAnyH_up (S' := (fun w' : World => Below x69.heap.size x69 w')) (fun w' h => hb77.trans (h.mono hb77.size)) ?_
  have hS78 : (fun w' : World => Below x69.heap.size x69 w') x69 := Below.refl _ _
  refine takeD (i := 19) (v := .bool true) (some 73) rfl rfl (by kernel_rfl) (by kernel_rfl) (by kernel_rfl) (fun _ _ _ h => h) (Or.inl ⟨by rfl, by rintro w' -; go_simp⟩) hS78 ?_
  simp only [Act.put, List.setIfInBounds_toArray, List.set_cons_zero, List.set_cons_succ]
  refine takeD (i := 20) (v := .bool true) (some 74) rfl rfl (by kernel_rfl) (by kernel_rfl) (by kernel_rfl) (fun _ _ _ h => h) (Or.inl ⟨by rfl, by rintro w' -; go_simp⟩) hS78 ?_
  simp only [Act.put, List.setIfInBounds_toArray, List.set_cons_zero, List.set_cons_succ]
  refine takeD (i := 21) (v := .bool true) (some 75) rfl rfl (by kernel_rfl) (by kernel_rfl) (by kernel_rfl) (fun _ _ _ h => h) (Or.inl ⟨by rfl, by rintro w' -; go_simp⟩) hS78 ?_
  simp only [Act.put, List.setIfInBounds_toArray, List.set_cons_zero, List.set_cons_succ]
  refine takeD (i := 22) (v := .pointer (some ⟨D, 0, none⟩)) (some 76) rfl rfl (by kernel_rfl) (by kernel_rfl) (by kernel_rfl) (fun _ _ _ h => h) (Or.inl ⟨by rfl, by rintro w' -; go_simp⟩) hS78 ?_
  simp only [Act.put, List.setIfInBounds_toArray, List.set_cons_zero, List.set_cons_succ]
  refine wpAnyH_ready (rs := [23]) (by kernel_rfl) (by simp) ?_
  refine AllReadyH.cons rfl (fun K79 hK79 => ?_) AllReadyH.nil
  have HK79 := Lib.hid hK79
  clear hK79
  rw [if_pos (by rfl)]
  go_simp
  refine (new_shows D_73.out).2.1.mono ?_
  rintro e x80 ⟨rfl, hw⟩
  have hb : Below x69.heap.size x69 x80 := hw ▸ Below.refl _ _
  have G_81 := Lib.hid (Row.go G_70.out (hb))
  have F_82 := Lib.hid (Fts.fw F_71.out (hb))
  have P_83 := Lib.hid (PPw.fw P_72.out (hb))
  have D_84 := Lib.hid (PDk.fw D_73.out (hb))
  have hl85 := hb
  have HT_86 : Hid (Below w.heap.size w x80) := Lib.hid (HT_75.out.trans ((hl85).mono HT_75.out.size))
  clear hb hw
  have hb88 : Below x69.heap.size x69 x80 := hl85
  have hS87 : (fun w' : World => Below x69.heap.size x69 w') x80 := hb88
  refine HK79.out _ _ hS87 fun _ => ?_
  try simp only [Act.put, List.setIfInBounds_toArray, List.set_cons_zero, List.set_cons_succ]
  refine wpAnyH_up (S' := (fun w' : World => Below x80.heap.size x80 w')) (fun w' h => hb88.trans (h.mono hb88.size)) ?_
  have hS89 : (fun w' : World => Below x80.heap.size x80 w') x80 := Below.refl _ _
  refine takeD (i := 24) (v := .bool true) (some 78) rfl rfl (by kernel_rfl) (by kernel_rfl) (by kernel_rfl) (fun _ _ _ h => h) (Or.inl ⟨by rfl, by rintro w' -; go_simp⟩) hS89 ?_
  simp only [Act.put, List.setIfInBounds_toArray, List.set_cons_zero, List.set_cons_succ]
  refine takeD (i := 25) (v := .bool true) (some 79) rfl rfl (by kernel_rfl) (by kernel_rfl) (by kernel_rfl) (fun _ _ _ h => h) (Or.inl ⟨by rfl, by rintro w' -; go_simp⟩) hS89 ?_
  simp only [Act.put, List.setIfInBounds_toArray, List.set_cons_zero, List.set_cons_succ]
  refine takeD (i := 26) (v := .bool true) (some 80) rfl rfl (by kernel_rfl) (by kernel_rfl) (by kernel_rfl) (fun _ _ _ h => h) (Or.inl ⟨by rfl, by rintro w' -; go_simp⟩) hS89 ?_
  simp only [Act.put, List.setIfInBounds_toArray, List.set_cons_zero, List.set_cons_succ]
  refine takeD (i := 27) (v := .pointer (some ⟨D, 0, none⟩)) (some 81) rfl rfl (by kernel_rfl) (by kernel_rfl) (by kernel_rfl) (fun _ _ _ h => h) (Or.inl ⟨by rfl, by rintro w' -; go_simp⟩) hS89 ?_
  simp only [Act.put, List.setIfInBounds_toArray, List.set_cons_zero, List.set_cons_succ]
  refine wpAnyH_ready (rs := [28]) (by kernel_rfl) (by simp) ?_
  refine AllReadyH.cons rfl (fun K90 hK90 => ?_) AllReadyH.nil
  have HK90 := Lib.hid hK90
  clear hK90
  rw [if_pos (by rfl)]
  go_simp
  refine (new_shows D_84.out).2.2.1.mono ?_
  rintro e x91 ⟨rfl, hw⟩
  have hb : Below x80.heap.size x80 x91 := hw ▸ Below.refl _ _
  have G_92 := Lib.hid (Row.go G_81.out (hb))
  have F_93 := Lib.hid (Fts.fw F_82.out (hb))
  have P_94 := Lib.hid (PPw.fw P_83.out (hb))
  have D_95 := Lib.hid (PDk.fw D_84.out (hb))
  have hl96 := hb
  have HT_97 : Hid (Below w.heap.size w x91) := Lib.hid (HT_86.out.trans ((hl96).mono HT_86.out.size))
  clear hb hw
  have hb99 : Below x80.heap.size x80 x91 := hl96
  have hS98 : (fun w' : World => Below x80.heap.size x80 w') x91 := hb99
  refine HK90.out _ _ hS98 fun _ => ?_
  try simp only [Act.put, List.setIfInBounds_toArray, List.set_cons_zero, List.set_cons_succ]
  refine wpAnyH_up (S' := (fun w' : World => Below x91.heap.size x91 w')) (fun w' h => hb99.trans (h.mono hb99.size)) ?_
  have hS100 : (fun w' : World => Below x91.heap.size x91 w') x91 := Below.refl _ _
  refine takeD (i := 29) (v := .bool true) (some 83) rfl rfl (by kernel_rfl) (by kernel_rfl) (by kernel_rfl) (fun _ _ _ h => h) (Or.inl ⟨by rfl, by rintro w' -; go_simp⟩) hS100 ?_
  simp only [Act.put, List.setIfInBounds_toArray, List.set_cons_zero, List.set_cons_succ]
  refine takeD (i := 30) (v := .bool true) (some 84) rfl rfl (by kernel_rfl) (by kernel_rfl) (by kernel_rfl) (fun _ _ _ h => h) (Or.inl ⟨by rfl, by rintro w' -; go_simp⟩) hS100 ?_
  simp only [Act.put, List.setIfInBounds_toArray, List.set_cons_zero, List.set_cons_succ]
  refine takeD (i := 31) (v := .bool true) (some 85) rfl rfl (by kernel_rfl) (by kernel_rfl) (by kernel_rfl) (fun _ _ _ h => h) (Or.inl ⟨by rfl, by rintro w' -; go_simp⟩) hS100 ?_
  simp only [Act.put, List.setIfInBounds_toArray, List.set_cons_zero, List.set_cons_succ]
  refine takeD (i := 32) (v := .pointer (some ⟨D, 0, none⟩)) (some 86) rfl rfl (by kernel_rfl) (by kernel_rfl) (by kernel_rfl) (fun _ _ _ h => h) (Or.inl ⟨by rfl, by rintro w' -; go_simp⟩) hS100 ?_
  simp only [Act.put, List.setIfInBounds_toArray, List.set_cons_zero, List.set_cons_succ]
  refine wpAnyH_ready (rs := [33]) (by kernel_rfl) (by simp) ?_
  refine AllReadyH.cons rfl (fun K101 hK101 => ?_) AllReadyH.nil
  have HK101 := Lib.hid hK101
  clear hK101
  rw [if_pos (by rfl)]
  go_simp
  refine (new_shows D_95.out).2.2.2.1.mono ?_
  rintro e x102 ⟨rfl, hw⟩
  have hb : Below x91.heap.size x91 x102 := hw ▸ Below.refl _ _
  have G_103 := Lib.hid (Row.go G_92.out (hb))
  have F_104 := Lib.hid (Fts.fw F_93.out (hb))
  have P_105 := Lib.hid (PPw.fw P_94.out (hb))
  have D_106 := Lib.hid (PDk.fw D_95.out (hb))
  have hl107 := hb
  have HT_108 : Hid (Below w.heap.size w x102) := Lib.hid (HT_97.out.trans ((hl107).mono HT_97.out.size))
  clear hb hw
  have hb110 : Below x91.heap.size x91 x102 := hl107
  have hS109 : (fun w' : World => Below x91.heap.size x91 w') x102 := hb110
  refine HK101.out _ _ hS109 fun _ => ?_
  try simp only [Act.put, List.setIfInBounds_toArray, List.set_cons_zero, List.set_cons_succ]
  refine wpAnyH_up (S' := (fun w' : World => Below x102.heap.size x102 w')) (fun w' h => hb110.trans (h.mono hb110.size)) ?_
  have hS111 : (fun w' : World => Below x102.heap.size x102 w') x102 := Below.refl _ _
  refine takeD (i := 34) (v := .bool true) (some 88) rfl rfl (by kernel_rfl) (by kernel_rfl) (by kernel_rfl) (fun _ _ _ h => h) (Or.inl ⟨by rfl, by rintro w' -; go_simp⟩) hS111 ?_
  simp only [Act.put, List.setIfInBounds_toArray, List.set_cons_zero, List.set_cons_succ]
  refine takeD (i := 35) (v := .bool true) (some 89) rfl rfl (by kernel_rfl) (by kernel_rfl) (by kernel_rfl) (fun _ _ _ h => h) (Or.inl ⟨by rfl, by rintro w' -; go_simp⟩) hS111 ?_
  simp only [Act.put, List.setIfInBounds_toArray, List.set_cons_zero, List.set_cons_succ]
  refine takeD (i := 36) (v := .bool true) (some 90) rfl rfl (by kernel_rfl) (by kernel_rfl) (by kernel_rfl) (fun _ _ _ h => h) (Or.inl ⟨by rfl, by rintro w' -; go_simp⟩) hS111 ?_
  simp only [Act.put, List.setIfInBounds_toArray, List.set_cons_zero, List.set_cons_succ]
  refine takeD (i := 37) (v := .pointer (some ⟨D, 0, none⟩)) (some 91) rfl rfl (by kernel_rfl) (by kernel_rfl) (by kernel_rfl) (fun _ _ _ h => h) (Or.inl ⟨by rfl, by rintro w' -; go_simp⟩) hS111 ?_
  simp only [Act.put, List.setIfInBounds_toArray, List.set_cons_zero, List.set_cons_succ]
  refine takeD (i := 39) (v := .agg #[.int .i64 0, .int .i64 0, .int .i64 0, .int .i64 0]) (some 93) rfl rfl (by kernel_rfl) (by kernel_rfl) (by kernel_rfl) (fun _ _ _ h => h) (Or.inl ⟨by rfl, by rintro w' -; go_simp⟩) hS111 ?_
  simp only [Act.put, List.setIfInBounds_toArray, List.set_cons_zero, List.set_cons_succ]
  refine wpAnyH_ready (rs := [38]) (by kernel_rfl) (by simp) ?_
  refine AllReadyH.cons rfl (fun K112 hK112 => ?_) AllReadyH.nil
  have HK112 := Lib.hid hK112
  clear hK112
  rw [if_pos (by rfl)]
  go_simp
  refine (new_shows D_106.out).2.2.2.2.1.mono ?_
  rintro e x113 ⟨rfl, hw⟩
  have hb : Below x102.heap.size x102 x113 := hw
  have G_114 := Lib.hid (Row.go G_103.out (hb))
  have F_115 := Lib.hid (Fts.fw F_104.out (hb))
  have P_116 := Lib.hid (PPw.fw P_105.out (hb))
  have D_117 := Lib.hid (PDk.fw D_106.out (hb))
  have hl118 := hb
  have HT_119 : Hid (Below w.heap.size w x113) := Lib.hid (HT_108.out.trans ((hl118).mono HT_108.out.size))
  clear hb hw
  have hb121 : Below x102.heap.size x102 x113 := hl118
  have hS120 : (fun w' : World => Below x102.heap.size x102 w') x113 := hb121
  refine HK112.out _ _ hS120 fun _ => ?_
  try simp only [Act.put, List.setIfInBounds_toArray, List.set_cons_zero, List.set_cons_succ]
  refine wpAnyH_up (S' := (fun w' : World => Below x113.heap.size x113 w')) (fun w' h => hb121.trans (h.mono hb121.size)) ?_
  have hS122 : (fun w' : World => Below x113.heap.size x113 w') x113 := Below.refl _ _
  refine takeD (i := 40) (v := .bool true) (some 94) rfl rfl (by kernel_rfl) (by kernel_rfl) (by kernel_rfl) (fun _ _ _ h => h) (Or.inl ⟨by rfl, by rintro w' -; go_simp⟩) hS122 ?_
  simp only [Act.put, List.setIfInBounds_toArray, List.set_cons_zero, List.set_cons_succ]
  refine takeD (i := 41) (v := .bool true) (some 95) rfl rfl (by kernel_rfl) (by kernel_rfl) (by kernel_rfl) (fun _ _ _ h => h) (Or.inl ⟨by rfl, by rintro w' -; go_simp⟩) hS122 ?_
  simp only [Act.put, List.setIfInBounds_toArray, List.set_cons_zero, List.set_cons_succ]
  refine takeD (i := 42) (v := .bool true) (some 4) rfl rfl (by kernel_rfl) (by kernel_rfl) (by kernel_rfl) (fun _ _ _ h => h) (Or.inl ⟨by rfl, by rintro w' -; go_simp⟩) hS122 ?_
  simp only [Act.put, List.setIfInBounds_toArray, List.set_cons_zero, List.set_cons_succ]
  refine wpAnyH_done (by kernel_rfl) ?_ _
  go_wp2_with fail
  go_ret
  exact ⟨rfl, HT_119.out⟩
theorem new14_walk (r b t s o : Int) (v : Value) (L : List F) (w : World) (h0 : Fts w v L) (hl : L.length * 24 ≤ 140737488351232) : Calls Try.prog 3 #[.agg #[.int .i64 r, .int .i64 b, .int .i64 t, .int .i64 s, .int .i64 o], v] w (lawPost w) := by
  by_cases hv : Geo.GV r b t s o
  · obtain ⟨R, B, T, S, O, rfl, rfl, rfl, rfl, rfl⟩ := hv.nat
    by_cases hz : (2000 : Int) < Geo.size (R : Int) B T S O
    · exact new14_big h0 hl hv hz
    · cases hq : vld L with
      | true => exact new14_ok h0 hl hv hz hq
      | false => exact new14_flt h0 hl hv hz hq
  · exact new14_geo h0 hl hv
end Go.Proofs.Ytdjjihppaobbcaa

