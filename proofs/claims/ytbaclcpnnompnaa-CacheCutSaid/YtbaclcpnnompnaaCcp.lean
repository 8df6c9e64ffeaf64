/- Laws CacheSteps, CacheFlush. WRITTEN BY gen_Ccp.py. -/
import Derived.Test.YtbaclcpnnompnaaCco
namespace Go.Proofs.Ytbaclcpnnompnaa
open Go Go.RowKit Med
set_option linter.unusedVariables false
set_option linter.unusedSimpArgs false

theorem Fair12.nat {r b t s o : Int} {L : List Stp} (h : Fair12 r b t s o L) : ∃ R B T S O : Nat, r = R ∧ b = B ∧ t = T ∧ s = S ∧ o = O := by
  obtain ⟨h, -⟩ := h
  unfold Geo.GV at h
  exact ⟨r.toNat, b.toNat, t.toNat, s.toNat, o.toNat, by omega, by omega, by omega, by omega, by omega⟩
theorem play_nil (R B T S O : Nat) (l : List Sec) (k : Nat) : Med.play R B T S O l (([] : List Med.Op).take k) = l := by rw [List.take_nil]; rfl
set_option maxHeartbeats 4000000 in
set_option maxRecDepth 100000 in
theorem csteps_walk (r b t s o : Int) (v1 : Value) (L1 : List Stp) (w : World) (h1 : Sls w v1 L1) : Calls Try.prog 3 #[.agg #[.int .i64 r, .int .i64 b, .int .i64 t, .int .i64 s, .int .i64 o], v1] w (lawPost w) := by
  obtain ⟨A1, cc1, rfl⟩ := h1.form
  have HO1 := Lib.hid h1
  have HL1 := Lib.hid h1.len
  clear h1
  obtain ⟨n1, hn1⟩ : ∃ n, L1.length = n := ⟨_, rfl⟩
  have EN1 := Lib.hid hn1
  rw [hn1] at HO1 ⊢
  clear hn1
  obtain ⟨B0, hB0⟩ : ∃ B, w.heap.size = B := ⟨_, rfl⟩
  obtain ⟨W0, hW0⟩ : ∃ W, w.alloc (.cells #[.int .i64 r, .int .i64 b, .int .i64 t, .int .i64 s, .int .i64 o] 23) = W := ⟨_, rfl⟩
  have T0 : Hid (Below w.heap.size w W0) := Lib.hid (by subst hW0; exact (Below.refl _ _).alloc (Nat.le_refl _) _)
  have G0 : Hid (Row W0 B0 23 #[.int .i64 r, .int .i64 b, .int .i64 t, .int .i64 s, .int .i64 o]) := Lib.hid (by subst hW0; exact gr_new w _ _ hB0)
  have HB0 := Lib.hid hB0
  have HW0 := Lib.hid hW0
  clear hB0 hW0
  go_enter Try.func3, Try.ntmps3
  go_wp2_with (first | rw [HB0.out] | rw [HW0.out])
  refine (awake12 _).mono ?_
  rintro e x1 ⟨rfl, hb2⟩
  have G_3 := Lib.hid (rw_fw G0.out (hb2))
  have hl4 := hb2
  have HT_5 : Hid (Below w.heap.size w x1) := Lib.hid (T0.out.trans ((hl4).mono T0.out.size))
  clear hb2 
  obtain ⟨c0, c1, c2, c3, c4⟩ := geo_cells G_3.out
  go_wp2_with fail
  clear c0 c1 c2 c3 c4
  refine (fair12_any r b t s o (.slice A1 n1 cc1) L1 _ (HO1.out.fw HT_5.out)).mono ?_
  rintro e x6 ⟨bb, rfl, hf, hb⟩
  have G_7 := Lib.hid (rw_fw G_3.out (hb))
  have hl8 := hb
  have HT_9 : Hid (Below w.heap.size w x6) := Lib.hid (HT_5.out.trans ((hl8).mono HT_5.out.size))
  clear hb
  cases bb with
  | false =>
    clear hf
    go_wp2_with fail
    refine (awake12 _).mono ?_
    rintro e x10 ⟨rfl, hb11⟩
    have G_12 := Lib.hid (rw_fw G_7.out (hb11))
    have hl13 := hb11
    have HT_14 : Hid (Below w.heap.size w x10) := Lib.hid (HT_9.out.trans ((hl13).mono HT_9.out.size))
    clear hb11 
    go_wp2_with fail
    go_ret
    exact ⟨rfl, HT_14.out⟩
  | true =>
    have F := Lib.hid (hf rfl)
    clear hf
    obtain ⟨R, Bn, T, S, O, rfl, rfl, rfl, rfl, rfl⟩ := F.out.nat
    have HV := Lib.hid F.out.1
    obtain ⟨c0, c1, c2, c3, c4⟩ := geo_cells G_7.out
    go_wp2_with fail
    clear c0 c1 c2 c3 c4
    refine (start12_any R Bn T S O _ HV.out).mono ?_
    rintro e x10 ⟨K, K', rfl, hc, hd, hb⟩
    have CC := Lib.hid (hc.low HT_9.out.size)
    have DD := Lib.hid (hd.low HT_9.out.size)
    have G_11 := Lib.hid (rw_fw G_7.out (hb))
    have hl12 := hb
    have HT_13 : Hid (Below w.heap.size w x10) := Lib.hid (HT_9.out.trans ((hl12).mono HT_9.out.size))
    clear hc hd hb
    go_wp2_with fail
    refine (play12_any (W := w) (.slice A1 n1 cc1) L1 CC.out DD.out HO1.out HT_13.out (Nat.le_refl _) F.out.2.2.2 F.out.2.2.1 (by decide)).mono ?_
    rintro e x14 ⟨K2, l2, ops2, rfl, hc, hd, hl, hb⟩
    have C_15 := Lib.hid hc
    have D_16 := Lib.hid hd
    have NL := Lib.hid hl
    have HT_17 : Hid (Below w.heap.size w x14) := Lib.hid (HT_13.out.trans hb)
    clear hc hd hl hb
    go_wp2_with fail
    refine (same12_any C_15.out D_16.out).mono ?_
    rintro e x18 ⟨rfl, hb19⟩
    have C_20 := Lib.hid (Ce.fw C_15.out (hb19))
    have D_21 := Lib.hid (Re.fw D_16.out (hb19))
    have hl22 := hb19
    have HT_23 : Hid (Below w.heap.size w x18) := Lib.hid (HT_17.out.trans ((hl22).mono HT_17.out.size))
    clear hb19 
    go_wp2_with fail
    go_ret
    exact ⟨rfl, HT_23.out⟩
set_option maxHeartbeats 4000000 in
set_option maxRecDepth 100000 in
theorem cflush_walk (r b t s o : Int) (v1 : Value) (L1 : List Stp) (kp : Int) (w : World) (h1 : Sls w v1 L1) : Calls Try.prog 5 #[.agg #[.int .i64 r, .int .i64 b, .int .i64 t, .int .i64 s, .int .i64 o], v1, .int .i64 kp] w (lawPost w) := by
  obtain ⟨A1, cc1, rfl⟩ := h1.form
  have HO1 := Lib.hid h1
  have HL1 := Lib.hid h1.len
  clear h1
  obtain ⟨n1, hn1⟩ : ∃ n, L1.length = n := ⟨_, rfl⟩
  have EN1 := Lib.hid hn1
  rw [hn1] at HO1 ⊢
  clear hn1
  obtain ⟨B0, hB0⟩ : ∃ B, w.heap.size = B := ⟨_, rfl⟩
  obtain ⟨W0, hW0⟩ : ∃ W, w.alloc (.cells #[.int .i64 r, .int .i64 b, .int .i64 t, .int .i64 s, .int .i64 o] 23) = W := ⟨_, rfl⟩
  have T0 : Hid (Below w.heap.size w W0) := Lib.hid (by subst hW0; exact (Below.refl _ _).alloc (Nat.le_refl _) _)
  have G0 : Hid (Row W0 B0 23 #[.int .i64 r, .int .i64 b, .int .i64 t, .int .i64 s, .int .i64 o]) := Lib.hid (by subst hW0; exact gr_new w _ _ hB0)
  have HB0 := Lib.hid hB0
  have HW0 := Lib.hid hW0
  clear hB0 hW0
  go_enter Try.func5, Try.ntmps5
  go_wp2_with (first | rw [HB0.out] | rw [HW0.out])
  refine (awake12 _).mono ?_
  rintro e x1 ⟨rfl, hb2⟩
  have G_3 := Lib.hid (rw_fw G0.out (hb2))
  have hl4 := hb2
  have HT_5 : Hid (Below w.heap.size w x1) := Lib.hid (T0.out.trans ((hl4).mono T0.out.size))
  clear hb2 
  obtain ⟨c0, c1, c2, c3, c4⟩ := geo_cells G_3.out
  go_wp2_with fail
  clear c0 c1 c2 c3 c4
  refine (fair12_any r b t s o (.slice A1 n1 cc1) L1 _ (HO1.out.fw HT_5.out)).mono ?_
  rintro e x6 ⟨bb, rfl, hf, hb⟩
  have G_7 := Lib.hid (rw_fw G_3.out (hb))
  have hl8 := hb
  have HT_9 : Hid (Below w.heap.size w x6) := Lib.hid (HT_5.out.trans ((hl8).mono HT_5.out.size))
  clear hb
  cases bb with
  | false =>
    clear hf
    go_wp2_with fail
    refine (awake12 _).mono ?_
    rintro e x10 ⟨rfl, hb11⟩
    have G_12 := Lib.hid (rw_fw G_7.out (hb11))
    have hl13 := hb11
    have HT_14 : Hid (Below w.heap.size w x10) := Lib.hid (HT_9.out.trans ((hl13).mono HT_9.out.size))
    clear hb11 
    go_wp2_with fail
    go_ret
    exact ⟨rfl, HT_14.out⟩
  | true =>
    have F := Lib.hid (hf rfl)
    clear hf
    obtain ⟨R, Bn, T, S, O, rfl, rfl, rfl, rfl, rfl⟩ := F.out.nat
    have HV := Lib.hid F.out.1
    obtain ⟨c0, c1, c2, c3, c4⟩ := geo_cells G_7.out
    go_wp2_with fail
    clear c0 c1 c2 c3 c4
    refine (start12_any R Bn T S O _ HV.out).mono ?_
    rintro e x10 ⟨K, K', rfl, hc, hd, hb⟩
    have CC := Lib.hid (hc.low HT_9.out.size)
    have DD := Lib.hid (hd.low HT_9.out.size)
    have G_11 := Lib.hid (rw_fw G_7.out (hb))
    have hl12 := hb
    have HT_13 : Hid (Below w.heap.size w x10) := Lib.hid (HT_9.out.trans ((hl12).mono HT_9.out.size))
    clear hc hd hb
    go_wp2_with fail
    refine (play12_any (W := w) (.slice A1 n1 cc1) L1 CC.out DD.out HO1.out HT_13.out (Nat.le_refl _) F.out.2.2.2 F.out.2.2.1 (by decide)).mono ?_
    rintro e x14 ⟨K2, l2, ops2, rfl, hc, hd, hl, hb⟩
    have C_15 := Lib.hid hc
    have D_16 := Lib.hid hd
    have NL := Lib.hid hl
    have HT_17 : Hid (Below w.heap.size w x14) := Lib.hid (HT_13.out.trans hb)
    clear hc hd hl hb
    go_wp2_with fail
    refine (rct_any D_16.out).mono ?_
    rintro e x18 ⟨Mn, Xn, cn, rfl, hn20, hx, hb19⟩
    clear hx
    have C_21 := Lib.hid (Ce.fw C_15.out (hb19))
    have D_22 := Lib.hid (Re.fw D_16.out (hb19))
    have hl23 := hb19
    have HT_24 : Hid (Below w.heap.size w x18) := Lib.hid (HT_17.out.trans ((hl23).mono HT_17.out.size))
    have N_25 := Lib.hid (hn20)
    clear hb19 hn20
    obtain ⟨l3, hl3⟩ : ∃ x, Med.play R Bn T S O l2 ops2 = x := ⟨_, rfl⟩
    rw [hl3] at N_25
    have EL := Lib.hid hl3
    clear hl3
    go_wp2_with fail
    refine (cfl_any C_21.out).mono ?_
    rintro e x26 ⟨⟨u1, rfl⟩, hn27, ht⟩
    have N_28 := Lib.hid (Md.tch ht N_25.out (by decide) (by decide))
    have C_29 := Lib.hid (hn27)
    have HT_30 : Hid (Below w.heap.size w x26) := Lib.hid (HT_24.out.trans (ht.below HT_24.out.size))
    clear ht hn27
    rw [EL.out] at C_29
    go_wp2_with fail
    refine (ccu_any C_29.out kp).mono ?_
    rintro e x31 ⟨⟨u2, rfl⟩, hn32, ht⟩
    have N_33 := Lib.hid (Md.tch ht N_28.out (by decide) (by decide))
    have C_34 := Lib.hid (hn32)
    have HT_35 : Hid (Below w.heap.size w x31) := Lib.hid (HT_30.out.trans (ht.below HT_30.out.size))
    clear ht hn32
    rw [play_nil] at C_34
    go_wp2_with fail
    have Q := cpe_any C_34.out
    refine Q.mono ?_
    rintro e w' ⟨rfl, rfl⟩
    clear Q
    go_wp2_with fail
    refine (cdu_any C_34.out).mono ?_
    rintro e x36 ⟨Mm, Xm, cm, rfl, hn38, hx, hb37⟩
    clear hx
    have N_39 := Lib.hid (Md.fw N_33.out (hb37))
    have C_40 := Lib.hid (Ce.fw C_34.out (hb37))
    have hl41 := hb37
    have HT_42 : Hid (Below w.heap.size w x36) := Lib.hid (HT_35.out.trans ((hl41).mono HT_35.out.size))
    have M_43 := Lib.hid (hn38)
    clear hb37 hn38
    go_wp2_with fail
    refine (sm12_any M_43.out N_39.out).mono ?_
    rintro e x44 ⟨rfl, hb45⟩
    have N_46 := Lib.hid (Md.fw N_39.out (hb45))
    have C_47 := Lib.hid (Ce.fw C_40.out (hb45))
    have M_48 := Lib.hid (Md.fw M_43.out (hb45))
    have hl49 := hb45
    have HT_50 : Hid (Below w.heap.size w x44) := Lib.hid (HT_42.out.trans ((hl49).mono HT_42.out.size))
    clear hb45 
    go_wp2_with fail
    refine (rcn_any N_46.out).mono ?_
    rintro e x51 ⟨Kn, rfl, hn53, hb52⟩
    have N_54 := Lib.hid (Md.fw N_46.out (hb52))
    have C_55 := Lib.hid (Ce.fw C_47.out (hb52))
    have M_56 := Lib.hid (Md.fw M_48.out (hb52))
    have hl57 := hb52
    have HT_58 : Hid (Below w.heap.size w x51) := Lib.hid (HT_50.out.trans ((hl57).mono HT_50.out.size))
    have D_59 := Lib.hid (hn53)
    clear hb52 hn53
    go_wp2_with fail
    refine (same12_any C_55.out D_59.out).mono ?_
    rintro e x60 ⟨rfl, hb61⟩
    have N_62 := Lib.hid (Md.fw N_54.out (hb61))
    have C_63 := Lib.hid (Ce.fw C_55.out (hb61))
    have M_64 := Lib.hid (Md.fw M_56.out (hb61))
    have D_65 := Lib.hid (Re.fw D_59.out (hb61))
    have hl66 := hb61
    have HT_67 : Hid (Below w.heap.size w x60) := Lib.hid (HT_58.out.trans ((hl66).mono HT_58.out.size))
    clear hb61 
    go_wp2_with fail
    go_ret
    exact ⟨rfl, HT_67.out⟩
end Go.Proofs.Ytbaclcpnnompnaa
