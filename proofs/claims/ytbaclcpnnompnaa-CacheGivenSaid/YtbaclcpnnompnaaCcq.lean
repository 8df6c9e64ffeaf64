/- Laws CacheClone, CacheNil. WRITTEN BY gen_Ccq.py. -/
import Derived.Test.YtbaclcpnnompnaaCcp
namespace Go.Proofs.Ytbaclcpnnompnaa
open Go Go.RowKit Med
set_option linter.unusedVariables false
set_option linter.unusedSimpArgs false

theorem bs_lit2 (w : World) (t : TypeId) (fr : Nat × Nat) (x y : Nat) (hx : x < 256) (hy : y < 256) : Bs (w.alloc (.cells #[.int .u8 (x : Int), .int .u8 (y : Int)] t fr)) (.slice (some ⟨w.heap.size, 0, none⟩) 2 2) [x, y] :=
  ⟨_, 2, rfl, ⟨Nat.le_refl _, by decide⟩, by simpa using And.intro hx hy, fun h => (by cases h), fun _ => ⟨w.heap.size, 0, rfl, fun k hk => by
    rw [Nat.zero_add, cell_of_row _ _ _ _ _ _ (heap_alloc_new w _)]
    have hk' : k < 2 := by simpa using hk
    rcases (by omega : k = 0 ∨ k = 1) with rfl | rfl <;> rfl⟩⟩
set_option maxHeartbeats 4000000 in
set_option maxRecDepth 100000 in
theorem cclone_walk (r b t s o : Int) (v1 : Value) (L1 : List Stp) (v2 : Value) (L2 : List Stp) (w : World) (h1 : Sls w v1 L1) (h2 : Sls w v2 L2) : Calls Try.prog 6 #[.agg #[.int .i64 r, .int .i64 b, .int .i64 t, .int .i64 s, .int .i64 o], v1, v2] w (lawPost w) := by
  obtain ⟨A1, cc1, rfl⟩ := h1.form
  have HO1 := Lib.hid h1
  have HL1 := Lib.hid h1.len
  clear h1
  obtain ⟨n1, hn1⟩ : ∃ n, L1.length = n := ⟨_, rfl⟩
  have EN1 := Lib.hid hn1
  rw [hn1] at HO1 ⊢
  clear hn1
  obtain ⟨A2, cc2, rfl⟩ := h2.form
  have HO2 := Lib.hid h2
  have HL2 := Lib.hid h2.len
  clear h2
  obtain ⟨n2, hn2⟩ : ∃ n, L2.length = n := ⟨_, rfl⟩
  have EN2 := Lib.hid hn2
  rw [hn2] at HO2 ⊢
  clear hn2
  obtain ⟨B0, hB0⟩ : ∃ B, w.heap.size = B := ⟨_, rfl⟩
  obtain ⟨W0, hW0⟩ : ∃ W, w.alloc (.cells #[.int .i64 r, .int .i64 b, .int .i64 t, .int .i64 s, .int .i64 o] 23) = W := ⟨_, rfl⟩
  have T0 : Hid (Below w.heap.size w W0) := Lib.hid (by subst hW0; exact (Below.refl _ _).alloc (Nat.le_refl _) _)
  have G0 : Hid (Row W0 B0 23 #[.int .i64 r, .int .i64 b, .int .i64 t, .int .i64 s, .int .i64 o]) := Lib.hid (by subst hW0; exact gr_new w _ _ hB0)
  have HB0 := Lib.hid hB0
  have HW0 := Lib.hid hW0
  clear hB0 hW0
  go_enter Try.func6, Try.ntmps6
  go_wp2_with (first | rw [HB0.out] | rw [HW0.out])
  refine (awake12 _).mono ?_
  rintro e x1 ⟨rfl, hb2⟩
  have G_3 := Lib.hid (rw_fw G0.out (hb2))
  have hl4 := hb2
  have HT_5 : Hid (Below w.heap.size w x1) := Lib.hid (T0.out.trans ((hl4).mono T0.out.size))
  clear hb2 
  obtain ⟨c0, c1, c2, c3, c4⟩ := geo_cells G_3.out
  go_wp2_with fail
  clear c0 c1 c2 c3 c4
  refine (fair12_any r b t s o (.slice A1 n1 cc1) L1 _ (HO1.out.fw HT_5.out)).mono ?_
  rintro e x6 ⟨bb, rfl, hf, hb⟩
  have G_7 := Lib.hid (rw_fw G_3.out (hb))
  have hl8 := hb
  have HT_9 : Hid (Below w.heap.size w x6) := Lib.hid (HT_5.out.trans ((hl8).mono HT_5.out.size))
  clear hb
  cases bb with
  | false =>
    clear hf
    go_wp2_with fail
    refine (awake12 _).mono ?_
    rintro e x10 ⟨rfl, hb11⟩
    have G_12 := Lib.hid (rw_fw G_7.out (hb11))
    have hl13 := hb11
    have HT_14 : Hid (Below w.heap.size w x10) := Lib.hid (HT_9.out.trans ((hl13).mono HT_9.out.size))
    clear hb11 
    go_wp2_with fail
    go_ret
    exact ⟨rfl, HT_14.out⟩
  | true =>
    have F := Lib.hid (hf rfl)
    clear hf
    obtain ⟨c0, c1, c2, c3, c4⟩ := geo_cells G_7.out
    go_wp2_with fail
    clear c0 c1 c2 c3 c4
    refine (fair12_any r b t s o (.slice A2 n2 cc2) L2 _ (HO2.out.fw HT_9.out)).mono ?_
    rintro e x10 ⟨bb, rfl, hf, hb⟩
    have G_11 := Lib.hid (rw_fw G_7.out (hb))
    have hl12 := hb
    have HT_13 : Hid (Below w.heap.size w x10) := Lib.hid (HT_9.out.trans ((hl12).mono HT_9.out.size))
    clear hb
    cases bb with
    | false =>
      clear hf
      go_wp2_with fail
      refine (awake12 _).mono ?_
      rintro e x14 ⟨rfl, hb15⟩
      have G_16 := Lib.hid (rw_fw G_11.out (hb15))
      have hl17 := hb15
      have HT_18 : Hid (Below w.heap.size w x14) := Lib.hid (HT_13.out.trans ((hl17).mono HT_13.out.size))
      clear hb15 
      go_wp2_with fail
      go_ret
      exact ⟨rfl, HT_18.out⟩
    | true =>
      have F2 := Lib.hid (hf rfl)
      clear hf
      obtain ⟨R, Bn, T, S, O, rfl, rfl, rfl, rfl, rfl⟩ := F.out.nat
      have HV := Lib.hid F.out.1
      obtain ⟨c0, c1, c2, c3, c4⟩ := geo_cells G_11.out
      go_wp2_with fail
      clear c0 c1 c2 c3 c4
      refine (start12_any R Bn T S O _ HV.out).mono ?_
      rintro e x14 ⟨K, K', rfl, hc, hd, hb⟩
      have CC := Lib.hid (hc.low HT_13.out.size)
      have DD := Lib.hid (hd.low HT_13.out.size)
      have G_15 := Lib.hid (rw_fw G_11.out (hb))
      have hl16 := hb
      have HT_17 : Hid (Below w.heap.size w x14) := Lib.hid (HT_13.out.trans ((hl16).mono HT_13.out.size))
      clear hc hd hb
      go_wp2_with fail
      refine (play12_any (W := w) (.slice A1 n1 cc1) L1 CC.out DD.out HO1.out HT_17.out (Nat.le_refl _) F.out.2.2.2 F.out.2.2.1 (by decide)).mono ?_
      rintro e x18 ⟨K2, l2, ops2, rfl, hc, hd, hl, hb⟩
      have C_19 := Lib.hid hc
      have D_20 := Lib.hid hd
      have NL := Lib.hid hl
      have HT_21 : Hid (Below w.heap.size w x18) := Lib.hid (HT_17.out.trans hb)
      clear hc hd hl hb
      go_wp2_with fail
      have SZ0 := Lib.hid HT_21.out.size
      have CX := Lib.hid C_19.out
      have DX := Lib.hid D_20.out
      have TX := Lib.hid HT_21.out
      have NLX := Lib.hid NL.out
      refine (ccl_any C_19.out (Nat.le_trans NL.out (by decide))).mono ?_
      rintro e x22 ⟨Ke, rfl, hn24, hb23⟩
      have C_25 := Lib.hid (Ce.fw C_19.out (hb23))
      have D_26 := Lib.hid (Re.fw D_20.out (hb23))
      have hl27 := hb23
      have HT_28 : Hid (Below w.heap.size w x22) := Lib.hid (HT_21.out.trans ((hl27).mono HT_21.out.size))
      have E_29 := Lib.hid (hn24)
      clear hb23 hn24
      have QB : Hid (Below x18.heap.size x18 x22) := Lib.hid hl27
      go_wp2_with fail
      refine (rcc_any D_26.out).mono ?_
      rintro e x30 ⟨Kf, rfl, hn32, hb31⟩
      have C_33 := Lib.hid (Ce.fw C_25.out (hb31))
      have D_34 := Lib.hid (Re.fw D_26.out (hb31))
      have E_35 := Lib.hid (Ce.fw E_29.out (hb31))
      have hl36 := hb31
      have HT_37 : Hid (Below w.heap.size w x30) := Lib.hid (HT_28.out.trans ((hl36).mono HT_28.out.size))
      have J_38 := Lib.hid (hn32.low QB.out.size)
      clear hb31 hn32
      have QB2 : Hid (Below x18.heap.size x18 x30) := Lib.hid (QB.out.trans (hl36.mono QB.out.size))
      have EX := Lib.hid E_35.out
      have GX := Lib.hid J_38.out
      go_wp2_with fail
      refine (cdu_any C_33.out).mono ?_
      rintro e x39 ⟨Mm, Xm, cm, rfl, hn41, hx, hb40⟩
      have XM := Lib.hid hx.2
      clear hx
      have C_42 := Lib.hid (Ce.fw C_33.out (hb40))
      have D_43 := Lib.hid (Re.fw D_34.out (hb40))
      have E_44 := Lib.hid (Ce.fw E_35.out (hb40))
      have J_45 := Lib.hid (Re.fw J_38.out (hb40))
      have hl46 := hb40
      have HT_47 : Hid (Below w.heap.size w x39) := Lib.hid (HT_37.out.trans ((hl46).mono HT_37.out.size))
      have M_48 := Lib.hid (hn41)
      clear hb40 hn41
      have QB3 : Hid (Below x30.heap.size x30 x39) := Lib.hid hl46
      have kc := fun (w : World) (C : Array Value) (n c : Nat) => Lib.run_convert_bytes_const (P := Try.prog) w 36 5 C n c Try.underlying36 Try.underlying5
      go_wp2_with fail
      have AL := Lib.hid ((Below.refl x39.heap.size x39).alloc (Nat.le_refl _) (.cells #[.int .u8 122, .int .u8 122] 5 (2, 3)))
      have WR := Lib.hid (pwr_any (M_48.out.fw AL.out) 0 _ [122, 122] (bs_lit2 x39 5 (2, 3) 122 122 (by decide) (by decide)))
      refine WR.out.mono ?_
      rintro e y4 ⟨rfl, -, hc⟩
      have QB4 : Hid (Below x30.heap.size x30 y4) := Lib.hid ((QB3.out.trans (AL.out.mono QB3.out.size)).trans (hc.below (Nat.le_trans QB3.out.size AL.out.size) (fun j hj => by rw [hj]; exact XM.out)))
      have QB5 : Hid (Below x18.heap.size x18 y4) := Lib.hid (QB2.out.trans (QB4.out.mono QB2.out.size))
      have E4 := Lib.hid (EX.out.fw QB4.out)
      have J4 := Lib.hid (GX.out.fw QB4.out)
      have T4 : Hid (Below w.heap.size w y4) := Lib.hid (TX.out.trans (QB5.out.mono TX.out.size))
      clear hc WR AL kc
      go_wp2_with fail
      refine (play12_any (W := w) (.slice A2 n2 cc2) L2 E4.out J4.out HO2.out T4.out SZ0.out F2.out.2.2.2 F2.out.2.2.1 (Nat.le_trans NLX.out (by decide))).mono ?_
      rintro e y5 ⟨K5, l5, ops5, rfl, hc, hd, -, hb⟩
      have E5 := Lib.hid hc
      have J5 := Lib.hid hd
      have QB6 : Hid (Below x18.heap.size x18 y5) := Lib.hid (QB5.out.trans hb)
      have C5 := Lib.hid (CX.out.fw QB6.out)
      have D5 := Lib.hid (DX.out.fw QB6.out)
      have T5 : Hid (Below w.heap.size w y5) := Lib.hid (TX.out.trans (QB6.out.mono TX.out.size))
      clear hc hd hb
      go_wp2_with fail
      refine (same12_any E5.out J5.out).mono ?_
      rintro e x49 ⟨rfl, hb50⟩
      have C_51 := Lib.hid (Ce.fw C5.out (hb50))
      have D_52 := Lib.hid (Re.fw D5.out (hb50))
      have E_53 := Lib.hid (Ce.fw E5.out (hb50))
      have J_54 := Lib.hid (Re.fw J5.out (hb50))
      have hl55 := hb50
      have HT_56 : Hid (Below w.heap.size w x49) := Lib.hid (T5.out.trans ((hl55).mono T5.out.size))
      clear hb50 
      go_wp2_with fail
      refine (same12_any C_51.out D_52.out).mono ?_
      rintro e x57 ⟨rfl, hb58⟩
      have C_59 := Lib.hid (Ce.fw C_51.out (hb58))
      have D_60 := Lib.hid (Re.fw D_52.out (hb58))
      have E_61 := Lib.hid (Ce.fw E_53.out (hb58))
      have J_62 := Lib.hid (Re.fw J_54.out (hb58))
      have hl63 := hb58
      have HT_64 : Hid (Below w.heap.size w x57) := Lib.hid (HT_56.out.trans ((hl63).mono HT_56.out.size))
      clear hb58 
      go_wp2_with fail
      go_ret
      exact ⟨rfl, HT_64.out⟩
set_option maxHeartbeats 4000000 in
set_option maxRecDepth 100000 in
theorem cnil_walk (a : Int) (w : World) : Calls Try.prog 8 #[.int .i64 a] w (lawPost w) := by
  go_enter Try.func8, Try.ntmps8
  go_wp2_with fail
  refine (cfl_nil _).mono ?_
  rintro e w' ⟨⟨u, rfl⟩, rfl⟩
  go_wp2_with fail
  refine (ccu_nil a _).mono ?_
  rintro e w' ⟨⟨u, rfl⟩, rfl⟩
  go_wp2_with fail
  refine (crd_nil a _).mono ?_
  rintro e w' ⟨rfl, rfl⟩
  go_wp2_with fail
  refine (awake12 _).mono ?_
  rintro e x1 ⟨rfl, hb2⟩
  have hl3 := hb2
  have HT_4 : Hid (Below w.heap.size w x1) := Lib.hid (hl3)
  clear hb2 
  go_wp2_with fail
  refine (cnew_nil _).mono ?_
  rintro e w' ⟨rfl, rfl⟩
  go_wp2_with fail
  refine (cst_nil a _).mono ?_
  rintro e w' ⟨rfl, rfl⟩
  go_wp2_with fail
  refine (cwr_nil a _).mono ?_
  rintro e x5 ⟨rfl, hb6⟩
  have hl7 := hb6
  have HT_8 : Hid (Below w.heap.size w x5) := Lib.hid (HT_4.out.trans ((hl7).mono HT_4.out.size))
  clear hb6 
  go_wp2_with fail
  refine (cer_nil a _).mono ?_
  rintro e x9 ⟨rfl, hb10⟩
  have hl11 := hb10
  have HT_12 : Hid (Below w.heap.size w x9) := Lib.hid (HT_8.out.trans ((hl11).mono HT_8.out.size))
  clear hb10 
  go_wp2_with fail
  refine (cpe_nil _).mono ?_
  rintro e w' ⟨rfl, rfl⟩
  go_wp2_with fail
  refine (cdu_nil _).mono ?_
  rintro e w' ⟨rfl, rfl⟩
  go_wp2_with fail
  refine (ccl_nil _).mono ?_
  rintro e w' ⟨rfl, rfl⟩
  go_wp2_with fail
  go_ret
  exact ⟨rfl, HT_12.out⟩
end Go.Proofs.Ytbaclcpnnompnaa
