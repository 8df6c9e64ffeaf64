/- Layer 15: the walks of EntrySealed and EntryInverse. WRITTEN BY gen_Ntl.py. -/
import Derived.Test.YtfihiihakgcikaaNtk
namespace Go.Proofs.Ytfihiihakgcikaa
open Go Go.RowKit Ent
set_option linter.unusedVariables false
set_option linter.unusedSimpArgs false
theorem dec_good {b : List Nat} (hb : ∀ x ∈ b, x < 256) (h : decE b = 0) : ok (decV b) ∧ decT b < 2 ^ 64 ∧ enc (decV b) (decT b) = b := by
  obtain ⟨h1, h2⟩ := decV_good h
  obtain ⟨a, _, c, d⟩ := enc_rd hb h
  rw [h1, h2]
  exact ⟨a, c, d⟩
theorem run_raw {g : Nat} : ∀ w, (Instr.sliceAt 36 (.pointer (some ⟨g, 0, none⟩)) none none none).run Try.prog w = .ok (.slice (some ⟨g, 0, none⟩) 29 29) w := by
  intro w
  have hl : Try.prog.arrayLen 36 = 29 := by kernel_rfl
  obtain ⟨i, hi, hzz⟩ := Option.map_eq_some_iff.1 info_u8
  simp only [Prod.mk.injEq] at hzz
  have hel : Try.prog.elem 36 = 5 := by kernel_rfl
  rw [run_sliceAt_array_all w 36 ⟨g, 0, none⟩ (by rw [hl, hel]; exact Try.underlying36), hel, hl]
  simp [sizeOf, typeInfo, hi, hzz.2.1, Result.andThen, slicedAt]
  rfl
set_option maxHeartbeats 4000000 in
set_option maxRecDepth 100000 in
theorem seallaw_ok (raw : List Nat) (w : World) (h29 : raw.length = 29) (h8 : ∀ x ∈ raw, x < 256) (hd : decE (sld raw) = 0) : Calls Try.prog 5 #[.agg (dcs raw)] w (lawPost w) := by
  have L37 := Lib.hid (show (sld raw).length = 37 by rw [sld_len, h29])
  have SL := Lib.hid fun w' v (h : Bs w' v raw) => rseal_any v raw w' h (by rw [h29]; omega)
  have SB := Lib.hid (sld_lt h8)
  have L29 := Lib.hid h29
  obtain ⟨b, hb⟩ : ∃ b, sld raw = b := ⟨_, rfl⟩
  rw [hb] at SL SB L37 hd
  have PD := Lib.hid fun w' v (h : Bs w' v b) => pdec_any v b w' h
  have RD := Lib.hid fun w' v (h : Bs w' v b) => rdec_any v b w' h
  have FV := Lib.hid (decV_fit SB.out)
  have NQ := Lib.hid (eneq (decV b) (decV b) FV.out FV.out)
  rw [show decide (decV b = decV b) = true from decide_eq_true rfl] at NQ
  have PE := Lib.hid fun w => penc_yes (decV b) (decT b) w FV.out (dec_good SB.out hd).2.1 (dec_good SB.out hd).1
  rw [(dec_good SB.out hd).2.2] at PE
  unfold decPost at PD RD
  rw [hd] at PD RD
  obtain ⟨Z, hzZ⟩ : ∃ Z, (ecs (decV b)).toArray = Z := ⟨_, rfl⟩
  have EQZ := Lib.hid hzZ
  have SIZ : Hid ((Try.prog.info? 26).map (·.size) = some Z.size) := Lib.hid (by rw [← hzZ]; exact (ent_info FV.out).trans (congrArg some List.size_toArray.symm))
  have ONZ : Hid (Z.all (·.oneCell') = true) := Lib.hid (by rw [← hzZ]; exact all_oneCell_toArray (ecs_one _))
  have EVZ : Hid (ev (decV b) = .agg Z) := Lib.hid (by rw [← hzZ]; rfl)
  clear hzZ
  rw [EVZ.out] at PD RD NQ PE
  have nq' := NQ.out
  have gu := eguardE
  obtain ⟨x1, hx1⟩ : ∃ x, decT b = x := ⟨_, rfl⟩
  rw [hx1] at PD RD PE
  obtain ⟨B0, hB0⟩ : ∃ B, w.heap.size = B := ⟨_, rfl⟩
  obtain ⟨C, hC⟩ : ∃ C, dcs raw = C := ⟨_, rfl⟩
  obtain ⟨W0, hW0⟩ : ∃ W, w.alloc (.cells C 36) = W := ⟨_, rfl⟩
  have BW0 : Below w.heap.size w W0 := by rw [← hW0]; exact (Below.refl _ _).alloc (Nat.le_refl _) _
  have FR : Hid (Bs W0 (.slice (some ⟨B0, 0, none⟩) 29 29) raw) := Lib.hid (by
    refine Bs.of_row (t := 36) (cs := C) (by rw [← hW0, ← hB0]; exact heap_alloc_new w _) h29 ⟨by decide, by decide⟩ h8 fun k hk => ?_
    rw [← hC, dcs, List.getElem?_toArray]; exact getD_bv (by omega))
  have HB0 := Lib.hid hB0
  have HW0 := Lib.hid hW0
  have rr := run_raw (g := B0)
  rw [hC]
  clear h29 h8 hd hb hx1 hB0 hW0 hC
  go_enter Try.func5, Try.ntmps5
  go_wp2_with (first | rw [HB0.out] | rw [HW0.out])
  have xhl1 := BW0
  have xHT_2 : Hid (Below w.heap.size w W0) := Lib.hid (xhl1)
  refine (SL.out _ _ FR.out).mono ?_
  rintro e xx3 ⟨v3, rfl, xhn5, xhb4⟩
  have xFR_6 := Lib.hid (Bs.below FR.out (xhb4))
  have xhl7 := xhb4
  have xHT_8 : Hid (Below w.heap.size w xx3) := Lib.hid (xHT_2.out.trans ((xhl7).mono xHT_2.out.size))
  have xf3_9 := Lib.hid ((xhn5).bs)
  clear xhb4 xhn5
  obtain ⟨g3, off3, c3, ev3, hc3⟩ := form37 xf3_9.out L37.out
  subst ev3
  go_wp2_with fail
  refine (PD.out _ _ xf3_9.out).mono ?_
  rintro e xx10 ⟨rfl, xhb11⟩
  have xFR_12 := Lib.hid (Bs.below xFR_6.out (xhb11))
  have xf3_13 := Lib.hid (Bs.below xf3_9.out (xhb11))
  have xhl14 := xhb11
  have xHT_15 : Hid (Below w.heap.size w xx10) := Lib.hid (xHT_8.out.trans ((xhl14).mono xHT_8.out.size))
  clear xhb11 
  obtain ⟨b1, W1a, W1, hb1, ha1, hw1, th1, re1, bl1⟩ := ent_made xx10 (decV b) FV.out
  have HB1 := Lib.hid hb1
  have HA1 := Lib.hid ha1
  have RE1 := Lib.hid re1
  have BLA1 := Lib.hid bl1
  have HW1 : Hid (W1a.setCells b1 0 Z.toList = W1) := Lib.hid (by rw [← EQZ.out]; exact hw1)
  have TH1 : Hid (W1a.there b1 0 Z.size) := Lib.hid (by rw [← EQZ.out]; exact th1)
  clear hb1 ha1 hw1 th1 re1 bl1
  have xFR_16 := Lib.hid (Bs.below xFR_12.out (BLA1.out))
  have xf3_17 := Lib.hid (Bs.below xf3_13.out (BLA1.out))
  have xhl18 := BLA1.out
  have xHT_19 : Hid (Below w.heap.size w W1) := Lib.hid (xHT_15.out.trans ((xhl18).mono xHT_15.out.size))
  go_wp2_with (first | rw [HA1.out, HB1.out] | (refine wpList_store_mid rfl _ _ _ rfl b1 0 Z rfl rfl TH1.out SIZ.out ONZ.out ?_; rw [HW1.out]))
  refine (RD.out _ _ xf3_17.out).mono ?_
  rintro e xx20 ⟨rfl, xhb21⟩
  have xFR_22 := Lib.hid (Bs.below xFR_16.out (xhb21))
  have xf3_23 := Lib.hid (Bs.below xf3_17.out (xhb21))
  have xRE1_24 := Lib.hid (Eb.below RE1.out (xhb21))
  have xhl25 := xhb21
  have xHT_26 : Hid (Below w.heap.size w xx20) := Lib.hid (xHT_19.out.trans ((xhl25).mono xHT_19.out.size))
  clear xhb21 
  obtain ⟨b2, W2a, W2, hb2, ha2, hw2, th2, re2, bl2⟩ := ent_made xx20 (decV b) FV.out
  have HB2 := Lib.hid hb2
  have HA2 := Lib.hid ha2
  have RE2 := Lib.hid re2
  have BLA2 := Lib.hid bl2
  have HW2 : Hid (W2a.setCells b2 0 Z.toList = W2) := Lib.hid (by rw [← EQZ.out]; exact hw2)
  have TH2 : Hid (W2a.there b2 0 Z.size) := Lib.hid (by rw [← EQZ.out]; exact th2)
  clear hb2 ha2 hw2 th2 re2 bl2
  have xFR_27 := Lib.hid (Bs.below xFR_22.out (BLA2.out))
  have xf3_28 := Lib.hid (Bs.below xf3_23.out (BLA2.out))
  have xRE1_29 := Lib.hid (Eb.below xRE1_24.out (BLA2.out))
  have xhl30 := BLA2.out
  have xHT_31 : Hid (Below w.heap.size w W2) := Lib.hid (xHT_26.out.trans ((xhl30).mono xHT_26.out.size))
  go_wp2_with (first | rw [HA2.out, HB2.out] | (refine wpList_store_mid rfl _ _ _ rfl b2 0 Z rfl rfl TH2.out SIZ.out ONZ.out ?_; rw [HW2.out]))
  refine (awake15_any _).mono ?_
  rintro e xx32 ⟨rfl, xhb33⟩
  have xFR_34 := Lib.hid (Bs.below xFR_27.out (xhb33))
  have xf3_35 := Lib.hid (Bs.below xf3_28.out (xhb33))
  have xRE1_36 := Lib.hid (Eb.below xRE1_29.out (xhb33))
  have xRE2_37 := Lib.hid (Eb.below RE2.out (xhb33))
  have xhl38 := xhb33
  have xHT_39 : Hid (Below w.heap.size w xx32) := Lib.hid (xHT_31.out.trans ((xhl38).mono xHT_31.out.size))
  clear xhb33 
  obtain ⟨CL, hCL⟩ : ∃ L, ecs (decV b) = L := ⟨_, rfl⟩
  have HCL := Lib.hid hCL
  clear hCL
  have CZ : Hid (CL.toArray = Z) := Lib.hid (by rw [← HCL.out]; exact EQZ.out)
  have SCL := Lib.hid (ent_info FV.out)
  rw [HCL.out] at SCL
  have RG1 := Lib.hid ((xRE1_36.out).rng)
  rw [HCL.out] at RG1
  have RG2 := Lib.hid ((xRE2_37.out).rng)
  rw [HCL.out] at RG2
  go_wp2_with (first | rw [CZ.out] | (refine wpList_load_want (by rfl) _ _ rfl b1 0 rfl CL _ RG1.out Try.underlying26 rfl SCL.out ?_) | (refine wpList_load_want (by rfl) _ _ rfl b2 0 rfl CL _ RG2.out Try.underlying26 rfl SCL.out ?_))
  refine (PE.out _).mono ?_
  rintro e xx40 ⟨v4, rfl, xhn42, xhb41⟩
  have xFR_43 := Lib.hid (Bs.below xFR_34.out (xhb41))
  have xf3_44 := Lib.hid (Bs.below xf3_35.out (xhb41))
  have xRE1_45 := Lib.hid (Eb.below xRE1_36.out (xhb41))
  have xRE2_46 := Lib.hid (Eb.below xRE2_37.out (xhb41))
  have xhl47 := xhb41
  have xHT_48 : Hid (Below w.heap.size w xx40) := Lib.hid (xHT_39.out.trans ((xhl47).mono xHT_39.out.size))
  have xf4_49 := Lib.hid ((xhn42).bs)
  clear xhb41 xhn42
  obtain ⟨g4, off4, c4, ev4, hc4⟩ := form37 xf4_49.out L37.out
  subst ev4
  have cv3 := conv_bs 27 5 9 Try.underlying27 Try.underlying5 Try.underlying9 xf3_44.out
  have cv4 := conv_bs 27 5 9 Try.underlying27 Try.underlying5 Try.underlying9 xf4_49.out
  obtain ⟨ts, hts⟩ : ∃ t, strOf b = t := ⟨_, rfl⟩
  rw [hts] at cv3 cv4
  clear hts
  go_wp2_with fail
  go_ret
  exact ⟨rfl, xHT_48.out⟩
set_option maxHeartbeats 4000000 in
set_option maxRecDepth 100000 in
theorem seallaw_no (raw : List Nat) (w : World) (h29 : raw.length = 29) (h8 : ∀ x ∈ raw, x < 256) (hd : decE (sld raw) = 5) : Calls Try.prog 5 #[.agg (dcs raw)] w (lawPost w) := by
  have L37 := Lib.hid (show (sld raw).length = 37 by rw [sld_len, h29])
  have SL := Lib.hid fun w' v (h : Bs w' v raw) => rseal_any v raw w' h (by rw [h29]; omega)
  have SB := Lib.hid (sld_lt h8)
  have L29 := Lib.hid h29
  obtain ⟨b, hb⟩ : ∃ b, sld raw = b := ⟨_, rfl⟩
  rw [hb] at SL SB L37 hd
  have PD := Lib.hid fun w' v (h : Bs w' v b) => pdec_any v b w' h
  have RD := Lib.hid fun w' v (h : Bs w' v b) => rdec_any v b w' h
  have FV := Lib.hid (decV_fit SB.out)
  have NQ := Lib.hid (eneq (decV b) (decV b) FV.out FV.out)
  rw [show decide (decV b = decV b) = true from decide_eq_true rfl] at NQ
  unfold decPost at PD RD
  rw [hd] at PD RD
  obtain ⟨Z, hzZ⟩ : ∃ Z, (ecs (decV b)).toArray = Z := ⟨_, rfl⟩
  have EQZ := Lib.hid hzZ
  have SIZ : Hid ((Try.prog.info? 26).map (·.size) = some Z.size) := Lib.hid (by rw [← hzZ]; exact (ent_info FV.out).trans (congrArg some List.size_toArray.symm))
  have ONZ : Hid (Z.all (·.oneCell') = true) := Lib.hid (by rw [← hzZ]; exact all_oneCell_toArray (ecs_one _))
  have EVZ : Hid (ev (decV b) = .agg Z) := Lib.hid (by rw [← hzZ]; rfl)
  clear hzZ
  rw [EVZ.out] at PD RD NQ
  have nq' := NQ.out
  have gu := eguardE
  obtain ⟨x1, hx1⟩ : ∃ x, decT b = x := ⟨_, rfl⟩
  rw [hx1] at PD RD
  obtain ⟨B0, hB0⟩ : ∃ B, w.heap.size = B := ⟨_, rfl⟩
  obtain ⟨C, hC⟩ : ∃ C, dcs raw = C := ⟨_, rfl⟩
  obtain ⟨W0, hW0⟩ : ∃ W, w.alloc (.cells C 36) = W := ⟨_, rfl⟩
  have BW0 : Below w.heap.size w W0 := by rw [← hW0]; exact (Below.refl _ _).alloc (Nat.le_refl _) _
  have FR : Hid (Bs W0 (.slice (some ⟨B0, 0, none⟩) 29 29) raw) := Lib.hid (by
    refine Bs.of_row (t := 36) (cs := C) (by rw [← hW0, ← hB0]; exact heap_alloc_new w _) h29 ⟨by decide, by decide⟩ h8 fun k hk => ?_
    rw [← hC, dcs, List.getElem?_toArray]; exact getD_bv (by omega))
  have HB0 := Lib.hid hB0
  have HW0 := Lib.hid hW0
  have rr := run_raw (g := B0)
  rw [hC]
  clear h29 h8 hd hb hx1 hB0 hW0 hC
  go_enter Try.func5, Try.ntmps5
  go_wp2_with (first | rw [HB0.out] | rw [HW0.out])
  have xhl1 := BW0
  have xHT_2 : Hid (Below w.heap.size w W0) := Lib.hid (xhl1)
  refine (SL.out _ _ FR.out).mono ?_
  rintro e xx3 ⟨v3, rfl, xhn5, xhb4⟩
  have xFR_6 := Lib.hid (Bs.below FR.out (xhb4))
  have xhl7 := xhb4
  have xHT_8 : Hid (Below w.heap.size w xx3) := Lib.hid (xHT_2.out.trans ((xhl7).mono xHT_2.out.size))
  have xf3_9 := Lib.hid ((xhn5).bs)
  clear xhb4 xhn5
  obtain ⟨g3, off3, c3, ev3, hc3⟩ := form37 xf3_9.out L37.out
  subst ev3
  go_wp2_with fail
  refine (PD.out _ _ xf3_9.out).mono ?_
  rintro e xx10 ⟨rfl, xhb11⟩
  have xFR_12 := Lib.hid (Bs.below xFR_6.out (xhb11))
  have xf3_13 := Lib.hid (Bs.below xf3_9.out (xhb11))
  have xhl14 := xhb11
  have xHT_15 : Hid (Below w.heap.size w xx10) := Lib.hid (xHT_8.out.trans ((xhl14).mono xHT_8.out.size))
  clear xhb11 
  obtain ⟨b1, W1a, W1, hb1, ha1, hw1, th1, re1, bl1⟩ := ent_made xx10 (decV b) FV.out
  have HB1 := Lib.hid hb1
  have HA1 := Lib.hid ha1
  have RE1 := Lib.hid re1
  have BLA1 := Lib.hid bl1
  have HW1 : Hid (W1a.setCells b1 0 Z.toList = W1) := Lib.hid (by rw [← EQZ.out]; exact hw1)
  have TH1 : Hid (W1a.there b1 0 Z.size) := Lib.hid (by rw [← EQZ.out]; exact th1)
  clear hb1 ha1 hw1 th1 re1 bl1
  have xFR_16 := Lib.hid (Bs.below xFR_12.out (BLA1.out))
  have xf3_17 := Lib.hid (Bs.below xf3_13.out (BLA1.out))
  have xhl18 := BLA1.out
  have xHT_19 : Hid (Below w.heap.size w W1) := Lib.hid (xHT_15.out.trans ((xhl18).mono xHT_15.out.size))
  go_wp2_with (first | rw [HA1.out, HB1.out] | (refine wpList_store_mid rfl _ _ _ rfl b1 0 Z rfl rfl TH1.out SIZ.out ONZ.out ?_; rw [HW1.out]))
  refine (RD.out _ _ xf3_17.out).mono ?_
  rintro e xx20 ⟨rfl, xhb21⟩
  have xFR_22 := Lib.hid (Bs.below xFR_16.out (xhb21))
  have xf3_23 := Lib.hid (Bs.below xf3_17.out (xhb21))
  have xRE1_24 := Lib.hid (Eb.below RE1.out (xhb21))
  have xhl25 := xhb21
  have xHT_26 : Hid (Below w.heap.size w xx20) := Lib.hid (xHT_19.out.trans ((xhl25).mono xHT_19.out.size))
  clear xhb21 
  obtain ⟨b2, W2a, W2, hb2, ha2, hw2, th2, re2, bl2⟩ := ent_made xx20 (decV b) FV.out
  have HB2 := Lib.hid hb2
  have HA2 := Lib.hid ha2
  have RE2 := Lib.hid re2
  have BLA2 := Lib.hid bl2
  have HW2 : Hid (W2a.setCells b2 0 Z.toList = W2) := Lib.hid (by rw [← EQZ.out]; exact hw2)
  have TH2 : Hid (W2a.there b2 0 Z.size) := Lib.hid (by rw [← EQZ.out]; exact th2)
  clear hb2 ha2 hw2 th2 re2 bl2
  have xFR_27 := Lib.hid (Bs.below xFR_22.out (BLA2.out))
  have xf3_28 := Lib.hid (Bs.below xf3_23.out (BLA2.out))
  have xRE1_29 := Lib.hid (Eb.below xRE1_24.out (BLA2.out))
  have xhl30 := BLA2.out
  have xHT_31 : Hid (Below w.heap.size w W2) := Lib.hid (xHT_26.out.trans ((xhl30).mono xHT_26.out.size))
  go_wp2_with (first | rw [HA2.out, HB2.out] | (refine wpList_store_mid rfl _ _ _ rfl b2 0 Z rfl rfl TH2.out SIZ.out ONZ.out ?_; rw [HW2.out]))
  refine (awake15_any _).mono ?_
  rintro e xx32 ⟨rfl, xhb33⟩
  have xFR_34 := Lib.hid (Bs.below xFR_27.out (xhb33))
  have xf3_35 := Lib.hid (Bs.below xf3_28.out (xhb33))
  have xRE1_36 := Lib.hid (Eb.below xRE1_29.out (xhb33))
  have xRE2_37 := Lib.hid (Eb.below RE2.out (xhb33))
  have xhl38 := xhb33
  have xHT_39 : Hid (Below w.heap.size w xx32) := Lib.hid (xHT_31.out.trans ((xhl38).mono xHT_31.out.size))
  clear xhb33 
  obtain ⟨CL, hCL⟩ : ∃ L, ecs (decV b) = L := ⟨_, rfl⟩
  have HCL := Lib.hid hCL
  clear hCL
  have CZ : Hid (CL.toArray = Z) := Lib.hid (by rw [← HCL.out]; exact EQZ.out)
  have SCL := Lib.hid (ent_info FV.out)
  rw [HCL.out] at SCL
  have RG1 := Lib.hid ((xRE1_36.out).rng)
  rw [HCL.out] at RG1
  have RG2 := Lib.hid ((xRE2_37.out).rng)
  rw [HCL.out] at RG2
  go_wp2_with (first | rw [CZ.out] | (refine wpList_load_want (by rfl) _ _ rfl b1 0 rfl CL _ RG1.out Try.underlying26 rfl SCL.out ?_) | (refine wpList_load_want (by rfl) _ _ rfl b2 0 rfl CL _ RG2.out Try.underlying26 rfl SCL.out ?_))
  go_ret
  exact ⟨rfl, xHT_39.out⟩
theorem seallaw_walk (raw : List Nat) (w : World) (h29 : raw.length = 29) (h8 : ∀ x ∈ raw, x < 256) : Calls Try.prog 5 #[.agg (dcs raw)] w (lawPost w) := by
  have h := dec_sld h29
  by_cases ho : ok (rdE (sld raw))
  · rw [if_pos ho] at h; exact seallaw_ok raw w h29 h8 h
  · rw [if_neg ho] at h; exact seallaw_no raw w h29 h8 h
set_option maxHeartbeats 4000000 in
set_option maxRecDepth 100000 in
theorem invlaw_yes (e : E) (t : Nat) (w : World) (hf : Fit e) (ht : t < 2 ^ 64) (ho : ok e) : Calls Try.prog 6 #[ev e, .int .u64 (t : Int)] w (lawPost w) := by
  have HFE := Lib.hid hf
  have PE := Lib.hid fun w => penc_yes e t w hf ht ho
  have VA := Lib.hid fun w => rvalid_any e w hf
  rw [show decide (ok e) = true from decide_eq_true ho] at VA
  have LN := Lib.hid (enc_len hf t)
  have hd := dec_enc ho hf ht
  have hr := rd_enc ho hf ht
  have hv := decV_good hd
  rw [hr.1, hr.2] at hv
  obtain ⟨b, hb⟩ : ∃ l, enc e t = l := ⟨_, rfl⟩
  rw [hb] at PE LN hd hv
  have PD := Lib.hid fun w' v (h : Bs w' v b) => pdec_any v b w' h
  unfold decPost at PD
  rw [hd, hv.1, hv.2] at PD
  have EQ := Lib.hid (eeql e e hf hf)
  rw [show decide (e = e) = true from decide_eq_true rfl] at EQ
  obtain ⟨Z, hzZ⟩ : ∃ Z, (ecs e).toArray = Z := ⟨_, rfl⟩
  have EQZ := Lib.hid hzZ
  have SIZ : Hid ((Try.prog.info? 26).map (·.size) = some Z.size) := Lib.hid (by rw [← hzZ]; exact (ent_info HFE.out).trans (congrArg some List.size_toArray.symm))
  have ONZ : Hid (Z.all (·.oneCell') = true) := Lib.hid (by rw [← hzZ]; exact all_oneCell_toArray (ecs_one _))
  have EVZ : Hid (ev e = .agg Z) := Lib.hid (by rw [← hzZ]; rfl)
  clear hzZ
  rw [EVZ.out] at PD EQ
  have eq := EQ.out
  have gu := eguardE
  obtain ⟨B0, hB0⟩ : ∃ B, w.heap.size = B := ⟨_, rfl⟩
  obtain ⟨W0, hW0⟩ : ∃ W, w.alloc (.cells (ecs e).toArray 26) = W := ⟨_, rfl⟩
  have RE : Hid (Eb W0 B0 e) := Lib.hid (by rw [← hW0]; exact eb_new w _ hB0)
  have BW0 : Below w.heap.size w W0 := by rw [← hW0]; exact (Below.refl _ _).alloc (Nat.le_refl _) _
  have SE := Lib.hid (ent_info hf)
  have EVE : Hid (ev e = .agg (ecs e).toArray) := Lib.hid rfl
  have HB0 := Lib.hid hB0
  have HW0 := Lib.hid hW0
  have HF := Lib.hid hf
  obtain ⟨C, hC⟩ : ∃ C, ecs e = C := ⟨_, rfl⟩
  have HC := Lib.hid hC
  rw [hC] at EVE SE HW0
  rw [EVE.out]
  have CZ : Hid (C.toArray = Z) := Lib.hid (by rw [← HC.out]; exact EQZ.out)
  rw [EVE.out] at PE VA
  rw [CZ.out] at VA
  clear hf ht ho hB0 hW0 hC hb hd hr hv
  go_enter Try.func6, Try.ntmps6
  have RG0 := Lib.hid (RE.out.rng)
  rw [HC.out] at RG0
  go_wp2_with (first | rw [HB0.out] | rw [HW0.out] | (refine wpList_load_want (by rfl) _ _ rfl B0 0 rfl C _ RG0.out Try.underlying26 rfl SE.out ?_))
  have xhl1 := BW0
  have xHT_2 : Hid (Below w.heap.size w W0) := Lib.hid (xhl1)
  clear BW0
  refine (PE.out _).mono ?_
  rintro e xx3 ⟨v1, rfl, xhn5, xhb4⟩
  have xRE_6 := Lib.hid (Eb.below RE.out (xhb4))
  have xhl7 := xhb4
  have xHT_8 : Hid (Below w.heap.size w xx3) := Lib.hid (xHT_2.out.trans ((xhl7).mono xHT_2.out.size))
  have xf1_9 := Lib.hid ((xhn5).bs)
  clear xhb4 xhn5
  obtain ⟨g1, off1, c1, ev1, hc1⟩ := form37 xf1_9.out LN.out
  subst ev1
  go_wp2_with fail
  refine (PD.out _ _ xf1_9.out).mono ?_
  rintro e xx10 ⟨rfl, xhb11⟩
  have xRE_12 := Lib.hid (Eb.below xRE_6.out (xhb11))
  have xf1_13 := Lib.hid (Bs.below xf1_9.out (xhb11))
  have xhl14 := xhb11
  have xHT_15 : Hid (Below w.heap.size w xx10) := Lib.hid (xHT_8.out.trans ((xhl14).mono xHT_8.out.size))
  clear xhb11 
  obtain ⟨b1, W1a, W1, hb1, ha1, hw1, th1, re1, bl1⟩ := ent_made xx10 e HFE.out
  have HB1 := Lib.hid hb1
  have HA1 := Lib.hid ha1
  have RE1 := Lib.hid re1
  have BLA1 := Lib.hid bl1
  have HW1 : Hid (W1a.setCells b1 0 Z.toList = W1) := Lib.hid (by rw [← EQZ.out]; exact hw1)
  have TH1 : Hid (W1a.there b1 0 Z.size) := Lib.hid (by rw [← EQZ.out]; exact th1)
  clear hb1 ha1 hw1 th1 re1 bl1
  have xRE_16 := Lib.hid (Eb.below xRE_12.out (BLA1.out))
  have xf1_17 := Lib.hid (Bs.below xf1_13.out (BLA1.out))
  have xhl18 := BLA1.out
  have xHT_19 : Hid (Below w.heap.size w W1) := Lib.hid (xHT_15.out.trans ((xhl18).mono xHT_15.out.size))
  go_wp2_with (first | rw [HA1.out, HB1.out] | (refine wpList_store_mid rfl _ _ _ rfl b1 0 Z rfl rfl TH1.out SIZ.out ONZ.out ?_; rw [HW1.out]))
  refine (awake15_any _).mono ?_
  rintro e xx20 ⟨rfl, xhb21⟩
  have xRE_22 := Lib.hid (Eb.below xRE_16.out (xhb21))
  have xf1_23 := Lib.hid (Bs.below xf1_17.out (xhb21))
  have xRE1_24 := Lib.hid (Eb.below RE1.out (xhb21))
  have xhl25 := xhb21
  have xHT_26 : Hid (Below w.heap.size w xx20) := Lib.hid (xHT_19.out.trans ((xhl25).mono xHT_19.out.size))
  clear xhb21 
  have RG3 := Lib.hid ((xRE_22.out).rng)
  rw [HC.out] at RG3
  go_wp2_with (first | (refine wpList_load_want (by rfl) _ _ rfl B0 0 rfl C _ RG3.out Try.underlying26 rfl SE.out ?_) | rw [CZ.out])
  refine (VA.out _).mono ?_
  rintro e xx27 ⟨rfl, xhb28⟩
  have xRE_29 := Lib.hid (Eb.below xRE_22.out (xhb28))
  have xf1_30 := Lib.hid (Bs.below xf1_23.out (xhb28))
  have xRE1_31 := Lib.hid (Eb.below xRE1_24.out (xhb28))
  have xhl32 := xhb28
  have xHT_33 : Hid (Below w.heap.size w xx27) := Lib.hid (xHT_26.out.trans ((xhl32).mono xHT_26.out.size))
  clear xhb28 
  have RG4 := Lib.hid ((xRE_29.out).rng)
  rw [HC.out] at RG4
  have RG5 := Lib.hid ((xRE1_31.out).rng)
  rw [HC.out] at RG5
  go_wp2_with (first | (refine wpList_load_want (by rfl) _ _ rfl B0 0 rfl C _ RG4.out Try.underlying26 rfl SE.out ?_) | (refine wpList_load_want (by rfl) _ _ rfl b1 0 rfl C _ RG5.out Try.underlying26 rfl SE.out ?_) | rw [CZ.out])
  go_ret
  exact ⟨rfl, xHT_33.out⟩
set_option maxHeartbeats 4000000 in
set_option maxRecDepth 100000 in
theorem invlaw_no (e : E) (t : Nat) (w : World) (hf : Fit e) (ht : t < 2 ^ 64) (ho : ¬ ok e) : Calls Try.prog 6 #[ev e, .int .u64 (t : Int)] w (lawPost w) := by
  have HFE := Lib.hid hf
  have PE := Lib.hid fun w => penc_no e t w hf ht ho
  have VA := Lib.hid fun w => rvalid_any e w hf
  rw [show decide (ok e) = false from decide_eq_false ho] at VA
  have PD := Lib.hid fun w' v (h : Bs w' v []) => pdec_any v [] w' h
  unfold decPost at PD
  rw [dec_nil.1, dec_nil.2.1, dec_nil.2.2] at PD
  obtain ⟨Z, hzZ⟩ : ∃ Z, (ecs ez).toArray = Z := ⟨_, rfl⟩
  have EQZ := Lib.hid hzZ
  have SIZ : Hid ((Try.prog.info? 26).map (·.size) = some Z.size) := Lib.hid (by rw [← hzZ]; exact (ent_info ez_fit).trans (congrArg some List.size_toArray.symm))
  have ONZ : Hid (Z.all (·.oneCell') = true) := Lib.hid (by rw [← hzZ]; exact all_oneCell_toArray (ecs_one _))
  have EVZ : Hid (ev ez = .agg Z) := Lib.hid (by rw [← hzZ]; rfl)
  clear hzZ
  rw [EVZ.out] at PD
  obtain ⟨B0, hB0⟩ : ∃ B, w.heap.size = B := ⟨_, rfl⟩
  obtain ⟨W0, hW0⟩ : ∃ W, w.alloc (.cells (ecs e).toArray 26) = W := ⟨_, rfl⟩
  have RE : Hid (Eb W0 B0 e) := Lib.hid (by rw [← hW0]; exact eb_new w _ hB0)
  have BW0 : Below w.heap.size w W0 := by rw [← hW0]; exact (Below.refl _ _).alloc (Nat.le_refl _) _
  have SE := Lib.hid (ent_info hf)
  have EVE : Hid (ev e = .agg (ecs e).toArray) := Lib.hid rfl
  have HB0 := Lib.hid hB0
  have HW0 := Lib.hid hW0
  have HF := Lib.hid hf
  obtain ⟨C, hC⟩ : ∃ C, ecs e = C := ⟨_, rfl⟩
  have HC := Lib.hid hC
  rw [hC] at EVE SE HW0
  rw [EVE.out]
  rw [EVE.out] at PE VA
  clear hf ht ho hB0 hW0 hC
  go_enter Try.func6, Try.ntmps6
  have RG0 := Lib.hid (RE.out.rng)
  rw [HC.out] at RG0
  go_wp2_with (first | rw [HB0.out] | rw [HW0.out] | (refine wpList_load_want (by rfl) _ _ rfl B0 0 rfl C _ RG0.out Try.underlying26 rfl SE.out ?_))
  have xhl1 := BW0
  have xHT_2 : Hid (Below w.heap.size w W0) := Lib.hid (xhl1)
  clear BW0
  refine (PE.out _).mono ?_
  rintro e xx3 ⟨rfl, xhb4⟩
  have xRE_5 := Lib.hid (Eb.below RE.out (xhb4))
  have xhl6 := xhb4
  have xHT_7 : Hid (Below w.heap.size w xx3) := Lib.hid (xHT_2.out.trans ((xhl6).mono xHT_2.out.size))
  clear xhb4 
  go_wp2_with fail
  refine (PD.out _ _ (Bs.nil_ _)).mono ?_
  rintro e xx8 ⟨rfl, xhb9⟩
  have xRE_10 := Lib.hid (Eb.below xRE_5.out (xhb9))
  have xhl11 := xhb9
  have xHT_12 : Hid (Below w.heap.size w xx8) := Lib.hid (xHT_7.out.trans ((xhl11).mono xHT_7.out.size))
  clear xhb9 
  obtain ⟨b1, W1a, W1, hb1, ha1, hw1, th1, re1, bl1⟩ := ent_made xx8 ez ez_fit
  have HB1 := Lib.hid hb1
  have HA1 := Lib.hid ha1
  have RE1 := Lib.hid re1
  have BLA1 := Lib.hid bl1
  have HW1 : Hid (W1a.setCells b1 0 Z.toList = W1) := Lib.hid (by rw [← EQZ.out]; exact hw1)
  have TH1 : Hid (W1a.there b1 0 Z.size) := Lib.hid (by rw [← EQZ.out]; exact th1)
  clear hb1 ha1 hw1 th1 re1 bl1
  have xRE_13 := Lib.hid (Eb.below xRE_10.out (BLA1.out))
  have xhl14 := BLA1.out
  have xHT_15 : Hid (Below w.heap.size w W1) := Lib.hid (xHT_12.out.trans ((xhl14).mono xHT_12.out.size))
  go_wp2_with (first | rw [HA1.out, HB1.out] | (refine wpList_store_mid rfl _ _ _ rfl b1 0 Z rfl rfl TH1.out SIZ.out ONZ.out ?_; rw [HW1.out]))
  refine (awake15_any _).mono ?_
  rintro e xx16 ⟨rfl, xhb17⟩
  have xRE_18 := Lib.hid (Eb.below xRE_13.out (xhb17))
  have xRE1_19 := Lib.hid (Eb.below RE1.out (xhb17))
  have xhl20 := xhb17
  have xHT_21 : Hid (Below w.heap.size w xx16) := Lib.hid (xHT_15.out.trans ((xhl20).mono xHT_15.out.size))
  clear xhb17 
  have RG3 := Lib.hid ((xRE_18.out).rng)
  rw [HC.out] at RG3
  go_wp2_with (first | (refine wpList_load_want (by rfl) _ _ rfl B0 0 rfl C _ RG3.out Try.underlying26 rfl SE.out ?_))
  refine (VA.out _).mono ?_
  rintro e xx22 ⟨rfl, xhb23⟩
  have xRE_24 := Lib.hid (Eb.below xRE_18.out (xhb23))
  have xRE1_25 := Lib.hid (Eb.below xRE1_19.out (xhb23))
  have xhl26 := xhb23
  have xHT_27 : Hid (Below w.heap.size w xx22) := Lib.hid (xHT_21.out.trans ((xhl26).mono xHT_21.out.size))
  clear xhb23 
  go_wp2_with fail
  refine (awake15_any _).mono ?_
  rintro e xx28 ⟨rfl, xhb29⟩
  have xRE_30 := Lib.hid (Eb.below xRE_24.out (xhb29))
  have xRE1_31 := Lib.hid (Eb.below xRE1_25.out (xhb29))
  have xhl32 := xhb29
  have xHT_33 : Hid (Below w.heap.size w xx28) := Lib.hid (xHT_27.out.trans ((xhl32).mono xHT_27.out.size))
  clear xhb29 
  go_wp2_with fail
  go_ret
  exact ⟨rfl, xHT_33.out⟩
theorem invlaw_walk (e : E) (t : Nat) (w : World) (hf : Fit e) (ht : t < 2 ^ 64) : Calls Try.prog 6 #[ev e, .int .u64 (t : Int)] w (lawPost w) := by
  by_cases ho : ok e
  · exact invlaw_yes e t w hf ht ho
  · exact invlaw_no e t w hf ht ho
end Go.Proofs.Ytfihiihakgcikaa
