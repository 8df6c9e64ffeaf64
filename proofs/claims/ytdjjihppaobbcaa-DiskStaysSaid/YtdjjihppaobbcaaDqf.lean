/- Layer 14: walk of the law DiskStays. WRITTEN BY gen_Dqf.py. -/
import Derived.Test.YtdjjihppaobbcaaHA
namespace Go.Proofs.Ytdjjihppaobbcaa
open Go Go.RowKit Med Flt
set_option linter.unusedVariables false
set_option linter.unusedSimpArgs false
set_option maxHeartbeats 4000000 in
set_option maxRecDepth 100000 in
theorem stays14_walk (r b t s o : Int) (v0 v1 va : Value) (L0 L1 : List F) (L : List Ac)  (w : World) (h0 : Fts w v0 L0) (h1 : Fts w v1 L1) (h : Acl w va L)  : Calls Try.prog 6 #[.agg (csc r b t s o v0 v1 va)] w (lawPost w) := by
  obtain ⟨A0, c0_, rfl⟩ := h0.form
  obtain ⟨A1, c1_, rfl⟩ := h1.form
  obtain ⟨Aa, ca, rfl⟩ := h.form
  have HO := Lib.hid h
  have H0 := Lib.hid h0
  have H1 := Lib.hid h1
  obtain ⟨n, hn⟩ : ∃ n, L.length = n := ⟨_, rfl⟩
  obtain ⟨n0, hn0⟩ : ∃ n, L0.length = n := ⟨_, rfl⟩
  obtain ⟨n1, hn1⟩ : ∃ n, L1.length = n := ⟨_, rfl⟩
  have EN := Lib.hid hn
  rw [hn] at HO ⊢
  rw [hn0] at H0 ⊢
  rw [hn1] at H1 ⊢
  unfold csc
  obtain ⟨B0, hB0⟩ : ∃ B, w.heap.size = B := ⟨_, rfl⟩
  obtain ⟨W0, hW0⟩ : ∃ W, w.alloc (.cells #[.int .i64 r, .int .i64 b, .int .i64 t, .int .i64 s, .int .i64 o, .slice A0 n0 c0_, .slice A1 n1 c1_, .slice Aa n ca] 45) = W := ⟨_, rfl⟩
  have T0 : Hid (Below w.heap.size w W0) := Lib.hid (by subst hW0; exact (Below.refl _ _).alloc (Nat.le_refl _) _)
  have C0 : Hid (CBox W0 B0 r b t s o (.slice A0 n0 c0_) (.slice A1 n1 c1_) (.slice Aa n ca)) := Lib.hid (by subst hW0; exact gr_new w _ _ hB0)
  have HB0 := Lib.hid hB0
  have HW0 := Lib.hid hW0
  clear hB0 hW0 h h0 h1 hn hn0 hn1
  have K5 := C0.out.cells.2.1
  have K6 := C0.out.cells.2.2.1
  have K5f := Row.frozen C0.out 5
  have K6f := Row.frozen C0.out 6
  obtain ⟨V0, hV0⟩ : ∃ q, (W0.setCell ⟨B0, 5, none⟩ (.slice none 0 0)).setCell ⟨B0, 6, none⟩ (.slice none 0 0) = q := ⟨_, rfl⟩
  have CV : Hid (CBox V0 B0 r b t s o (.slice none 0 0) (.slice none 0 0) (.slice Aa n ca)) := Lib.hid (by subst hV0; exact (Row.store (Row.store C0.out 5 (.slice none 0 0)) 6 (.slice none 0 0)))
  have TV : Hid (Below w.heap.size w V0) := Lib.hid (by subst hV0; exact (T0.out.setCell (p := ⟨B0, 5, none⟩) (Nat.le_of_eq HB0.out) _).setCell (p := ⟨B0, 6, none⟩) (Nat.le_of_eq HB0.out) _)
  have HV0 := Lib.hid hV0
  clear hV0
  have FN : Hid (Fts w (.slice none 0 0) []) := Lib.hid (Fts.nil_ w)
  go_enter Try.func6, Try.ntmps6
  go_wp2_with (first | rw [HB0.out] | rw [HW0.out] | rw [HV0.out])
  refine (awake14 _).mono ?_
  rintro e x1 ⟨rfl, hb⟩
  have C_2 := Lib.hid (Row.go CV.out (hb))
  have hl3 := hb
  have HT_4 : Hid (Below w.heap.size w x1) := Lib.hid (TV.out.trans ((hl3).mono TV.out.size))
  clear hb
  obtain ⟨⟨c0, c1, c2, c3, c4⟩, c5, c6, c7⟩ := CBox.cells C_2.out
  go_wp2_with fail
  clear c0 c1 c2 c3 c4 c5 c6 c7
  refine (fair14_any r b t s o _ _ _ [] [] L _ (FN.out.fw HT_4.out) (FN.out.fw HT_4.out) (HO.out.fw HT_4.out)).mono ?_
  rintro e x5 ⟨bb, rfl, hf, hb⟩
  have C_6 := Lib.hid (Row.go C_2.out (hb))
  have hl7 := hb
  have HT_8 : Hid (Below w.heap.size w x5) := Lib.hid (HT_4.out.trans ((hl7).mono HT_4.out.size))
  clear hb
  cases bb with
  | false =>
    clear hf
    go_wp2_with fail
    refine (awake14 _).mono ?_
    rintro e x9 ⟨rfl, hb⟩
    have C_10 := Lib.hid (Row.go C_6.out (hb))
    have hl11 := hb
    have HT_12 : Hid (Below w.heap.size w x9) := Lib.hid (HT_8.out.trans ((hl11).mono HT_8.out.size))
    clear hb
    go_wp2_with fail
    go_ret
    exact ⟨rfl, HT_12.out⟩
  | true =>
    have FA := Lib.hid (hf rfl)
    clear hf
    obtain ⟨R, Bn, T, S, O, rfl, rfl, rfl, rfl, rfl⟩ := FA.out.nat
    have HV := Lib.hid FA.out.1
    obtain ⟨⟨c0, c1, c2, c3, c4⟩, c5, c6, c7⟩ := CBox.cells C_6.out
    go_wp2_with fail
    clear c0 c1 c2 c3 c4 c5 c6 c7
    obtain ⟨N, hN⟩ : ∃ N, x5.heap.size = N := ⟨_, rfl⟩
    have NW := Lib.hid (show w.heap.size ≤ N from by rw [← hN]; exact HT_8.out.size)
    have ST := start14_any (va := .slice Aa n ca) HV.out (FN.out.fw HT_8.out) (FN.out.fw HT_8.out) rfl rfl (by decide) (by decide)
    unfold csc st14 at ST
    rw [hN] at ST
    refine ST.mono ?_
    clear ST
    rintro e x9 ⟨P, D0, D1, rfl, hs, hb⟩
    have PS0 := Lib.hid hs
    have hb2 : Below x5.heap.size x5 x9 := hN ▸ hb
    have C_10 := Lib.hid (Row.go C_6.out (hb2))
    have hl11 := hb2
    have HT_12 : Hid (Below w.heap.size w x9) := Lib.hid (HT_8.out.trans ((hl11).mono HT_8.out.size))
    have NS := Lib.hid (show N ≤ x9.heap.size from Nat.le_trans (Nat.le_of_eq hN.symm) hb2.size)
    clear hs hb hb2 hN
    unfold ptrN at *
    obtain ⟨b13, hb13⟩ : ∃ b, x9.heap.size = b := ⟨_, rfl⟩
    obtain ⟨W14, hW14⟩ : ∃ W, x9.alloc (.cells #[.pointer (some ⟨P, 0, none⟩), .pointer (some ⟨D0, 0, none⟩), .pointer (some ⟨D1, 0, none⟩)] 49) = W := ⟨_, rfl⟩
    have hb3 : Below x9.heap.size x9 W14 := by subst hW14; exact (Below.refl _ _).alloc (Nat.le_refl _) _
    have RX : Hid (Row W14 b13 49 #[.pointer (some ⟨P, 0, none⟩), .pointer (some ⟨D0, 0, none⟩), .pointer (some ⟨D1, 0, none⟩)]) := Lib.hid (by subst hW14; exact gr_new x9 _ _ hb13)
    have HX1 := Lib.hid hb13
    have HX2 := Lib.hid hW14
    have NX := Lib.hid (show N ≤ b13 by have := NS.out; omega)
    have C_15 := Lib.hid (Row.go C_10.out (hb3))
    have P_16 := Lib.hid (PSt.fw PS0.out (hb3))
    have hl17 := hb3
    have HT_18 : Hid (Below w.heap.size w W14) := Lib.hid (HT_12.out.trans ((hl17).mono HT_12.out.size))
    clear hb3 hb13 hW14
    obtain ⟨k0, k1, k2⟩ := row3 RX.out
    have HPW := Lib.hid P_16.out.pw
    have NZ := Lib.hid (PSt.size P_16.out)
    go_wp2_with (first | rw [HX2.out, HX1.out])
    refine (parm_any P_16.out.pw 0).mono ?_
    rintro e x19 ⟨⟨uu, rfl⟩, hp, hc⟩
    obtain ⟨hd, ht⟩ := PSt.pow P_16.out hp hc
    have PS20 := Lib.hid hd
    have C_22 := Lib.hid (Row.tch ht C_15.out (by decide))
    have X_23 := Lib.hid (Row.tch ht RX.out (by decide))
    have HT_21 : Hid (Below w.heap.size w x19) := Lib.hid (HT_18.out.trans ((Tch.below_ ht NZ.out (fun k h => h)).mono NW.out))
    clear hd ht hp hc
    clear k0 k1 k2 NZ
    have NZ := Lib.hid (PSt.size PS20.out)
    obtain ⟨k0, k1, k2⟩ := row3 X_23.out
    go_wp2_with fail
    refine (PSt.call1 (p' := (Dsk.Pw.mk true false 0 1)) (d' := (Dsk.Dk.new (List.replicate (R + Bn * (T * S)) Med.blank) Dsk.Pw.new)) (E := 13) PS20.out (fun B hT hP hd hp => pfl14_any hd hp hP (n := 1) (show Dsk.Pw.fit (Dsk.Pw.mk false true 0 0) 1 from ⟨by decide, by decide, fun _ => by decide⟩) (by decide) (by show (0 : Nat) < _; decide) (by show (0 : Nat) < _; decide) 0)).mono ?_
    rintro e x24 ⟨rfl, hd, ht⟩
    have PS25 := Lib.hid hd
    have C_27 := Lib.hid (Row.tch ht C_22.out (by decide))
    have X_28 := Lib.hid (Row.tch ht X_23.out (by decide))
    have HT_26 : Hid (Below w.heap.size w x24) := Lib.hid (HT_21.out.trans ((Tch.below_ ht NZ.out (fun k h => h)).mono NW.out))
    clear hd ht
    clear k0 k1 k2 NZ
    have NZ := Lib.hid (PSt.size PS25.out)
    obtain ⟨k0, k1, k2⟩ := row3 X_28.out
    go_wp2_with fail
    have OF : Calls Try.prog 27 #[.pointer (some ⟨P, 0, none⟩)] x24 (qPost (.bool true) x24) := poff_any (p := (Dsk.Pw.mk true false 0 1)) PS25.out.pw
    refine OF.mono ?_
    clear OF
    rintro e w' ⟨rfl, hw⟩
    subst hw
    go_wp2_with fail
    obtain ⟨dk1, hdk1⟩ : ∃ d, Dsk.resD R Bn T S O (Dsk.Pw.mk true false 0 1) (Dsk.Dk.new (List.replicate (R + Bn * (T * S)) Med.blank) Dsk.Pw.new) 0 = d := ⟨_, rfl⟩
    have E1 := Lib.hid hdk1
    refine (PSt.call1 (p' := (Dsk.Pw.mk true false 0 1)) (d' := dk1) (E := 0) PS25.out (fun B hT hP hd hp => hdk1 ▸ prs14_any hd hp hP hT 0)).mono ?_
    rintro e x29 ⟨rfl, hd, ht⟩
    have PS30 := Lib.hid hd
    have C_32 := Lib.hid (Row.tch ht C_27.out (by decide))
    have X_33 := Lib.hid (Row.tch ht X_28.out (by decide))
    have HT_31 : Hid (Below w.heap.size w x29) := Lib.hid (HT_26.out.trans ((Tch.below_ ht NZ.out (fun k h => h)).mono NW.out))
    clear hd ht
    clear k0 k1 k2 NZ hdk1
    have NZ := Lib.hid (PSt.size PS30.out)
    obtain ⟨k0, k1, k2⟩ := row3 X_33.out
    go_wp2_with fail
    refine (pon14_any PS30.out.pw).mono ?_
    rintro e x34 ⟨⟨uu, rfl⟩, hp, hc⟩
    obtain ⟨hd, ht⟩ := PSt.pow PS30.out hp hc
    have PS35 := Lib.hid hd
    have C_37 := Lib.hid (Row.tch ht C_32.out (by decide))
    have X_38 := Lib.hid (Row.tch ht X_33.out (by decide))
    have HT_36 : Hid (Below w.heap.size w x34) := Lib.hid (HT_31.out.trans ((Tch.below_ ht NZ.out (fun k h => h)).mono NW.out))
    clear hd ht hp hc
    clear k0 k1 k2 NZ
    obtain ⟨⟨c0, c1, c2, c3, c4⟩, c5, c6, c7⟩ := CBox.cells C_37.out
    go_wp2_with fail
    clear c0 c1 c2 c3 c4 c5 c6 c7
    refine (only_any _ L _ (HO.out.fw HT_36.out) (by have := FA.out.2.2.1; omega)).mono ?_
    rintro e x39 ⟨v, rfl, ho, hb⟩
    have NZ := Lib.hid (PSt.size PS35.out)
    have OA0 : Hid (OwA N x39 v (Ac.only L)) := Lib.hid (St.Ow.low ho NZ.out)
    have C_40 := Lib.hid (Row.go C_37.out (hb))
    have X_41 := Lib.hid (Row.go X_38.out (hb))
    have P_42 := Lib.hid (PSt.fw PS35.out (hb))
    have hl43 := hb
    have HT_44 : Hid (Below w.heap.size w x39) := Lib.hid (HT_36.out.trans ((hl43).mono HT_36.out.size))
    have OK0 := Lib.hid (OkM.of_only HO.out.2 FA.out.2.2.2.2.2.1)
    have ML := Lib.hid (show (Ac.only L).length ≤ 60 from Nat.le_trans (Ac.only_len L) FA.out.2.2.1)
    clear ho hb NZ
    obtain ⟨M, hM⟩ : ∃ M, Ac.only L = M := ⟨_, rfl⟩
    rw [hM] at OK0 ML OA0
    clear hM
    obtain ⟨m, hm⟩ : ∃ m, M.length = m := ⟨_, rfl⟩
    have EM := Lib.hid hm
    rw [hm] at ML
    clear hm
    obtain ⟨Av, cv, rfl⟩ : ∃ A c, v = .slice A m c := by obtain ⟨A, c, e⟩ := St.Ow.form acs_enc OA0.out; exact ⟨A, c, by rw [e, EM.out]⟩
    go_wp2_with fail
    obtain ⟨dk0, hdk0⟩ : ∃ d : Dsk.Dk, (Dsk.Dk.new (List.replicate (R + Bn * (T * S)) Med.blank) Dsk.Pw.new) = d := ⟨_, rfl⟩
    have E0 := Lib.hid hdk0
    have PSI : Hid (PSt N x39 P D0 D1 R Bn T S O [] [] (Dsk.Pw.mk false false 0 1) dk0 dk1) := Lib.hid (by rw [← hdk0]; exact P_42.out)
    clear hdk0
    go_loopw [6] (fun i wr => ∃ (k : Nat) (M' : List Ac), k ≤ m ∧ i = .int .i64 (k : Int) ∧ Hid (CBox wr B0 R Bn T S O (.slice none 0 0) (.slice none 0 0) (.slice Aa n ca) ∧ Row wr b13 49 #[.pointer (some ⟨P, 0, none⟩), .pointer (some ⟨D0, 0, none⟩), .pointer (some ⟨D1, 0, none⟩)] ∧ PSt N wr P D0 D1 R Bn T S O [] [] (Dsk.Pw.mk false false 0 1) dk0 dk1 ∧ OwA N wr (.slice Av m cv) M' ∧ Below w.heap.size w wr) ∧ Hid (OkM w M' ∧ M'.length = m)) (fun i _ => m - (intOf i).toNat)
    case atStart => exact ⟨0, M, Nat.zero_le _, rfl, Lib.hid ⟨C_40.out, X_41.out, PSI.out, OA0.out, HT_44.out⟩, Lib.hid ⟨OK0.out, EM.out⟩⟩
    case round =>
      obtain ⟨k, M', hk, rfl, V, VM⟩ := hrel
      have nb := ML.out
      by_cases hlt : k < m
      · have DKY : Hid (dk0.dead = false ∧ ¬ Dsk.rdy (Dsk.Pw.mk false false 0 1) dk0) := Lib.hid (by rw [← E0.out]; exact ⟨rfl, fun e => absurd e.2 (by show ¬ (0 : Nat) = 1; decide)⟩)
        have kI : (k : Int) < (m : Int) := by omega
        obtain ⟨OKM, hml⟩ := VM.out
        have hk2 : k < M'.length := by omega
        have CW := Lib.hid V.out.1
        have XW := Lib.hid V.out.2.1
        have PW := Lib.hid V.out.2.2.1
        have OW := Lib.hid V.out.2.2.2.1
        have TW := Lib.hid V.out.2.2.2.2
        obtain ⟨g, cap, hv⟩ := ow_some OW.out hk2
        injection hv with hv1 hv2 hv3
        subst hv1
        clear hv3 hv2 V
        obtain ⟨y, hy⟩ : ∃ y, M'[k] = y := ⟨_, rfl⟩
        have OKY := Lib.hid (hy ▸ OKM _ (List.getElem_mem hk2))
        have RG := ow_rng OW.out hlt hk2
        rw [hy] at RG
        obtain ⟨x0, x1, x2, x3, ua, un, uc, bs, x5⟩ := y
        obtain ⟨q0, -, -, -, -, -⟩ := acs_at RG
        have qf := ow_frz OW.out (k * 6)
        obtain ⟨W5, hW5⟩ : ∃ W, wr.setCell ⟨g, k * 6, none⟩ (.int .u8 0) = W := ⟨_, rfl⟩
        have T5 : Tch (N : Zn) [62] wr W5 := by
          subst hW5
          exact (Tch.refl _ _ _).set (show N ≤ g from (ow_own OW.out).1) (ow_own OW.out).2 (by simp) _
        have NZ := Lib.hid (PSt.size PW.out)
        have C5 := Lib.hid (Row.tch T5 CW.out (by decide))
        have X5 := Lib.hid (Row.tch T5 XW.out (by decide))
        have P5 := Lib.hid (PW.out.keep T5 (by decide))
        have B5 := Lib.hid (TW.out.trans ((Tch.below_ T5 NZ.out (fun k h => h)).mono NW.out))
        have O5 : Hid (OwA N W5 (.slice (some ⟨g, 0, none⟩) m cv) (M'.set k ⟨0, x1, x2, x3, ua, un, uc, bs, x5⟩)) := Lib.hid (by
          have := St.Ow.set acs_enc OW.out hk2 (j := 0) (by decide) (f' := ⟨0, x1, x2, x3, ua, un, uc, bs, x5⟩) (u := .int .u8 0) (by rw [hy]; rfl)
          rw [Nat.add_zero, hW5] at this
          exact this)
        have OKM2 := Lib.hid (OkM.set0 OKM hk2)
        rw [hy] at OKM2
        have LM2 : Hid ((M'.set k ⟨0, x1, x2, x3, ua, un, uc, bs, x5⟩).length = m) := Lib.hid (by rw [List.length_set]; exact hml)
        have HW5 := Lib.hid hW5
        have R5 : Hid (∀ w', Tch (N : Zn) tyD W5 w' → w'.rangeAt g (k * 6) (acs ⟨0, x1, x2, x3, ua, un, uc, bs, x5⟩)) := Lib.hid fun w' h => by
          have := ow_rng (Tch.ow O5.out h (by decide)) (k := k) hlt (by rw [LM2.out]; exact hlt)
          rw [List.getElem_set_self] at this
          exact this
        have HV5 : Hid (∀ c, Below N W5 c → Bs c (.slice ua un uc) bs) := Lib.hid fun c hc => OKY.out.2.2.2.2.below (B5.out.trans (hc.mono NW.out))
        clear hW5 T5 RG hy OKM hml hk2
        go_wp2_with (first | rw [HW5.out])
        refine wp_region_held (P := Try.prog) (S := (fun w' : World => Tch (N : Zn) tyD W5 w')) rfl ?_
        change wpAnyH _ _ _ _ _ _ _ _ W5.drew
        have vhz2 : Below W5.heap.size W5 W5.drew := (Below.refl W5.heap.size W5).drew
        generalize W5.drew = vwz1 at vhz2 ⊢
        have vHZ3 : Hid (Below W5.heap.size W5 vwz1) := Lib.hid vhz2
        have vTT4 : Hid (Tch (N : Zn) tyD W5 vwz1) := Lib.hid (Tch.of_below vHZ3.out (N : Zn) tyD)
        clear vhz2
        have vhS5 : (fun w' : World => Tch (N : Zn) tyD W5 w') vwz1 := vTT4.out
        refine takeD (i := 0) (v := .agg #[.pointer (some ⟨P, 0, none⟩), .pointer (some ⟨D0, 0, none⟩), .pointer (some ⟨D1, 0, none⟩)]) (some 64) rfl rfl (by kernel_rfl) (by kernel_rfl) (by kernel_rfl) (fun _ _ _ h => h) (yieldsIf_load_mid (by rfl) _ _ rfl b13 0 rfl [.pointer (some ⟨P, 0, none⟩), .pointer (some ⟨D0, 0, none⟩), .pointer (some ⟨D1, 0, none⟩)] _ (fun w' h => row3c (Row.tch h X5.out (by decide))) Try.underlying49 rfl (by kernel_rfl)) vhS5 ?_
        simp only [Act.put, List.setIfInBounds_toArray, List.set_cons_zero, List.set_cons_succ]
        refine takeD (i := 1) (v := .slice (some ⟨g, 0, none⟩) m cv) (some 65) rfl rfl (by kernel_rfl) (by kernel_rfl) (by kernel_rfl) (fun _ _ _ h => h) (Or.inl ⟨by rfl, by rintro w' -; go_simp⟩) vhS5 ?_
        simp only [Act.put, List.setIfInBounds_toArray, List.set_cons_zero, List.set_cons_succ]
        refine takeD (i := 2) (v := .int .i64 (k : Int)) (some 66) rfl rfl (by kernel_rfl) (by kernel_rfl) (by kernel_rfl) (fun _ _ _ h => h) (Or.inl ⟨by rfl, by rintro w' -; go_simp⟩) vhS5 ?_
        simp only [Act.put, List.setIfInBounds_toArray, List.set_cons_zero, List.set_cons_succ]
        refine takeD (i := 3) (v := .pointer (some ⟨g, k * 6, none⟩)) (some 67) rfl rfl (by kernel_rfl) (by kernel_rfl) (by kernel_rfl) (fun _ _ _ h => h) (Or.inl ⟨by rfl, by rintro w' -; go_simp⟩) vhS5 ?_
        simp only [Act.put, List.setIfInBounds_toArray, List.set_cons_zero, List.set_cons_succ]
        refine takeD (i := 4) (v := .agg #[.int .u8 0, .int .u8 (x1 : Int), .int .u64 (x2 : Int), .int .i64 x3, .slice ua un uc, .bool x5]) (some 68) rfl rfl (by kernel_rfl) (by kernel_rfl) (by kernel_rfl) (fun _ _ _ h => h) (yieldsIf_load_mid (by rfl) _ _ rfl g (k * 6) rfl [.int .u8 0, .int .u8 (x1 : Int), .int .u64 (x2 : Int), .int .i64 x3, .slice ua un uc, .bool x5] _ (fun w' h => R5.out _ h) Try.underlying62 rfl (by kernel_rfl)) vhS5 ?_
        simp only [Act.put, List.setIfInBounds_toArray, List.set_cons_zero, List.set_cons_succ]
        refine wpAnyH_ready (rs := [5]) (by kernel_rfl) (by simp) ?_
        refine AllReadyH.cons rfl (fun vK6 hvK6 => ?_) AllReadyH.nil
        have HvK6 := Lib.hid hvK6
        clear hvK6
        rw [if_pos (by rfl)]
        go_simp
        have DA := do_at0 (P5.out.fw vHZ3.out) (PSt.size (P5.out.fw vHZ3.out)) (m := 1) (show Dsk.Pw.fit (Dsk.Pw.mk false false 0 1) 1 from ⟨by decide, by decide, fun h => by cases h⟩) (by decide) (by rw [← E0.out]; exact few_new _ _ 1) (by rw [← E1.out]; exact few_new (List.replicate (R + Bn * (T * S)) Med.blank) Dsk.Pw.new 1) ⟨0, x1, x2, x3, ua, un, uc, bs, x5⟩ rfl (Nat.le_trans OKY.out.2.2.2.1 (by decide)) (fun c hc => HV5.out c ((vHZ3.out.mono (PSt.size P5.out)).trans hc)) (Dsk.act_unready _ _ _ _ _ _ (by show x1 < 4; have := OKY.out.2.1; exact Nat.lt_succ_of_le this) DKY.out.1 DKY.out.2)
        unfold ptrN acs at DA
        refine DA.mono ?_
        clear DA
        rintro e vx7 ⟨rfl, hd, ht⟩
        have P6 := Lib.hid hd
        have T6 := Lib.hid ht
        clear hd ht
        have vTT8 : Hid (Tch (N : Zn) tyD W5 vx7) := Lib.hid (vTT4.out.trans (T6.out))
        have vhS9 : (fun w' : World => Tch (N : Zn) tyD W5 w') vx7 := vTT8.out
        refine HvK6.out _ _ vhS9 fun _ => ?_
        try simp only [Act.put, List.setIfInBounds_toArray, List.set_cons_zero, List.set_cons_succ]
        refine takeD (i := 6) (v := .tuple #[.string ByteArray.empty, .int .i64 13]) (some 63) rfl rfl (by kernel_rfl) (by kernel_rfl) (by kernel_rfl) (fun _ _ _ h => h) (Or.inl ⟨by rfl, by rintro w' -; go_simp⟩) vhS9 ?_
        simp only [Act.put, List.setIfInBounds_toArray, List.set_cons_zero, List.set_cons_succ]
        refine takeD (i := 7) (v := .string ByteArray.empty) (some 70) rfl rfl (by kernel_rfl) (by kernel_rfl) (by kernel_rfl) (fun _ _ _ h => h) (Or.inl ⟨by rfl, by rintro w' -; go_simp⟩) vhS9 ?_
        simp only [Act.put, List.setIfInBounds_toArray, List.set_cons_zero, List.set_cons_succ]
        refine takeD (i := 8) (v := .int .i64 13) (some 71) rfl rfl (by kernel_rfl) (by kernel_rfl) (by kernel_rfl) (fun _ _ _ h => h) (Or.inl ⟨by rfl, by rintro w' -; go_simp⟩) vhS9 ?_
        simp only [Act.put, List.setIfInBounds_toArray, List.set_cons_zero, List.set_cons_succ]
        refine takeD (i := 9) (v := .string ByteArray.empty) (some 7) rfl rfl (by kernel_rfl) (by kernel_rfl) (by kernel_rfl) (fun _ _ _ h => h) (Or.inl ⟨by rfl, by rintro w' -; go_simp⟩) vhS9 ?_
        simp only [Act.put, List.setIfInBounds_toArray, List.set_cons_zero, List.set_cons_succ]
        refine takeD (i := 10) (v := .int .i64 13) (some 8) rfl rfl (by kernel_rfl) (by kernel_rfl) (by kernel_rfl) (fun _ _ _ h => h) (Or.inl ⟨by rfl, by rintro w' -; go_simp⟩) vhS9 ?_
        simp only [Act.put, List.setIfInBounds_toArray, List.set_cons_zero, List.set_cons_succ]
        refine wpAnyH_done (by kernel_rfl) ?_ _
        have TT := Lib.hid (vTT8.out)
        have B6 := Lib.hid (B5.out.trans ((Tch.below_ TT.out (PSt.size P5.out) (fun k h => h)).mono NW.out))
        have C6 := Lib.hid (Row.tch TT.out C5.out (by decide))
        have X6 := Lib.hid (Row.tch TT.out X5.out (by decide))
        have O6 := Lib.hid (Tch.ow O5.out TT.out (by decide))
        go_wp2_with fail
        go_roundw
        case rel => exact ⟨k + 1, _, by omega, by go_num, Lib.hid ⟨C6.out, X6.out, P6.out, O6.out, B6.out⟩, Lib.hid ⟨OKM2.out, LM2.out⟩⟩
        case measure => simp [intOf]; omega
      · obtain rfl : k = m := by omega
        have kI : ¬ (k : Int) < (k : Int) := by omega
        have dk : decide ((k : Int) < (k : Int)) = false := decide_eq_false kI
        have CW := Lib.hid V.out.1
        have XW := Lib.hid V.out.2.1
        have PW := Lib.hid V.out.2.2.1
        have TW := Lib.hid V.out.2.2.2.2
        clear V VM
        have NZ := Lib.hid (PSt.size PW.out)
        obtain ⟨k0, k1, k2⟩ := row3 XW.out
        go_wp2_with fail
        refine (PSt.call0 (p' := (Dsk.Pw.mk false false 0 1)) (d' := dk0) (E := 13) PW.out (fun B hT hP hd hp => by rw [← E0.out] at hd ⊢; exact pacq_any hd hp hP 1)).mono ?_
        rintro e x45 ⟨rfl, hd, ht⟩
        have PS46 := Lib.hid hd
        have C_48 := Lib.hid (Row.tch ht CW.out (by decide))
        have X_49 := Lib.hid (Row.tch ht XW.out (by decide))
        have HT_47 : Hid (Below w.heap.size w x45) := Lib.hid (TW.out.trans ((Tch.below_ ht NZ.out (fun k h => h)).mono NW.out))
        clear hd ht
        clear k0 k1 k2 NZ
        have NZ := Lib.hid (PSt.size PS46.out)
        obtain ⟨k0, k1, k2⟩ := row3 X_49.out
        go_wp2_with fail
        refine (PSt.call0 (p' := (Dsk.Pw.mk false false 0 1)) (d' := dk0) (E := 8) PS46.out (fun B hT hP hd hp => by rw [← E0.out] at hd ⊢; exact prs14_any hd hp hP hT 0)).mono ?_
        rintro e x50 ⟨rfl, hd, ht⟩
        have PS51 := Lib.hid hd
        have C_53 := Lib.hid (Row.tch ht C_48.out (by decide))
        have X_54 := Lib.hid (Row.tch ht X_49.out (by decide))
        have HT_52 : Hid (Below w.heap.size w x50) := Lib.hid (HT_47.out.trans ((Tch.below_ ht NZ.out (fun k h => h)).mono NW.out))
        clear hd ht
        clear k0 k1 k2 NZ
        have NZ := Lib.hid (PSt.size PS51.out)
        obtain ⟨k0, k1, k2⟩ := row3 X_54.out
        go_wp2_with fail
        refine (PSt.call1 (p' := (Dsk.Pw.mk false false 0 1)) (d' := Dsk.flushD (faL []) R Bn T S O (Dsk.Pw.mk false false 0 1) dk1 0) (E := 0) PS51.out (fun B hT hP hd hp => by rw [← E1.out] at hd ⊢; exact pfl14_any hd hp hP (n := 1) (show Dsk.Pw.fit (Dsk.Pw.mk false false 0 1) 1 from ⟨by decide, by decide, fun h => by cases h⟩) (by decide) (by show (0 : Nat) < _; decide) (by show (0 : Nat) < _; decide) 0)).mono ?_
        rintro e x55 ⟨rfl, hd, ht⟩
        have PS56 := Lib.hid hd
        have C_58 := Lib.hid (Row.tch ht C_53.out (by decide))
        have X_59 := Lib.hid (Row.tch ht X_54.out (by decide))
        have HT_57 : Hid (Below w.heap.size w x55) := Lib.hid (HT_52.out.trans ((Tch.below_ ht NZ.out (fun k h => h)).mono NW.out))
        clear hd ht
        clear k0 k1 k2 NZ
        obtain ⟨k0, k1, k2⟩ := row3 X_59.out
        obtain ⟨A, hd⟩ := PSt.fst PS56.out
        have SH := Lib.hid (none_shows hd (by rw [← E0.out]; exact ⟨rfl, rfl, rfl, rfl, rfl, rfl⟩))
        clear hd
        go_wp2_with fail
        refine SH.out.1.mono ?_
        rintro e w' ⟨rfl, rfl⟩
        go_wp2_with fail
        go_ret
        exact ⟨rfl, HT_57.out⟩
end Go.Proofs.Ytdjjihppaobbcaa

