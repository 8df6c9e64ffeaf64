/- Law CacheGiven. WRITTEN BY gen_Ccr.py. -/
import Derived.Test.YtbaclcpnnompnaaCcq
namespace Go.Proofs.Ytbaclcpnnompnaa
open Go Go.RowKit Med
set_option linter.unusedVariables false
set_option linter.unusedSimpArgs false

set_option maxHeartbeats 4000000 in
set_option maxRecDepth 100000 in
theorem cgiven_walk (r b t s o : Int) (v : Value) (L : List Med.Op) (w : World) (h : Ols w v L) : Calls Try.prog 7 #[.agg #[.int .i64 r, .int .i64 b, .int .i64 t, .int .i64 s, .int .i64 o], v] w (lawPost w) := by
  obtain ⟨A, cc, rfl⟩ := h.form
  have HO := Lib.hid h
  have HL := Lib.hid h.len
  clear h
  obtain ⟨n, hn⟩ : ∃ n, L.length = n := ⟨_, rfl⟩
  have EN := Lib.hid hn
  rw [hn] at HO HL ⊢
  clear hn
  obtain ⟨B0, hB0⟩ : ∃ B, w.heap.size = B := ⟨_, rfl⟩
  obtain ⟨W0, hW0⟩ : ∃ W, w.alloc (.cells #[.int .i64 r, .int .i64 b, .int .i64 t, .int .i64 s, .int .i64 o] 23) = W := ⟨_, rfl⟩
  have T0 : Hid (Below w.heap.size w W0) := Lib.hid (by subst hW0; exact (Below.refl _ _).alloc (Nat.le_refl _) _)
  have G0 : Hid (Row W0 B0 23 #[.int .i64 r, .int .i64 b, .int .i64 t, .int .i64 s, .int .i64 o]) := Lib.hid (by subst hW0; exact gr_new w _ _ hB0)
  have HB0 := Lib.hid hB0
  have HW0 := Lib.hid hW0
  clear hB0 hW0
  go_enter Try.func7, Try.ntmps7
  go_wp2_with (first | rw [HB0.out] | rw [HW0.out])
  refine (awake12 _).mono ?_
  rintro e x1 ⟨rfl, hb2⟩
  have G_3 := Lib.hid (rw_fw G0.out (hb2))
  have hl4 := hb2
  have HT_5 : Hid (Below w.heap.size w x1) := Lib.hid (T0.out.trans ((hl4).mono T0.out.size))
  clear hb2 
  obtain ⟨c0, c1, c2, c3, c4⟩ := geo_cells G_3.out
  go_wp2_with fail
  clear c0 c1 c2 c3 c4
  refine (fair12_any r b t s o (.slice none 0 0) [] _ (Sls.nil_ _)).mono ?_
  rintro e x6 ⟨bb, rfl, hf, hb⟩
  have G_7 := Lib.hid (rw_fw G_3.out (hb))
  have hl8 := hb
  have HT_9 : Hid (Below w.heap.size w x6) := Lib.hid (HT_5.out.trans ((hl8).mono HT_5.out.size))
  clear hb
  cases bb with
  | false =>
    clear hf
    go_wp2_with fail
    refine (awake12 _).mono ?_
    rintro e x10 ⟨rfl, hb11⟩
    have G_12 := Lib.hid (rw_fw G_7.out (hb11))
    have hl13 := hb11
    have HT_14 : Hid (Below w.heap.size w x10) := Lib.hid (HT_9.out.trans ((hl13).mono HT_9.out.size))
    clear hb11 
    go_wp2_with fail
    go_ret
    exact ⟨rfl, HT_14.out⟩
  | true =>
    have F := Lib.hid (hf rfl)
    clear hf
    obtain ⟨c0, c1, c2, c3, c4⟩ := geo_cells G_7.out
    go_wp2_with fail
    clear c0 c1 c2 c3 c4
    refine (short_any (.slice A n cc) L _ (HO.out.fw HT_9.out)).mono ?_
    rintro e w' ⟨bb, rfl, rfl⟩
    cases bb with
    | false =>
      go_wp2_with fail
      refine (awake12 _).mono ?_
      rintro e x10 ⟨rfl, hb11⟩
      have G_12 := Lib.hid (rw_fw G_7.out (hb11))
      have hl13 := hb11
      have HT_14 : Hid (Below w.heap.size w x10) := Lib.hid (HT_9.out.trans ((hl13).mono HT_9.out.size))
      clear hb11 
      go_wp2_with fail
      go_ret
      exact ⟨rfl, HT_14.out⟩
    | true =>
      obtain ⟨R, Bn, T, S, O, rfl, rfl, rfl, rfl, rfl⟩ := F.out.nat
      have HV := Lib.hid F.out.1
      obtain ⟨c0, c1, c2, c3, c4⟩ := geo_cells G_7.out
      go_wp2_with fail
      clear c0 c1 c2 c3 c4
      refine (pnew_ok R Bn T S O _ HV.out).mono ?_
      rintro e x11 ⟨M, X, rfl, hn13, hx10, hb12⟩
      have QP := Lib.hid (show w.heap.size ≤ M ∧ w.heap.size ≤ X ∧ B0 < M ∧ B0 < X from ⟨Nat.le_trans HT_9.out.size hx10.1, Nat.le_trans HT_9.out.size hx10.2, Nat.lt_of_lt_of_le G_7.out.lt hx10.1, Nat.lt_of_lt_of_le G_7.out.lt hx10.2⟩)
      have G_14 := Lib.hid (rw_fw G_7.out (hb12))
      have hl15 := hb12
      have HT_16 : Hid (Below w.heap.size w x11) := Lib.hid (HT_9.out.trans ((hl15).mono HT_9.out.size))
      have P_17 := Lib.hid (hn13)
      clear hb12 hn13
      clear hx10
      obtain ⟨c0, c1, c2, c3, c4⟩ := geo_cells G_14.out
      go_wp2_with fail
      clear c0 c1 c2 c3 c4
      refine (rnew_ok R Bn T S O _ HV.out).mono ?_
      rintro e x19 ⟨M', X', rfl, hn21, hx18, hb20⟩
      have QR := Lib.hid (show w.heap.size ≤ M' ∧ w.heap.size ≤ X' ∧ B0 < M' ∧ B0 < X' from ⟨Nat.le_trans HT_16.out.size hx18.1, Nat.le_trans HT_16.out.size hx18.2, Nat.lt_of_lt_of_le G_14.out.lt hx18.1, Nat.lt_of_lt_of_le G_14.out.lt hx18.2⟩)
      have G_22 := Lib.hid (rw_fw G_14.out (hb20))
      have P_23 := Lib.hid (Md.fw P_17.out (hb20))
      have hl24 := hb20
      have HT_25 : Hid (Below w.heap.size w x19) := Lib.hid (HT_16.out.trans ((hl24).mono HT_16.out.size))
      have R_26 := Lib.hid (hn21)
      clear hb20 hn21
      clear hx18
      go_wp2_with fail
      have NE := Lib.hid (md_ne P_23.out R_26.out)
      have T1 := Lib.hid HT_25.out
      have P1 := Lib.hid P_23.out
      have R1 := Lib.hid R_26.out
      generalize R + Bn * (T * S) = cm at P1 R1
      go_loopw [9] (fun i wr => ∃ k : Nat, k ≤ n ∧ i = .int .i64 (k : Int) ∧ Hid (PMd wr M X cm R Bn T S O (Med.play R Bn T S O (List.replicate cm Med.blank) (L.take k)) ∧ RMd wr M' X' cm R Bn T S O (Med.play R Bn T S O (List.replicate cm Med.blank) (L.take k)) ∧ Chg (fun j => j = X ∨ j = X') x19 wr)) (fun i _ => n - (intOf i).toNat)
      case atStart => exact ⟨0, Nat.zero_le _, rfl, Lib.hid ⟨P1.out, R1.out, Chg.refl _ _⟩⟩
      case round =>
        obtain ⟨k, hk, rfl, V⟩ := hrel
        have nb := HL.out
        have hbw : Below w.heap.size w wr := T1.out.trans (V.out.2.2.below T1.out.size (fun j hj => by rcases hj with rfl | rfl; exact QP.out.2.1; exact QR.out.2.1))
        by_cases hlt : k < n
        · have kI : (k : Int) < (n : Int) := by omega
          obtain ⟨b, off, u, hk2, rfl, f0, f1, f2, f3⟩ := HO.out.nth hlt
          have PK := Lib.hid (play_take R Bn T S O (List.replicate cm Med.blank) L hk2)
          have RG := Lib.hid (op_rng f0 f1 f2)
          have HU := Lib.hid f3
          have K0 := Lib.hid f0
          have K1 := Lib.hid f1
          have K2 := Lib.hid f2
          obtain ⟨P2, R2, C2⟩ := V.out
          obtain ⟨lk, hlk⟩ : ∃ x, Med.play R Bn T S O (List.replicate cm Med.blank) (L.take k) = x := ⟨_, rfl⟩
          rw [hlk] at P2 R2 PK
          obtain ⟨o, ho⟩ : ∃ o, L[k] = o := ⟨_, rfl⟩
          rw [ho] at PK RG HU K0 K1
          have PH := Lib.hid P2
          have CH := Lib.hid C2
          have TB := Lib.hid hbw
          have D := Lib.hid (rdo_any R2 o u (HU.out.below hbw))
          have rg := rng_fw RG.out hbw
          have RG2 := Lib.hid rg
          clear f0 f1 f2 f3 P2 R2 C2 V hlk ho hbw rg
          go_wp2_with (refine wpList_load_mid rfl _ _ rfl b (off + k * 3) rfl [.bool o.erase, .int .i64 o.pos, u] _ RG2.out Try.underlying38 rfl (by kernel_rfl) ?_)
          refine D.out.mono ?_
          rintro e x2 ⟨rfl, hr, hc⟩
          have R3 := Lib.hid hr
          have P3 := Lib.hid (PH.out.chg hc (fun e => NE.out.1 e) (fun e => NE.out.2.2.1 e))
          have C3 := Lib.hid (CH.out.trans (hc.mono (fun j h => Or.inr h)))
          have T3 : Hid (Below w.heap.size w x2) := Lib.hid (TB.out.trans (hc.below TB.out.size (fun j hj => by rw [hj]; exact QR.out.2.1)))
          have k0 := ce_fw K0.out T3.out
          have k1 := ce_fw K1.out T3.out
          have U3 := Lib.hid (HU.out.below T3.out)
          clear hr hc D RG2 PH CH TB
          generalize opE Bn lk o = z at *
          obtain ⟨er0, ps, bs⟩ := o
          cases er0 with
          | true =>
            have E := Lib.hid (per_any P3.out ps)
            have EL : Hid (Med.er R Bn T S lk ps = opL R Bn T S O lk ⟨true, ps, bs⟩) := Lib.hid rfl
            go_wp2_with fail
            refine E.out.mono ?_
            rintro e x4 ⟨rfl, hp, hc⟩
            have P4 := Lib.hid hp
            have R4 := Lib.hid (R3.out.chg hc (fun e => NE.out.2.1 e) (fun e => NE.out.2.2.1 e.symm))
            have C4 := Lib.hid (C3.out.trans (hc.mono (fun j h => Or.inl h)))
            clear hp hc k0 k1 E
            generalize erE Bn ps = z2 at *
            go_wp2_with fail
            go_roundw
            case rel => exact ⟨k + 1, by omega, by go_num, Lib.hid ⟨by rw [PK.out, ← EL.out]; exact P4.out, by rw [PK.out]; exact R4.out, C4.out⟩⟩
            case measure => simp [intOf]; omega
          | false =>
            have E := Lib.hid (pwr_any P3.out ps u bs U3.out)
            have EL : Hid (Med.wr (Geo.shadow R Bn T S O ps) lk ps bs.length (strOf bs) = opL R Bn T S O lk ⟨false, ps, bs⟩) := Lib.hid rfl
            have k2 := ce_fw K2.out T3.out
            obtain ⟨A3, n3, c3, rfl⟩ : ∃ A n c, u = .slice A n c := by obtain ⟨A, c, e⟩ := HU.out.form; exact ⟨_, _, _, e⟩
            have L1 : Hid (∀ w', Chg (fun j => j = X) x2 w' → w'.cell? ⟨b, off + k * 3 + 1, none⟩ = some (.int .i64 ps) ∧ w'.cell? ⟨b, off + k * 3 + 2, none⟩ = some (.slice A3 n3 c3)) := Lib.hid fun w' h => by
              have t : Below w.heap.size w w' := T3.out.trans (h.below T3.out.size (fun j hj => by rw [hj]; exact QP.out.2.1))
              exact ⟨ce_fw K1.out t, ce_fw K2.out t⟩
            clear k1 k2 E
            go_wp2_with fail
            clear k0
            refine wp_region_held (P := Try.prog) (S := (fun w' : World => Chg (fun j => j = X) x2 w')) rfl ?_
            change wpAnyH _ _ _ _ _ _ _ _ x2.drew
            have hz2 : Below x2.heap.size x2 x2.drew := (Below.refl x2.heap.size x2).drew
            generalize x2.drew = wz1 at hz2 ⊢
            have P_3 := Lib.hid (Md.fw P3.out (hz2))
            have R_4 := Lib.hid (Md.fw R3.out (hz2))
            have C_5 := Lib.hid (C3.out.trans (below_chg (hz2) _))
            have U_6 := Lib.hid (Bs.below U3.out (hz2))
            have HB_7 : Hid (Chg (fun j => j = X) x2 wz1) := Lib.hid (below_chg (hz2) (fun j => j = X))
            clear hz2
            have hS8 : (fun w' : World => Chg (fun j => j = X) x2 w') wz1 := HB_7.out
            refine takeD (i := 0) (v := .pointer (some ⟨M, 0, none⟩)) (some 62) rfl rfl (by kernel_rfl) (by kernel_rfl) (by kernel_rfl) (fun _ _ _ h => h) (Or.inl ⟨by rfl, by rintro w' -; go_simp⟩) hS8 ?_
            simp only [Act.put, List.setIfInBounds_toArray, List.set_cons_zero, List.set_cons_succ]
            refine takeD (i := 1) (v := .slice (some ⟨b, off, none⟩) n cc) (some 63) rfl rfl (by kernel_rfl) (by kernel_rfl) (by kernel_rfl) (fun _ _ _ h => h) (Or.inl ⟨by rfl, by rintro w' -; go_simp⟩) hS8 ?_
            simp only [Act.put, List.setIfInBounds_toArray, List.set_cons_zero, List.set_cons_succ]
            refine takeD (i := 2) (v := .int .i64 (k : Int)) (some 64) rfl rfl (by kernel_rfl) (by kernel_rfl) (by kernel_rfl) (fun _ _ _ h => h) (Or.inl ⟨by rfl, by rintro w' -; go_simp⟩) hS8 ?_
            simp only [Act.put, List.setIfInBounds_toArray, List.set_cons_zero, List.set_cons_succ]
            refine takeD (i := 3) (v := .pointer (some ⟨b, off + k * 3, none⟩)) (some 65) rfl rfl (by kernel_rfl) (by kernel_rfl) (by kernel_rfl) (fun _ _ _ h => h) (Or.inl ⟨by rfl, by rintro w' -; go_simp⟩) hS8 ?_
            simp only [Act.put, List.setIfInBounds_toArray, List.set_cons_zero, List.set_cons_succ]
            refine takeD (i := 4) (v := .pointer (some ⟨b, off + k * 3 + 1, none⟩)) (some 66) rfl rfl (by kernel_rfl) (by kernel_rfl) (by kernel_rfl) (fun _ _ _ h => h) (Or.inl ⟨by rfl, by rintro w' -; go_simp⟩) hS8 ?_
            simp only [Act.put, List.setIfInBounds_toArray, List.set_cons_zero, List.set_cons_succ]
            refine takeD (i := 5) (v := .int .i64 ps) (some 67) rfl rfl (by kernel_rfl) (by kernel_rfl) (by kernel_rfl) (fun _ _ _ h => h) (Or.inl ⟨by rfl, by rintro w' h; have hc := (L1.out w' h).1; go_simp⟩) hS8 ?_
            simp only [Act.put, List.setIfInBounds_toArray, List.set_cons_zero, List.set_cons_succ]
            refine takeD (i := 6) (v := .slice (some ⟨b, off, none⟩) n cc) (some 68) rfl rfl (by kernel_rfl) (by kernel_rfl) (by kernel_rfl) (fun _ _ _ h => h) (Or.inl ⟨by rfl, by rintro w' -; go_simp⟩) hS8 ?_
            simp only [Act.put, List.setIfInBounds_toArray, List.set_cons_zero, List.set_cons_succ]
            refine takeD (i := 7) (v := .int .i64 (k : Int)) (some 69) rfl rfl (by kernel_rfl) (by kernel_rfl) (by kernel_rfl) (fun _ _ _ h => h) (Or.inl ⟨by rfl, by rintro w' -; go_simp⟩) hS8 ?_
            simp only [Act.put, List.setIfInBounds_toArray, List.set_cons_zero, List.set_cons_succ]
            refine takeD (i := 8) (v := .pointer (some ⟨b, off + k * 3, none⟩)) (some 70) rfl rfl (by kernel_rfl) (by kernel_rfl) (by kernel_rfl) (fun _ _ _ h => h) (Or.inl ⟨by rfl, by rintro w' -; go_simp⟩) hS8 ?_
            simp only [Act.put, List.setIfInBounds_toArray, List.set_cons_zero, List.set_cons_succ]
            refine takeD (i := 9) (v := .pointer (some ⟨b, off + k * 3 + 2, none⟩)) (some 71) rfl rfl (by kernel_rfl) (by kernel_rfl) (by kernel_rfl) (fun _ _ _ h => h) (Or.inl ⟨by rfl, by rintro w' -; go_simp⟩) hS8 ?_
            simp only [Act.put, List.setIfInBounds_toArray, List.set_cons_zero, List.set_cons_succ]
            refine takeD (i := 10) (v := .slice A3 n3 c3) (some 72) rfl rfl (by kernel_rfl) (by kernel_rfl) (by kernel_rfl) (fun _ _ _ h => h) (Or.inl ⟨by rfl, by rintro w' h; have hc := (L1.out w' h).2; go_simp⟩) hS8 ?_
            simp only [Act.put, List.setIfInBounds_toArray, List.set_cons_zero, List.set_cons_succ]
            refine wpAnyH_ready (rs := [11]) (by kernel_rfl) (by simp) ?_
            refine AllReadyH.cons rfl (fun K9 hK9 => ?_) AllReadyH.nil
            have HK9 := Lib.hid hK9
            clear hK9
            rw [if_pos (by rfl)]
            go_simp
            have Q := pwr_any P_3.out ps (.slice A3 n3 c3) bs U_6.out
            rw [EL.out] at Q
            refine Q.mono ?_
            clear Q
            rintro e x10 ⟨rfl, hp, hc⟩
            have P4 := Lib.hid hp
            have R4 := Lib.hid (R_4.out.chg hc (fun e => NE.out.2.1 e) (fun e => NE.out.2.2.1 e.symm))
            have C4 := Lib.hid (C_5.out.trans (hc.mono (fun j h => Or.inl h)))
            have HB_11 : Hid (Chg (fun j => j = X) x2 x10) := Lib.hid (HB_7.out.trans (hc))
            clear hp hc
            have hS12 : (fun w' : World => Chg (fun j => j = X) x2 w') x10 := HB_11.out
            refine HK9.out _ _ hS12 fun _ => ?_
            try simp only [Act.put, List.setIfInBounds_toArray, List.set_cons_zero, List.set_cons_succ]
            refine wpAnyH_done (by kernel_rfl) ?_ _
            generalize wrE lk ps bs.length = z2 at *
            go_wp2_with fail
            go_roundw
            case rel => exact ⟨k + 1, by omega, by go_num, Lib.hid ⟨by rw [PK.out]; exact P4.out, by rw [PK.out]; exact R4.out, C4.out⟩⟩
            case measure => simp [intOf]; omega
        · obtain rfl : k = n := by omega
          have kI : ¬ (k : Int) < (k : Int) := by omega
          have dk : decide ((k : Int) < (k : Int)) = false := decide_eq_false kI
          have PV := Lib.hid V.out.1
          have RV := Lib.hid V.out.2.1
          have TV := Lib.hid hbw
          clear V hbw
          go_wp2_with fail
          have kc := fun (w : World) (C : Array Value) (n c : Nat) => Lib.run_convert_bytes_const (P := Try.prog) w 36 5 C n c Try.underlying36 Try.underlying5
          refine (cnew_any PV.out).mono ?_
          rintro e y1 ⟨K, rfl, hc, hb⟩
          have CY := Lib.hid hc
          have BY := Lib.hid hb
          clear hc hb
          go_wp2_with fail
          have AL := Lib.hid ((Below.refl y1.heap.size y1).alloc (Nat.le_refl _) (.cells #[.int .u8 113] 5 (1, 2)))
          have W1 := Lib.hid (cwr_any (CY.out.fw AL.out) 0 _ [113] (bs_lit y1 5 (1, 2) 113 (by decide)) (by decide) (by decide))
          refine W1.out.mono ?_
          rintro e y2 ⟨rfl, hc, ht⟩
          have CZ := Lib.hid hc
          have BZ : Hid (Below wr.heap.size wr y2) := Lib.hid ((BY.out.trans (AL.out.mono BY.out.size)).trans (ht.below (Nat.le_trans BY.out.size AL.out.size)))
          clear hc ht W1 AL kc
          generalize opE Bn (Med.play R Bn T S O (Med.play R Bn T S O (List.replicate cm Med.blank) (L.take k)) []) ⟨false, 0, [113]⟩ = z1 at *
          go_wp2_with fail
          refine (cfl_any CZ.out).mono ?_
          rintro e y3 ⟨⟨u1, rfl⟩, hc, ht⟩
          have CF := Lib.hid hc
          have BF : Hid (Below wr.heap.size wr y3) := Lib.hid (BZ.out.trans (ht.below BZ.out.size))
          have PF := Lib.hid (PV.out.fw BF.out)
          have RF := Lib.hid (RV.out.fw BF.out)
          have TF : Hid (Below w.heap.size w y3) := Lib.hid (TV.out.trans (BF.out.mono TV.out.size))
          clear hc ht
          go_wp2_with fail
          refine (sm12_any PF.out RF.out).mono ?_
          rintro e y4 ⟨rfl, hb⟩
          have TG : Hid (Below w.heap.size w y4) := Lib.hid (TF.out.trans (hb.mono TF.out.size))
          have QP2 := cpe_any (CF.out.fw hb)
          clear hb
          go_wp2_with fail
          refine QP2.mono ?_
          rintro e w' ⟨rfl, rfl⟩
          clear QP2
          go_wp2_with fail
          go_ret
          exact ⟨rfl, TG.out⟩
end Go.Proofs.Ytbaclcpnnompnaa
