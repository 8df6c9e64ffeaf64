/- Law CacheCut. WRITTEN BY gen_Ccs.py. -/
import Derived.Test.YtbaclcpnnompnaaCcp
namespace Go.Proofs.Ytbaclcpnnompnaa
open Go Go.RowKit Med
set_option linter.unusedVariables false
set_option linter.unusedSimpArgs false

theorem Tch.low_ {B : Nat} {L : List TypeId} {a b c : World} (h : Tch B L a b) (k : Below a.heap.size b c) : Tch B L a c :=
  ⟨(Below.os k).trans (Chg.os h), (Below.tape k).trans (Chg.tape h), (Below.output k).trans (Chg.output h), Nat.le_trans (Chg.size h) k.size, fun i hi hn => (k.block i hi).trans (Chg.block h i hi hn)⟩
theorem Ce.op {A B : Nat} {w w' : World} {K R Bn T S O : Nat} {l : List Sec} {ops : List Med.Op} (h : Ce A w K R Bn T S O l ops) (hc : Tch B [38] w w') : Ce A w' K R Bn T S O l ops := by
  obtain ⟨D, X, c, C, Y, d, v, h⟩ := h
  exact ⟨D, X, c, C, Y, d, v, h.tch hc (by unfold NoCap; decide) (by decide) (by decide) (by decide) (by decide)⟩
abbrev OlW (w : World) := Olx (fun _ u l => Bs w u l)
set_option maxHeartbeats 4000000 in
set_option maxRecDepth 100000 in
theorem ccut_walk (r b t s o : Int) (v1 : Value) (L1 : List Stp) (v2 : Value) (L2 : List Stp) (w : World) (h1 : Sls w v1 L1) (h2 : Sls w v2 L2) : Calls Try.prog 4 #[.agg #[.int .i64 r, .int .i64 b, .int .i64 t, .int .i64 s, .int .i64 o], v1, v2] w (lawPost w) := by
  obtain ⟨A1, cc1, rfl⟩ := h1.form
  have HO1 := Lib.hid h1
  have HL1 := Lib.hid h1.len
  clear h1
  obtain ⟨n1, hn1⟩ : ∃ n, L1.length = n := ⟨_, rfl⟩
  have EN1 := Lib.hid hn1
  rw [hn1] at HO1 ⊢
  clear hn1
  obtain ⟨A2, cc2, rfl⟩ := h2.form
  have HO2 := Lib.hid h2
  have HL2 := Lib.hid h2.len
  clear h2
  obtain ⟨n2, hn2⟩ : ∃ n, L2.length = n := ⟨_, rfl⟩
  have EN2 := Lib.hid hn2
  rw [hn2] at HO2 ⊢
  clear hn2
  obtain ⟨B0, hB0⟩ : ∃ B, w.heap.size = B := ⟨_, rfl⟩
  obtain ⟨W0, hW0⟩ : ∃ W, w.alloc (.cells #[.int .i64 r, .int .i64 b, .int .i64 t, .int .i64 s, .int .i64 o] 23) = W := ⟨_, rfl⟩
  have T0 : Hid (Below w.heap.size w W0) := Lib.hid (by subst hW0; exact (Below.refl _ _).alloc (Nat.le_refl _) _)
  have G0 : Hid (Row W0 B0 23 #[.int .i64 r, .int .i64 b, .int .i64 t, .int .i64 s, .int .i64 o]) := Lib.hid (by subst hW0; exact gr_new w _ _ hB0)
  have HB0 := Lib.hid hB0
  have HW0 := Lib.hid hW0
  clear hB0 hW0
  go_enter Try.func4, Try.ntmps4
  go_wp2_with (first | rw [HB0.out] | rw [HW0.out])
  refine (awake12 _).mono ?_
  rintro e x1 ⟨rfl, hb2⟩
  have G_3 := Lib.hid (rw_fw G0.out (hb2))
  have hl4 := hb2
  have HT_5 : Hid (Below w.heap.size w x1) := Lib.hid (T0.out.trans ((hl4).mono T0.out.size))
  clear hb2 
  obtain ⟨c0, c1, c2, c3, c4⟩ := geo_cells G_3.out
  go_wp2_with fail
  clear c0 c1 c2 c3 c4
  refine (fair12_any r b t s o (.slice A1 n1 cc1) L1 _ (HO1.out.fw HT_5.out)).mono ?_
  rintro e x6 ⟨bb, rfl, hf, hb⟩
  have G_7 := Lib.hid (rw_fw G_3.out (hb))
  have hl8 := hb
  have HT_9 : Hid (Below w.heap.size w x6) := Lib.hid (HT_5.out.trans ((hl8).mono HT_5.out.size))
  clear hb
  cases bb with
  | false =>
    clear hf
    go_wp2_with fail
    refine (awake12 _).mono ?_
    rintro e x10 ⟨rfl, hb11⟩
    have G_12 := Lib.hid (rw_fw G_7.out (hb11))
    have hl13 := hb11
    have HT_14 : Hid (Below w.heap.size w x10) := Lib.hid (HT_9.out.trans ((hl13).mono HT_9.out.size))
    clear hb11 
    go_wp2_with fail
    go_ret
    exact ⟨rfl, HT_14.out⟩
  | true =>
    have F := Lib.hid (hf rfl)
    clear hf
    obtain ⟨c0, c1, c2, c3, c4⟩ := geo_cells G_7.out
    go_wp2_with fail
    clear c0 c1 c2 c3 c4
    refine (fair12_any r b t s o (.slice A2 n2 cc2) L2 _ (HO2.out.fw HT_9.out)).mono ?_
    rintro e x10 ⟨bb, rfl, hf, hb⟩
    have G_11 := Lib.hid (rw_fw G_7.out (hb))
    have hl12 := hb
    have HT_13 : Hid (Below w.heap.size w x10) := Lib.hid (HT_9.out.trans ((hl12).mono HT_9.out.size))
    clear hb
    cases bb with
    | false =>
      clear hf
      go_wp2_with fail
      refine (awake12 _).mono ?_
      rintro e x14 ⟨rfl, hb15⟩
      have G_16 := Lib.hid (rw_fw G_11.out (hb15))
      have hl17 := hb15
      have HT_18 : Hid (Below w.heap.size w x14) := Lib.hid (HT_13.out.trans ((hl17).mono HT_13.out.size))
      clear hb15 
      go_wp2_with fail
      go_ret
      exact ⟨rfl, HT_18.out⟩
    | true =>
      have F2 := Lib.hid (hf rfl)
      clear hf
      obtain ⟨R, Bn, T, S, O, rfl, rfl, rfl, rfl, rfl⟩ := F.out.nat
      have HV := Lib.hid F.out.1
      obtain ⟨c0, c1, c2, c3, c4⟩ := geo_cells G_11.out
      go_wp2_with fail
      clear c0 c1 c2 c3 c4
      refine (start12_any R Bn T S O _ HV.out).mono ?_
      rintro e x14 ⟨K, K', rfl, hc, hd, hb⟩
      have CC := Lib.hid (hc.low HT_13.out.size)
      have DD := Lib.hid (hd.low HT_13.out.size)
      have G_15 := Lib.hid (rw_fw G_11.out (hb))
      have hl16 := hb
      have HT_17 : Hid (Below w.heap.size w x14) := Lib.hid (HT_13.out.trans ((hl16).mono HT_13.out.size))
      clear hc hd hb
      go_wp2_with fail
      refine (play12_any (W := w) (.slice A1 n1 cc1) L1 CC.out DD.out HO1.out HT_17.out (Nat.le_refl _) F.out.2.2.2 F.out.2.2.1 (by decide)).mono ?_
      rintro e x18 ⟨K2, l2, ops2, rfl, hc, hd, hl, hb⟩
      have C_19 := Lib.hid hc
      have D_20 := Lib.hid hd
      have NL := Lib.hid hl
      have HT_21 : Hid (Below w.heap.size w x18) := Lib.hid (HT_17.out.trans hb)
      clear hc hd hl hb
      go_wp2_with fail
      refine (cfl_any C_19.out).mono ?_
      rintro e x22 ⟨⟨u1, rfl⟩, hn23, ht⟩
      have D_24 := Lib.hid (D_20.out.prog ht)
      have C_25 := Lib.hid (hn23)
      have HT_26 : Hid (Below w.heap.size w x22) := Lib.hid (HT_21.out.trans (ht.below HT_21.out.size))
      clear ht hn23
      go_wp2_with fail
      refine (rfl_any D_24.out).mono ?_
      rintro e x27 ⟨⟨u2, rfl⟩, hn28, ht⟩
      have C_29 := Lib.hid (C_25.out.ref ht)
      have D_30 := Lib.hid (hn28)
      have HT_31 : Hid (Below w.heap.size w x27) := Lib.hid (HT_26.out.trans (ht.below HT_26.out.size))
      clear ht hn28
      obtain ⟨l3, hl3⟩ : ∃ x, Med.play R Bn T S O l2 ops2 = x := ⟨_, rfl⟩
      have CY := C_29.out
      have DY := D_30.out
      rw [hl3] at CY DY
      have CY := Lib.hid CY
      have DY := Lib.hid DY
      have TY := Lib.hid HT_31.out
      have ST := Lib.hid TY.out.size
      have N40 := Lib.hid (show n2 ≤ 40 by rw [← EN2.out]; exact F2.out.2.2.1)
      clear hl3
      go_wp2_with fail
      go_loopw [10, 11] (fun dv i wr => ∃ (k : Nat) (dl : List Med.Op), k ≤ n2 ∧ dl.length ≤ k ∧ i = .int .i64 (k : Int) ∧ Hid (Ce w.heap.size wr K2 R Bn T S O l3 dl ∧ OlW w x27.heap.size wr dv dl ∧ Tch w.heap.size tyP x27 wr)) (fun _ i _ => n2 - (intOf i).toNat)
      case atStart => exact ⟨0, [], Nat.zero_le _, Nat.le_refl _, rfl, Lib.hid ⟨CY.out, Olx.nil_ _ _, Tch.refl _ _ _⟩⟩
      case round =>
        obtain ⟨k, dl, hk, hdk, rfl, V⟩ := hrel
        have nb := HL2.out
        obtain ⟨p, dc, rfl, -, hdm⟩ := V.out.2.1.form
        obtain ⟨N, hN⟩ : ∃ N, dl.length = N := ⟨_, rfl⟩
        have ED := Lib.hid hN
        rw [hN] at V hdk ⊢
        have BW : Hid (Below w.heap.size w wr) := Lib.hid (TY.out.trans (V.out.2.2.below ST.out))
        clear hN
        by_cases hlt : k < n2
        · have kI : (k : Int) < (n2 : Int) := by omega
          obtain ⟨b, off, u, hk2, rfl, -, f1, f2, f3, f4, -⟩ := HO2.out.nth hlt
          have FL := Lib.hid (F2.out.2.2.2 k hk2)
          have RG := Lib.hid (st_rng f1 f2 f3)
          have HU := Lib.hid f4
          obtain ⟨o, ho⟩ : ∃ x, L2[k].op = x := ⟨_, rfl⟩
          rw [ho] at RG HU FL
          obtain ⟨A3, n3, c3, rfl⟩ : ∃ A n c, u = .slice A n c := by obtain ⟨A, c, e⟩ := f4.form; exact ⟨_, _, _, e⟩
          have CV := Lib.hid V.out.1
          have OV := Lib.hid V.out.2.1
          have TV := Lib.hid V.out.2.2
          have RG2 := Lib.hid (rng_fw RG.out BW.out)
          have NK := Lib.hid (show N ≤ 40 by have := N40.out; omega)
          obtain ⟨z, hz⟩ : ∃ z, opE Bn (Med.play R Bn T S O l3 dl) o = z := ⟨_, rfl⟩
          have D := cdo_any CV.out o (.slice A3 n3 c3) (HU.out.below BW.out) (Nat.le_trans FL.out (by decide)) (by have := NK.out; have := ED.out; omega)
          unfold adPost at D
          rw [hz] at D
          have DH := Lib.hid D
          clear V f1 f2 f3 f4 ho hz D
          go_wp2_with (refine wpList_load_mid rfl _ _ rfl b (off + k * 5 + 1) rfl [.bool o.erase, .int .i64 o.pos, .slice A3 n3 c3] _ RG2.out Try.underlying38 rfl (by kernel_rfl) ?_)
          refine DH.out.mono ?_
          rintro e x1 ⟨rfl, hc, ht⟩
          have C1 := Lib.hid hc
          have O1 := Lib.hid (Olx.move OV.out ht (by decide) (fun _ _ q => q))
          have T1 := Lib.hid (Tch.trans TV.out ht)
          clear hc ht DH RG2
          by_cases h0 : z = 0
          · have d0 : ((z : Int) == 0) = true := by simp [h0]
            have Z0 := Lib.hid h0
            clear h0
            have BX : Hid (Below w.heap.size w x1) := Lib.hid (TY.out.trans (T1.out.below ST.out))
            have RG3 := Lib.hid (rng_fw RG.out BX.out)
            have AL := Lib.hid ((Below.refl x1.heap.size x1).alloc (Nat.le_refl _) (.cells #[.bool o.erase, .int .i64 o.pos, .slice A3 n3 c3] 38))
            have RW := Lib.hid (gr_new x1 #[.bool o.erase, .int .i64 o.pos, .slice A3 n3 c3] 38 rfl)
            have O2 := Lib.hid (Olx.move O1.out (Tch.of_below AL.out 0 []) (by simp) (fun _ _ q => q))
            have BL := Lib.hid (show x27.heap.size ≤ (x1.alloc (.cells #[.bool o.erase, .int .i64 o.pos, .slice A3 n3 c3] 38)).heap.size from Nat.le_trans T1.out.size AL.out.size)
            go_wp2_with (first | (refine wpList_load_mid rfl _ _ rfl b (off + k * 5 + 1) rfl [.bool o.erase, .int .i64 o.pos, .slice A3 n3 c3] _ RG3.out Try.underlying38 rfl (by kernel_rfl) ?_) | (refine wpList_plain rfl fun _ hK' => wp_build_op _ rfl o.erase o.pos A3 n3 c3 rfl (hK' _ _ ?_)) | (at_builtin; refine wpList_plain rfl fun _ hK' => wp_push_O (Q := fun _ u l => Bs w u l) (B := x27.heap.size) _ _ rfl _ dl N x1.heap.size (.slice A3 n3 c3) o rfl O2.out ED.out rfl RW.out HU.out rfl (by have := NK.out; omega) BL.out (fun _ _ _ _ h => h) ?_; intro g2 cap2 x3 hol hoc; refine hK' _ _ ?_))
            have O3 := Lib.hid hol
            have C3 := Lib.hid ((C1.out.fw AL.out).op hoc)
            have T3 := Lib.hid (Tch.low_ T1.out ((AL.out.mono T1.out.size).trans (hoc.below BL.out)))
            clear hol hoc
            go_roundw
            case rel => exact ⟨k + 1, dl ++ [o], by omega, by have := ED.out; simp; omega, by go_num, Lib.hid ⟨by have h := C3.out; unfold app at h; rw [if_pos Z0.out] at h; exact h, O3.out, T3.out⟩⟩
            case measure => simp [intOf]; omega
          · have d0 : ((z : Int) == 0) = false := by simp [h0]
            have Z0 := Lib.hid h0
            clear h0
            go_wp2_with fail
            go_roundw
            case rel => exact ⟨k + 1, dl, by omega, by have := ED.out; omega, by go_num, Lib.hid ⟨by have h := C1.out; unfold app at h; rw [if_neg Z0.out] at h; exact h, O1.out, T1.out⟩⟩
            case measure => simp [intOf]; omega
        · obtain rfl : k = n2 := by omega
          have kI : ¬ (k : Int) < (k : Int) := by omega
          have dk : decide ((k : Int) < (k : Int)) = false := decide_eq_false kI
          obtain ⟨m, hm⟩ : ∃ m, N / 2 = m := ⟨_, rfl⟩
          have e1 : (N : Int) / 2 = (m : Int) := by omega
          have MN := Lib.hid (show m ≤ N by omega)
          have M63 := Lib.hid (show m ≤ 9223372036854775807 by have := N40.out; omega)
          have CV := Lib.hid V.out.1
          have OV := Lib.hid V.out.2.1
          have DV := Lib.hid (DY.out.prog V.out.2.2)
          clear V hm hdm
          have m63 := M63.out
          go_wp2_with fail
          clear m63
          have CU := ccu_any CV.out (m : Int)
          rw [Int.toNat_natCast] at CU
          refine CU.mono ?_
          clear CU
          rintro e y2 ⟨⟨u3, rfl⟩, hc, ht⟩
          have C2 := Lib.hid hc
          have O2 := Lib.hid (Olx.move OV.out ht (by decide) (fun _ _ q => q))
          have BY : Hid (Below w.heap.size w y2) := Lib.hid (BW.out.trans (ht.below BW.out.size))
          obtain ⟨M, X, c, v, hr⟩ := DV.out.prog ht
          have H := Lib.hid hr
          clear hc ht hr e1
          go_wp2_with fail
          go_loopw [13] (fun i wr => ∃ k : Nat, k ≤ m ∧ i = .int .i64 (k : Int) ∧ Hid (RMd wr M X c R Bn T S O (Med.play R Bn T S O l3 (dl.take k)) ∧ Chg (fun j => j = X) y2 wr)) (fun i _ => m - (intOf i).toNat)
          case atStart => exact ⟨0, Nat.zero_le _, rfl, Lib.hid ⟨H.out.md, Chg.refl _ _⟩⟩
          case round =>
            obtain ⟨k, hk, rfl, V⟩ := hrel
            have nb := M63.out
            obtain ⟨t1, r1, o1⟩ := H.out.during V.out.2
            have od := Olx.move O2.out t1 (by decide) (fun _ _ q => q)
            obtain ⟨c0, -⟩ := row_at2 r1
            by_cases hlt : k < m
            · have kI : (k : Int) < (m : Int) := by omega
              have hkN : k < N := by have := MN.out; omega
              have T2 := Lib.hid (tch_subR t1 (by decide))
              have BZ : Hid (Below w.heap.size w wr) := Lib.hid (BY.out.trans (t1.below BY.out.size))
              obtain ⟨b, off, u, hk2, rfl, f0, f1, f2, f3⟩ := (od.ols fun _ _ q => q.below BZ.out).nth hkN
              have PK := Lib.hid (play_take R Bn T S O l3 dl hk2)
              have RG := Lib.hid (op_rng f0 f1 f2)
              obtain ⟨lk, hlk⟩ : ∃ x, Med.play R Bn T S O l3 (dl.take k) = x := ⟨_, rfl⟩
              obtain ⟨P1, Ch1⟩ := V.out
              rw [hlk] at P1 PK
              obtain ⟨o, ho⟩ : ∃ o, dl[k] = o := ⟨_, rfl⟩
              rw [ho] at PK RG f3
              have CC := Lib.hid Ch1
              have HU := Lib.hid f3
              have PP := Lib.hid P1
              have L0 : Hid (∀ w', Chg (fun j => j = X) wr w' → w'.cell? ⟨K', 0, none⟩ = some (.pointer (some ⟨M, 0, none⟩))) := Lib.hid fun w' h => (row_at2 (H.out.during (V.out.2.trans h)).2.1).1
              have bX : b ≠ X := (od.own b rfl).2.ne V.out.1.sx.ty (by decide)
              have L1 : Hid (∀ w', Chg (fun j => j = X) wr w' → w'.rangeAt b (off + k * 3) [.bool o.erase, .int .i64 o.pos, u]) := Lib.hid fun w' h => rng_chg RG.out h bX
              clear f0 f1 f2 f3 P1 Ch1 V hlk ho t1 r1 o1 od bX
              go_wp2_with fail
              clear c0
              refine wp_region_held (P := Try.prog) (S := (fun w' : World => Chg (fun j => j = X) wr w')) rfl ?_
              change wpAnyH _ _ _ _ _ _ _ _ wr.drew
              have hz302 : Below wr.heap.size wr wr.drew := (Below.refl wr.heap.size wr).drew
              generalize wr.drew = wz301 at hz302 ⊢
              have P_303 := Lib.hid (Md.fw PP.out (hz302))
              have C_304 := Lib.hid (CC.out.trans (below_chg (hz302) _))
              have U_305 := Lib.hid (Bs.below HU.out (hz302))
              have HB_306 : Hid (Chg (fun j => j = X) wr wz301) := Lib.hid (below_chg (hz302) (fun j => j = X))
              clear hz302
              have hS307 : (fun w' : World => Chg (fun j => j = X) wr w') wz301 := HB_306.out
              refine takeD (i := 0) (v := .pointer (some ⟨K', 0, none⟩)) (some 80) rfl rfl (by kernel_rfl) (by kernel_rfl) (by kernel_rfl) (fun _ _ _ h => h) (Or.inl ⟨by rfl, by rintro w' -; go_simp⟩) hS307 ?_
              simp only [Act.put, List.setIfInBounds_toArray, List.set_cons_zero, List.set_cons_succ]
              refine takeD (i := 1) (v := .pointer (some ⟨K', 0, none⟩)) (some 81) rfl rfl (by kernel_rfl) (by kernel_rfl) (by kernel_rfl) (fun _ _ _ h => h) (Or.inl ⟨by rfl, by rintro w' -; go_simp⟩) hS307 ?_
              simp only [Act.put, List.setIfInBounds_toArray, List.set_cons_zero, List.set_cons_succ]
              refine takeD (i := 2) (v := .pointer (some ⟨K', 0, none⟩)) (some 82) rfl rfl (by kernel_rfl) (by kernel_rfl) (by kernel_rfl) (fun _ _ _ h => h) (Or.inl ⟨by rfl, by rintro w' -; go_simp⟩) hS307 ?_
              simp only [Act.put, List.setIfInBounds_toArray, List.set_cons_zero, List.set_cons_succ]
              refine takeD (i := 3) (v := .pointer (some ⟨M, 0, none⟩)) (some 83) rfl rfl (by kernel_rfl) (by kernel_rfl) (by kernel_rfl) (fun _ _ _ h => h) (Or.inl ⟨by rfl, by rintro w' h; have hc := L0.out w' h; go_simp⟩) hS307 ?_
              simp only [Act.put, List.setIfInBounds_toArray, List.set_cons_zero, List.set_cons_succ]
              refine takeD (i := 4) (v := .slice (some ⟨b, off, none⟩) N dc) (some 84) rfl rfl (by kernel_rfl) (by kernel_rfl) (by kernel_rfl) (fun _ _ _ h => h) (Or.inl ⟨by rfl, by rintro w' -; go_simp⟩) hS307 ?_
              simp only [Act.put, List.setIfInBounds_toArray, List.set_cons_zero, List.set_cons_succ]
              refine takeD (i := 5) (v := .int .i64 (k : Int)) (some 85) rfl rfl (by kernel_rfl) (by kernel_rfl) (by kernel_rfl) (fun _ _ _ h => h) (Or.inl ⟨by rfl, by rintro w' -; go_simp⟩) hS307 ?_
              simp only [Act.put, List.setIfInBounds_toArray, List.set_cons_zero, List.set_cons_succ]
              refine takeD (i := 6) (v := .pointer (some ⟨b, off + k * 3, none⟩)) (some 86) rfl rfl (by kernel_rfl) (by kernel_rfl) (by kernel_rfl) (fun _ _ _ h => h) (Or.inl ⟨by rfl, by rintro w' -; go_simp⟩) hS307 ?_
              simp only [Act.put, List.setIfInBounds_toArray, List.set_cons_zero, List.set_cons_succ]
              refine takeD (i := 7) (v := .agg #[.bool o.erase, .int .i64 o.pos, u]) (some 87) rfl rfl (by kernel_rfl) (by kernel_rfl) (by kernel_rfl) (fun _ _ _ h => h) (yieldsIf_load_mid (by rfl) _ _ rfl b (off + k * 3) rfl [.bool o.erase, .int .i64 o.pos, u] _ (fun w' h => L1.out w' h) Try.underlying38 rfl (by kernel_rfl)) hS307 ?_
              simp only [Act.put, List.setIfInBounds_toArray, List.set_cons_zero, List.set_cons_succ]
              refine wpAnyH_ready (rs := [8]) (by kernel_rfl) (by simp) ?_
              refine AllReadyH.cons rfl (fun K308 hK308 => ?_) AllReadyH.nil
              have HK308 := Lib.hid hK308
              clear hK308
              rw [if_pos (by rfl)]
              go_simp
              refine (rdo_any P_303.out o u U_305.out).mono ?_
              rintro e x309 ⟨rfl, hm, hc⟩
              have P310 := Lib.hid hm
              have C311 := Lib.hid (C_304.out.trans hc)
              have HB_312 : Hid (Chg (fun j => j = X) wr x309) := Lib.hid (HB_306.out.trans (hc))
              clear hm hc
              have hS313 : (fun w' : World => Chg (fun j => j = X) wr w') x309 := HB_312.out
              refine HK308.out _ _ hS313 fun _ => ?_
              try simp only [Act.put, List.setIfInBounds_toArray, List.set_cons_zero, List.set_cons_succ]
              refine wpAnyH_done (by kernel_rfl) ?_ _
              generalize opE Bn lk o = z at *
              go_wp2_with fail
              go_roundw
              case rel => exact ⟨k + 1, by omega, by go_num, Lib.hid ⟨by rw [PK.out]; exact P310.out, C311.out⟩⟩
              case measure => simp [intOf]; omega
            · obtain rfl : k = m := by omega
              have kI : ¬ (k : Int) < (k : Int) := by omega
              have dk : decide ((k : Int) < (k : Int)) = false := decide_eq_false kI
              have CF := Lib.hid (C2.out.ref (tch_subR t1 (by decide)))
              have DF : Hid (Re w.heap.size wr K' R Bn T S O (Med.play R Bn T S O l3 (dl.take k)) []) := Lib.hid ⟨M, X, c, v, r1, V.out.1, o1, H.out.low⟩
              have TF : Hid (Below w.heap.size w wr) := Lib.hid (BY.out.trans (t1.below BY.out.size))
              clear V t1 r1 o1 od c0
              go_wp2_with fail
              refine (same12_any CF.out DF.out).mono ?_
              rintro e y5 ⟨rfl, hb⟩
              have TG : Hid (Below w.heap.size w y5) := Lib.hid (TF.out.trans (hb.mono TF.out.size))
              clear hb
              go_wp2_with fail
              go_ret
              exact ⟨rfl, TG.out⟩
end Go.Proofs.Ytbaclcpnnompnaa
