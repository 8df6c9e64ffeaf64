/- Layer 14: walk of the law DiskActs. WRITTEN BY gen_Dqg.py. -/
import Derived.Test.YtdjjihppaobbcaaGreatDqc
import Derived.Test.YtdjjihppaobbcaaGreatHA
namespace Go.Proofs.YtdjjihppaobbcaaGreat
open Go Go.RowKit Med Flt
set_option linter.unusedVariables false
set_option linter.unusedSimpArgs false
theorem PSt.snd {N : Nat} {w : World} {P D0 D1 R Bn T S O : Nat} {L0 L1 : List F} {p : Dsk.Pw} {d0 d1 : Dsk.Dk} (h : PSt N w P D0 D1 R Bn T S O L0 L1 p d0 d1) : ∃ A, PDk A w D1 P R Bn T S O L1 d1 := h.swap.fst
theorem RSt.snd {N : Nat} {w : World} {P D0 D1 R Bn T S O : Nat} {L0 L1 : List F} {p : Dsk.Pw} {d0 d1 : Dsk.Dk} (h : RSt N w P D0 D1 R Bn T S O L0 L1 p d0 d1) : ∃ A, RDk A w D1 P R Bn T S O L1 d1 := h.swap.fst
set_option maxHeartbeats 4000000 in
set_option maxRecDepth 100000 in
theorem acts14_walk (r b t s o : Int) (v0 v1 va : Value) (L0 L1 : List F) (L : List Ac)  (w : World) (h0 : Fts w v0 L0) (h1 : Fts w v1 L1) (h : Acl w va L)  : Calls Tryz.prog 3 #[.agg (csc r b t s o v0 v1 va)] w (lawPost w) := by
  obtain ⟨A0, c0_, rfl⟩ := h0.form
  obtain ⟨A1, c1_, rfl⟩ := h1.form
  obtain ⟨Aa, ca, rfl⟩ := h.form
  have HO := Lib.hid h
  have H0 := Lib.hid h0
  have H1 := Lib.hid h1
  obtain ⟨n, hn⟩ : ∃ n, L.length = n := ⟨_, rfl⟩
  obtain ⟨n0, hn0⟩ : ∃ n, L0.length = n := ⟨_, rfl⟩
  obtain ⟨n1, hn1⟩ : ∃ n, L1.length = n := ⟨_, rfl⟩
  have EN := Lib.hid hn
  rw [hn] at HO ⊢
  rw [hn0] at H0 ⊢
  rw [hn1] at H1 ⊢
  unfold csc
  obtain ⟨B0, hB0⟩ : ∃ B, w.heap.size = B := ⟨_, rfl⟩
  obtain ⟨W0, hW0⟩ : ∃ W, w.alloc (.cells #[.int .i64 r, .int .i64 b, .int .i64 t, .int .i64 s, .int .i64 o, .slice A0 n0 c0_, .slice A1 n1 c1_, .slice Aa n ca] 28) = W := ⟨_, rfl⟩
  have T0 : Hid (Below w.heap.size w W0) := Lib.hid (by subst hW0; exact (Below.refl _ _).alloc (Nat.le_refl _) _)
  have C0 : Hid (CBox W0 B0 r b t s o (.slice A0 n0 c0_) (.slice A1 n1 c1_) (.slice Aa n ca)) := Lib.hid (by subst hW0; exact gr_new w _ _ hB0)
  have HB0 := Lib.hid hB0
  have HW0 := Lib.hid hW0
  clear hB0 hW0 h h0 h1 hn hn0 hn1
  go_enter Tryz.func3, Tryz.ntmps3
  go_wp2_with (first | rw [HB0.out] | rw [HW0.out])
  refine (awake14 _).mono ?_
  rintro e x1 ⟨rfl, hb⟩
  have C_2 := Lib.hid (Row.go C0.out (hb))
  have hl3 := hb
  have HT_4 : Hid (Below w.heap.size w x1) := Lib.hid (T0.out.trans ((hl3).mono T0.out.size))
  clear hb
  obtain ⟨⟨c0, c1, c2, c3, c4⟩, c5, c6, c7⟩ := CBox.cells C_2.out
  go_wp2_with fail
  clear c0 c1 c2 c3 c4 c5 c6 c7
  refine (fair14_any r b t s o _ _ _ L0 L1 L _ (H0.out.fw HT_4.out) (H1.out.fw HT_4.out) (HO.out.fw HT_4.out)).mono ?_
  rintro e x5 ⟨bb, rfl, hf, hb⟩
  have C_6 := Lib.hid (Row.go C_2.out (hb))
  have hl7 := hb
  have HT_8 : Hid (Below w.heap.size w x5) := Lib.hid (HT_4.out.trans ((hl7).mono HT_4.out.size))
  clear hb
  cases bb with
  | false =>
    clear hf
    go_wp2_with fail
    refine (awake14 _).mono ?_
    rintro e x9 ⟨rfl, hb⟩
    have C_10 := Lib.hid (Row.go C_6.out (hb))
    have hl11 := hb
    have HT_12 : Hid (Below w.heap.size w x9) := Lib.hid (HT_8.out.trans ((hl11).mono HT_8.out.size))
    clear hb
    go_wp2_with fail
    go_ret
    exact ⟨rfl, HT_12.out⟩
  | true =>
    have FA := Lib.hid (hf rfl)
    clear hf
    obtain ⟨R, Bn, T, S, O, rfl, rfl, rfl, rfl, rfl⟩ := FA.out.nat
    have HV := Lib.hid FA.out.1
    obtain ⟨⟨c0, c1, c2, c3, c4⟩, c5, c6, c7⟩ := CBox.cells C_6.out
    go_wp2_with fail
    clear c0 c1 c2 c3 c4 c5 c6 c7
    obtain ⟨N, hN⟩ : ∃ N, x5.heap.size = N := ⟨_, rfl⟩
    have NW := Lib.hid (show w.heap.size ≤ N from by rw [← hN]; exact HT_8.out.size)
    have ST := start14_any (va := .slice Aa n ca) HV.out (H0.out.fw HT_8.out) (H1.out.fw HT_8.out) FA.out.2.2.2.2.2.2.1 FA.out.2.2.2.2.2.2.2 FA.out.2.2.2.1 FA.out.2.2.2.2.1
    unfold csc st14 at ST
    rw [hN] at ST
    refine ST.mono ?_
    clear ST
    rintro e x9 ⟨P, D0, D1, rfl, hs, hb⟩
    have PS0 := Lib.hid hs
    have hb2 : Below x5.heap.size x5 x9 := hN ▸ hb
    have C_10 := Lib.hid (Row.go C_6.out (hb2))
    have hl11 := hb2
    have HT_12 : Hid (Below w.heap.size w x9) := Lib.hid (HT_8.out.trans ((hl11).mono HT_8.out.size))
    have NS := Lib.hid (show N ≤ x9.heap.size from Nat.le_trans (Nat.le_of_eq hN.symm) hb2.size)
    clear hs hb hb2 hN
    unfold ptrN at *
    obtain ⟨b13, hb13⟩ : ∃ b, x9.heap.size = b := ⟨_, rfl⟩
    obtain ⟨W14, hW14⟩ : ∃ W, x9.alloc (.cells #[.pointer (some ⟨P, 0, none⟩), .pointer (some ⟨D0, 0, none⟩), .pointer (some ⟨D1, 0, none⟩)] 35) = W := ⟨_, rfl⟩
    have hb3 : Below x9.heap.size x9 W14 := by subst hW14; exact (Below.refl _ _).alloc (Nat.le_refl _) _
    have RX : Hid (Row W14 b13 35 #[.pointer (some ⟨P, 0, none⟩), .pointer (some ⟨D0, 0, none⟩), .pointer (some ⟨D1, 0, none⟩)]) := Lib.hid (by subst hW14; exact gr_new x9 _ _ hb13)
    have HX1 := Lib.hid hb13
    have HX2 := Lib.hid hW14
    have NX := Lib.hid (show N ≤ b13 by have := NS.out; omega)
    have C_15 := Lib.hid (Row.go C_10.out (hb3))
    have P_16 := Lib.hid (PSt.fw PS0.out (hb3))
    have hl17 := hb3
    have HT_18 : Hid (Below w.heap.size w W14) := Lib.hid (HT_12.out.trans ((hl17).mono HT_12.out.size))
    clear hb3 hb13 hW14
    obtain ⟨⟨c0, c1, c2, c3, c4⟩, c5, c6, c7⟩ := CBox.cells C_15.out
    go_wp2_with (first | rw [HX2.out, HX1.out])
    clear c0 c1 c2 c3 c4 c5 c6 c7
    obtain ⟨K, hK⟩ : ∃ K, W14.heap.size = K := ⟨_, rfl⟩
    have KW := Lib.hid (show w.heap.size ≤ K from by rw [← hK]; exact HT_18.out.size)
    have ST := begin14_any (va := .slice Aa n ca) HV.out (H0.out.fw HT_18.out) (H1.out.fw HT_18.out) FA.out.2.2.2.2.2.2.1 FA.out.2.2.2.2.2.2.2 FA.out.2.2.2.1 FA.out.2.2.2.2.1
    unfold csc bg14 at ST
    rw [hK] at ST
    refine ST.mono ?_
    clear ST
    rintro e x19 ⟨Q, E0, E1, rfl, hs, hb⟩
    have RS0 := Lib.hid hs
    have hb2 : Below W14.heap.size W14 x19 := hK ▸ hb
    have C_20 := Lib.hid (Row.go C_15.out (hb2))
    have P_21 := Lib.hid (PSt.fw P_16.out (hb2))
    have X_22 := Lib.hid (Row.go RX.out (hb2))
    have hl23 := hb2
    have HT_24 : Hid (Below w.heap.size w x19) := Lib.hid (HT_18.out.trans ((hl23).mono HT_18.out.size))
    clear hs hb hb2 hK
    unfold ptrN at *
    obtain ⟨b25, hb25⟩ : ∃ b, x19.heap.size = b := ⟨_, rfl⟩
    obtain ⟨W26, hW26⟩ : ∃ W, x19.alloc (.cells #[.pointer (some ⟨E0, 0, none⟩), .pointer (some ⟨E1, 0, none⟩)] 40) = W := ⟨_, rfl⟩
    have hb3 : Below x19.heap.size x19 W26 := by subst hW26; exact (Below.refl _ _).alloc (Nat.le_refl _) _
    have RY : Hid (Row W26 b25 40 #[.pointer (some ⟨E0, 0, none⟩), .pointer (some ⟨E1, 0, none⟩)]) := Lib.hid (by subst hW26; exact gr_new x19 _ _ hb25)
    have HY1 := Lib.hid hb25
    have HY2 := Lib.hid hW26
    have C_27 := Lib.hid (Row.go C_20.out (hb3))
    have P_28 := Lib.hid (PSt.fw P_21.out (hb3))
    have X_29 := Lib.hid (Row.go X_22.out (hb3))
    have Q_30 := Lib.hid (RSt.fw RS0.out (hb3))
    have hl31 := hb3
    have HT_32 : Hid (Below w.heap.size w W26) := Lib.hid (HT_24.out.trans ((hl31).mono HT_24.out.size))
    clear hb3 hb25 hW26
    go_wp2_with (first | rw [HY2.out, HY1.out])
    have LN : n ≤ 60 := by have := FA.out.2.2.1; have := EN.out; omega
    have HLN := Lib.hid LN
    clear LN
    go_loopw [7] (fun i wr => ∃ (k : Nat) (p : Dsk.Pw) (d0 d1 : Dsk.Dk), k ≤ n ∧ i = .int .i64 (k : Int) ∧ Hid (CBox wr B0 R Bn T S O (.slice A0 n0 c0_) (.slice A1 n1 c1_) (.slice Aa n ca) ∧ Row wr b13 35 #[.pointer (some ⟨P, 0, none⟩), .pointer (some ⟨D0, 0, none⟩), .pointer (some ⟨D1, 0, none⟩)] ∧ Row wr b25 40 #[.pointer (some ⟨E0, 0, none⟩), .pointer (some ⟨E1, 0, none⟩)] ∧ PSt N wr P D0 D1 R Bn T S O L0 L1 p d0 d1 ∧ RSt K wr Q E0 E1 R Bn T S O L0 L1 p d0 d1 ∧ Below w.heap.size w wr) ∧ Hid (p.fit k ∧ Dsk.Few d0 k ∧ Dsk.Few d1 k)) (fun i _ => n - (intOf i).toNat)
    case atStart => exact ⟨0, _, _, _, Nat.zero_le _, rfl, Lib.hid ⟨C_27.out, X_29.out, RY.out, P_28.out, Q_30.out, HT_32.out⟩, Lib.hid ⟨fit_new, few_new _ _ 0, few_new _ _ 0⟩⟩
    case round =>
      obtain ⟨k, p, d0, d1, hk, rfl, V, VN⟩ := hrel
      have nb := HLN.out
      have CW := Lib.hid V.out.1
      have XW := Lib.hid V.out.2.1
      have YW := Lib.hid V.out.2.2.1
      have PW := Lib.hid V.out.2.2.2.1
      have QW := Lib.hid V.out.2.2.2.2.1
      have TW := Lib.hid V.out.2.2.2.2.2
      have c7 := (CBox.cells V.out.1).2.2.2
      clear V
      by_cases hlt : k < n
      · have kI : (k : Int) < (n : Int) := by omega
        obtain ⟨b, off, hk2, rfl, hrg, hok⟩ := HO.out.nth hlt
        have BL := Lib.hid (FA.out.2.2.2.2.2.1 k hk2)
        obtain ⟨y, hy⟩ : ∃ y, L[k] = y := ⟨_, rfl⟩
        rw [hy] at hrg hok BL
        obtain ⟨x0, x1, x2, x3, ua, un, uc, bs, x5⟩ := y
        have RGW := Lib.hid hrg
        have OKY := Lib.hid hok
        have NZ := Lib.hid (PSt.size PW.out)
        have FIT := Lib.hid VN.out.1
        have FW0 := Lib.hid VN.out.2.1
        have FW1 := Lib.hid VN.out.2.2
        have k1000 := Lib.hid (show k < 1000 by omega)
        obtain ⟨at_, hat⟩ : ∃ q : Dsk.Act, Ac.act ⟨x0, x1, x2, x3, ua, un, uc, bs, x5⟩ = q := ⟨_, rfl⟩
        have HAT := Lib.hid hat
        obtain ⟨sb, hsb⟩ : ∃ q, Dsk.actB (faL (sel at_.disk L0 L1)) R Bn T S O p (sel at_.disk d0 d1) at_ = q := ⟨_, rfl⟩
        obtain ⟨se, hse⟩ : ∃ q, Dsk.actE (faL (sel at_.disk L0 L1)) R Bn T S O p (sel at_.disk d0 d1) at_ = q := ⟨_, rfl⟩
        obtain ⟨p', hp'⟩ : ∃ q, Dsk.actP p (sel at_.disk d0 d1) at_ = q := ⟨_, rfl⟩
        obtain ⟨d0', hd0'⟩ : ∃ q, (if at_.disk = 0 then Dsk.actD (faL L0) R Bn T S O p d0 at_ else d0) = q := ⟨_, rfl⟩
        obtain ⟨d1', hd1'⟩ : ∃ q, (if at_.disk = 0 then d1 else Dsk.actD (faL L1) R Bn T S O p d1 at_) = q := ⟨_, rfl⟩
        have AA : Hid (∀ (Z : World → Dsk.Pw → Dsk.Dk → Dsk.Dk → Prop) (M : Nat) (ty : List TypeId) (c : World) (e : Ending) (c' : World), actAt Z M R Bn T S O ty L0 L1 p d0 d1 (Ac.act ⟨x0, x1, x2, x3, ua, un, uc, bs, x5⟩) c e c' → e = .returned (.tuple #[.string sb, .int .i64 se]) ∧ Z c' p' d0' d1' ∧ Tch (M : Zn) ty c c') := Lib.hid (by
          intro Z M ty c e c' hq
          rw [hat] at hq
          unfold actAt at hq
          rw [hsb, hse, hp', hd0', hd1'] at hq
          exact hq)
        have FIT2 : Hid (p'.fit (k + 1)) := Lib.hid (by rw [← hp', ← hat]; exact Dsk.fit_act FIT.out hok.2.2.2.1)
        have FEW0 : Hid (Dsk.Few d0' (k + 1)) := Lib.hid (by rw [← hd0']; exact few_act0 FW0.out)
        have FEW1 : Hid (Dsk.Few d1' (k + 1)) := Lib.hid (by rw [← hd1']; exact few_act1 FW1.out)
        have HV5 : Hid (∀ c, Below w.heap.size w c → Bs c (.slice ua un uc) bs) := Lib.hid fun c hc => hok.2.2.2.2.below hc
        clear hrg hok hy hat hsb hse hp' hd0' hd1' VN
        go_wp2_with fail
        refine wp_region_held (P := Tryz.prog) (S := (fun w' : World => Tch (N : Zn) tyD wr w')) rfl ?_
        change wpAnyH _ _ _ _ _ _ _ _ wr.drew
        have vhz2 : Below wr.heap.size wr wr.drew := (Below.refl wr.heap.size wr).drew
        generalize wr.drew = vwz1 at vhz2 ⊢
        have vHZ3 : Hid (Below wr.heap.size wr vwz1) := Lib.hid vhz2
        have vTT4 : Hid (Tch (N : Zn) tyD wr vwz1) := Lib.hid (Tch.of_below vHZ3.out (N : Zn) tyD)
        clear vhz2
        have vhS5 : (fun w' : World => Tch (N : Zn) tyD wr w') vwz1 := vTT4.out
        refine takeD (i := 0) (v := .agg #[.pointer (some ⟨P, 0, none⟩), .pointer (some ⟨D0, 0, none⟩), .pointer (some ⟨D1, 0, none⟩)]) (some 40) rfl rfl (by kernel_rfl) (by kernel_rfl) (by kernel_rfl) (fun _ _ _ h => h) (yieldsIf_load_mid (by rfl) _ _ rfl b13 0 rfl [.pointer (some ⟨P, 0, none⟩), .pointer (some ⟨D0, 0, none⟩), .pointer (some ⟨D1, 0, none⟩)] _ (fun w' h => row3c (Row.tch h XW.out (by decide))) Tryz.underlying35 rfl (by kernel_rfl)) vhS5 ?_
        simp only [Act.put, List.setIfInBounds_toArray, List.set_cons_zero, List.set_cons_succ]
        refine takeD (i := 1) (v := .pointer (some ⟨B0, 7, none⟩)) (some 41) rfl rfl (by kernel_rfl) (by kernel_rfl) (by kernel_rfl) (fun _ _ _ h => h) (Or.inl ⟨by rfl, by rintro w' -; go_simp⟩) vhS5 ?_
        simp only [Act.put, List.setIfInBounds_toArray, List.set_cons_zero, List.set_cons_succ]
        refine takeD (i := 2) (v := .slice (some ⟨b, off, none⟩) n ca) (some 42) rfl rfl (by kernel_rfl) (by kernel_rfl) (by kernel_rfl) (fun _ _ _ h => h) (Or.inl ⟨by rfl, by rintro w' h; have hc := (CBox.cells (CBox.tch CW.out h (by decide))).2.2.2; go_simp⟩) vhS5 ?_
        simp only [Act.put, List.setIfInBounds_toArray, List.set_cons_zero, List.set_cons_succ]
        refine takeD (i := 3) (v := .int .i64 (k : Int)) (some 43) rfl rfl (by kernel_rfl) (by kernel_rfl) (by kernel_rfl) (fun _ _ _ h => h) (Or.inl ⟨by rfl, by rintro w' -; go_simp⟩) vhS5 ?_
        simp only [Act.put, List.setIfInBounds_toArray, List.set_cons_zero, List.set_cons_succ]
        refine takeD (i := 4) (v := .pointer (some ⟨b, off + k * 6, none⟩)) (some 44) rfl rfl (by kernel_rfl) (by kernel_rfl) (by kernel_rfl) (fun _ _ _ h => h) (Or.inl ⟨by rfl, by rintro w' -; go_simp⟩) vhS5 ?_
        simp only [Act.put, List.setIfInBounds_toArray, List.set_cons_zero, List.set_cons_succ]
        refine takeD (i := 5) (v := .agg #[.int .u8 (x0 : Int), .int .u8 (x1 : Int), .int .u64 (x2 : Int), .int .i64 x3, .slice ua un uc, .bool x5]) (some 45) rfl rfl (by kernel_rfl) (by kernel_rfl) (by kernel_rfl) (fun _ _ _ h => h) (yieldsIf_load_mid (by rfl) _ _ rfl b (off + k * 6) rfl [.int .u8 (x0 : Int), .int .u8 (x1 : Int), .int .u64 (x2 : Int), .int .i64 x3, .slice ua un uc, .bool x5] _ (fun w' h => rng13 RGW.out (TW.out.trans ((Tch.below_ h NZ.out (fun k h => h)).mono NW.out))) Tryz.underlying49 rfl (by kernel_rfl)) vhS5 ?_
        simp only [Act.put, List.setIfInBounds_toArray, List.set_cons_zero, List.set_cons_succ]
        refine wpAnyH_ready (rs := [6]) (by kernel_rfl) (by simp) ?_
        refine AllReadyH.cons rfl (fun vK6 hvK6 => ?_) AllReadyH.nil
        have HvK6 := Lib.hid hvK6
        clear hvK6
        rw [if_pos (by rfl)]
        go_simp
        have DA := do_at (PW.out.fw vHZ3.out) (PSt.size (PW.out.fw vHZ3.out)) FIT.out k1000.out FW0.out FW1.out ⟨x0, x1, x2, x3, ua, un, uc, bs, x5⟩ OKY.out.1 (Nat.le_trans BL.out (by decide)) (fun c hc => HV5.out c ((TW.out.trans (vHZ3.out.mono TW.out.size)).trans (hc.mono NW.out)))
        unfold ptrN acs at DA
        refine DA.mono ?_
        clear DA
        intro e vx7 hq
        obtain ⟨rfl, hd, ht⟩ := AA.out _ _ _ _ _ _ hq
        have P6 := Lib.hid hd
        have T6 := Lib.hid ht
        clear hd ht hq
        have vTT8 : Hid (Tch (N : Zn) tyD wr vx7) := Lib.hid (vTT4.out.trans (T6.out))
        have vhS9 : (fun w' : World => Tch (N : Zn) tyD wr w') vx7 := vTT8.out
        refine HvK6.out _ _ vhS9 fun _ => ?_
        try simp only [Act.put, List.setIfInBounds_toArray, List.set_cons_zero, List.set_cons_succ]
        refine takeD (i := 7) (v := .tuple #[.string sb, .int .i64 se]) (some 39) rfl rfl (by kernel_rfl) (by kernel_rfl) (by kernel_rfl) (fun _ _ _ h => h) (Or.inl ⟨by rfl, by rintro w' -; go_simp⟩) vhS9 ?_
        simp only [Act.put, List.setIfInBounds_toArray, List.set_cons_zero, List.set_cons_succ]
        refine takeD (i := 8) (v := .string sb) (some 47) rfl rfl (by kernel_rfl) (by kernel_rfl) (by kernel_rfl) (fun _ _ _ h => h) (Or.inl ⟨by rfl, by rintro w' -; go_simp⟩) vhS9 ?_
        simp only [Act.put, List.setIfInBounds_toArray, List.set_cons_zero, List.set_cons_succ]
        refine takeD (i := 9) (v := .int .i64 se) (some 48) rfl rfl (by kernel_rfl) (by kernel_rfl) (by kernel_rfl) (fun _ _ _ h => h) (Or.inl ⟨by rfl, by rintro w' -; go_simp⟩) vhS9 ?_
        simp only [Act.put, List.setIfInBounds_toArray, List.set_cons_zero, List.set_cons_succ]
        refine takeD (i := 10) (v := .string sb) (some 8) rfl rfl (by kernel_rfl) (by kernel_rfl) (by kernel_rfl) (fun _ _ _ h => h) (Or.inl ⟨by rfl, by rintro w' -; go_simp⟩) vhS9 ?_
        simp only [Act.put, List.setIfInBounds_toArray, List.set_cons_zero, List.set_cons_succ]
        refine takeD (i := 11) (v := .int .i64 se) (some 9) rfl rfl (by kernel_rfl) (by kernel_rfl) (by kernel_rfl) (fun _ _ _ h => h) (Or.inl ⟨by rfl, by rintro w' -; go_simp⟩) vhS9 ?_
        simp only [Act.put, List.setIfInBounds_toArray, List.set_cons_zero, List.set_cons_succ]
        refine wpAnyH_done (by kernel_rfl) ?_ _
        have TT := Lib.hid (vTT8.out)
        have B6 := Lib.hid (TW.out.trans ((Tch.below_ TT.out NZ.out (fun k h => h)).mono NW.out))
        have C6 := Lib.hid (Row.tch TT.out CW.out (by decide))
        have X6 := Lib.hid (Row.tch TT.out XW.out (by decide))
        have Y6 := Lib.hid (Row.tch TT.out YW.out (by decide))
        have Q6 := Lib.hid (QW.out.prog TT.out)
        have KZ := Lib.hid (RSt.size Q6.out)
        clear c7
        have c7 := (CBox.cells C6.out).2.2.2
        go_wp2_with fail
        refine wp_region_held (P := Tryz.prog) (S := (fun w' : World => Tch (K : Zn) tyQ vx7 w')) rfl ?_
        change wpAnyH _ _ _ _ _ _ _ _ vx7.drew
        have zhz2 : Below vx7.heap.size vx7 vx7.drew := (Below.refl vx7.heap.size vx7).drew
        generalize vx7.drew = zwz1 at zhz2 ⊢
        have zHZ3 : Hid (Below vx7.heap.size vx7 zwz1) := Lib.hid zhz2
        have zTT4 : Hid (Tch (K : Zn) tyQ vx7 zwz1) := Lib.hid (Tch.of_below zHZ3.out (K : Zn) tyQ)
        clear zhz2
        have zhS5 : (fun w' : World => Tch (K : Zn) tyQ vx7 w') zwz1 := zTT4.out
        refine takeD (i := 0) (v := .pointer (some ⟨Q, 0, none⟩)) (some 50) rfl rfl (by kernel_rfl) (by kernel_rfl) (by kernel_rfl) (fun _ _ _ h => h) (Or.inl ⟨by rfl, by rintro w' -; go_simp⟩) zhS5 ?_
        simp only [Act.put, List.setIfInBounds_toArray, List.set_cons_zero, List.set_cons_succ]
        refine takeD (i := 1) (v := .agg #[.pointer (some ⟨E0, 0, none⟩), .pointer (some ⟨E1, 0, none⟩)]) (some 51) rfl rfl (by kernel_rfl) (by kernel_rfl) (by kernel_rfl) (fun _ _ _ h => h) (yieldsIf_load_mid (by rfl) _ _ rfl b25 0 rfl [.pointer (some ⟨E0, 0, none⟩), .pointer (some ⟨E1, 0, none⟩)] _ (fun w' h => row2c (Row.tch h Y6.out (by decide))) Tryz.underlying40 rfl (by kernel_rfl)) zhS5 ?_
        simp only [Act.put, List.setIfInBounds_toArray, List.set_cons_zero, List.set_cons_succ]
        refine takeD (i := 2) (v := .pointer (some ⟨B0, 7, none⟩)) (some 52) rfl rfl (by kernel_rfl) (by kernel_rfl) (by kernel_rfl) (fun _ _ _ h => h) (Or.inl ⟨by rfl, by rintro w' -; go_simp⟩) zhS5 ?_
        simp only [Act.put, List.setIfInBounds_toArray, List.set_cons_zero, List.set_cons_succ]
        refine takeD (i := 3) (v := .slice (some ⟨b, off, none⟩) n ca) (some 53) rfl rfl (by kernel_rfl) (by kernel_rfl) (by kernel_rfl) (fun _ _ _ h => h) (Or.inl ⟨by rfl, by rintro w' h; have hc := (CBox.cells (CBox.tch C6.out h (by decide))).2.2.2; go_simp⟩) zhS5 ?_
        simp only [Act.put, List.setIfInBounds_toArray, List.set_cons_zero, List.set_cons_succ]
        refine takeD (i := 4) (v := .int .i64 (k : Int)) (some 54) rfl rfl (by kernel_rfl) (by kernel_rfl) (by kernel_rfl) (fun _ _ _ h => h) (Or.inl ⟨by rfl, by rintro w' -; go_simp⟩) zhS5 ?_
        simp only [Act.put, List.setIfInBounds_toArray, List.set_cons_zero, List.set_cons_succ]
        refine takeD (i := 5) (v := .pointer (some ⟨b, off + k * 6, none⟩)) (some 55) rfl rfl (by kernel_rfl) (by kernel_rfl) (by kernel_rfl) (fun _ _ _ h => h) (Or.inl ⟨by rfl, by rintro w' -; go_simp⟩) zhS5 ?_
        simp only [Act.put, List.setIfInBounds_toArray, List.set_cons_zero, List.set_cons_succ]
        refine takeD (i := 6) (v := .agg #[.int .u8 (x0 : Int), .int .u8 (x1 : Int), .int .u64 (x2 : Int), .int .i64 x3, .slice ua un uc, .bool x5]) (some 56) rfl rfl (by kernel_rfl) (by kernel_rfl) (by kernel_rfl) (fun _ _ _ h => h) (yieldsIf_load_mid (by rfl) _ _ rfl b (off + k * 6) rfl [.int .u8 (x0 : Int), .int .u8 (x1 : Int), .int .u64 (x2 : Int), .int .i64 x3, .slice ua un uc, .bool x5] _ (fun w' h => rng13 RGW.out (B6.out.trans ((Tch.below_ h KZ.out (fun k h => h)).mono KW.out))) Tryz.underlying49 rfl (by kernel_rfl)) zhS5 ?_
        simp only [Act.put, List.setIfInBounds_toArray, List.set_cons_zero, List.set_cons_succ]
        refine wpAnyH_ready (rs := [7]) (by kernel_rfl) (by simp) ?_
        refine AllReadyH.cons rfl (fun zK6 hzK6 => ?_) AllReadyH.nil
        have HzK6 := Lib.hid hzK6
        clear hzK6
        rw [if_pos (by rfl)]
        go_simp
        have DA := want_at (Q6.out.fw zHZ3.out) (RSt.size (Q6.out.fw zHZ3.out)) FIT.out k1000.out FW0.out FW1.out ⟨x0, x1, x2, x3, ua, un, uc, bs, x5⟩ OKY.out.1 (Nat.le_trans BL.out (by decide)) (fun c hc => HV5.out c ((B6.out.trans (zHZ3.out.mono B6.out.size)).trans (hc.mono KW.out))) (some ⟨Q, 0, none⟩) (fun _ => rfl)
        unfold ptrN acs at DA
        refine DA.mono ?_
        clear DA
        intro e zx7 hq
        obtain ⟨rfl, hd, ht⟩ := AA.out _ _ _ _ _ _ hq
        have Q7 := Lib.hid hd
        have T7 := Lib.hid ht
        clear hd ht hq
        have zTT8 : Hid (Tch (K : Zn) tyQ vx7 zx7) := Lib.hid (zTT4.out.trans (T7.out))
        have zhS9 : (fun w' : World => Tch (K : Zn) tyQ vx7 w') zx7 := zTT8.out
        refine HzK6.out _ _ zhS9 fun _ => ?_
        try simp only [Act.put, List.setIfInBounds_toArray, List.set_cons_zero, List.set_cons_succ]
        refine takeD (i := 8) (v := .tuple #[.string sb, .int .i64 se]) (some 49) rfl rfl (by kernel_rfl) (by kernel_rfl) (by kernel_rfl) (fun _ _ _ h => h) (Or.inl ⟨by rfl, by rintro w' -; go_simp⟩) zhS9 ?_
        simp only [Act.put, List.setIfInBounds_toArray, List.set_cons_zero, List.set_cons_succ]
        refine takeD (i := 9) (v := .string sb) (some 58) rfl rfl (by kernel_rfl) (by kernel_rfl) (by kernel_rfl) (fun _ _ _ h => h) (Or.inl ⟨by rfl, by rintro w' -; go_simp⟩) zhS9 ?_
        simp only [Act.put, List.setIfInBounds_toArray, List.set_cons_zero, List.set_cons_succ]
        refine takeD (i := 10) (v := .int .i64 se) (some 59) rfl rfl (by kernel_rfl) (by kernel_rfl) (by kernel_rfl) (fun _ _ _ h => h) (Or.inl ⟨by rfl, by rintro w' -; go_simp⟩) zhS9 ?_
        simp only [Act.put, List.setIfInBounds_toArray, List.set_cons_zero, List.set_cons_succ]
        refine takeD (i := 11) (v := .string sb) (some 10) rfl rfl (by kernel_rfl) (by kernel_rfl) (by kernel_rfl) (fun _ _ _ h => h) (Or.inl ⟨by rfl, by rintro w' -; go_simp⟩) zhS9 ?_
        simp only [Act.put, List.setIfInBounds_toArray, List.set_cons_zero, List.set_cons_succ]
        refine takeD (i := 12) (v := .int .i64 se) (some 11) rfl rfl (by kernel_rfl) (by kernel_rfl) (by kernel_rfl) (fun _ _ _ h => h) (Or.inl ⟨by rfl, by rintro w' -; go_simp⟩) zhS9 ?_
        simp only [Act.put, List.setIfInBounds_toArray, List.set_cons_zero, List.set_cons_succ]
        refine wpAnyH_done (by kernel_rfl) ?_ _
        have TU := Lib.hid (zTT8.out)
        have B7 := Lib.hid (B6.out.trans ((Tch.below_ TU.out KZ.out (fun k h => h)).mono KW.out))
        have C7 := Lib.hid (Row.tch TU.out C6.out (by decide))
        have X7 := Lib.hid (Row.tch TU.out X6.out (by decide))
        have Y7 := Lib.hid (Row.tch TU.out Y6.out (by decide))
        have P7 := Lib.hid (P6.out.ref TU.out)
        clear c7
        obtain ⟨k0, k1, k2⟩ := row3 X7.out
        have q0 := Q7.out.pw.cells.1
        have OF := Lib.hid (fun m => Calls.quiet_of_same ((poff_any (P7.out.pw.fw (below_dn zx7 m))).mono fun _ _ h => ⟨h.1, h.2.symm⟩))
        obtain ⟨of_, hof⟩ : ∃ q, p'.off = q := ⟨_, rfl⟩
        rw [hof] at q0 OF
        clear hof
        go_wp2_with fail
        go_quiet ((go_at_call 11; exact OF.out _))
        generalize hw9 : zx7.drewN _ = w9
        have hb9 : Below zx7.heap.size zx7 w9 := by rw [← hw9]; exact below_dn _ _
        have B9 := Lib.hid (B7.out.trans (hb9.mono B7.out.size))
        have C9 := Lib.hid (Row.go C7.out hb9)
        have X9 := Lib.hid (Row.go X7.out hb9)
        have Y9 := Lib.hid (Row.go Y7.out hb9)
        have P9 := Lib.hid (P7.out.fw hb9)
        have Q9 := Lib.hid (Q7.out.fw hb9)
        clear hw9 hb9 k0 k1 k2 q0
        go_wp2_with fail
        go_roundw
        case rel => exact ⟨k + 1, p', d0', d1', by omega, by go_num, Lib.hid ⟨C9.out, X9.out, Y9.out, P9.out, Q9.out, B9.out⟩, Lib.hid ⟨FIT2.out, FEW0.out, FEW1.out⟩⟩
        case measure => simp [intOf]; omega
      · obtain rfl : k = n := by omega
        have kI : ¬ (k : Int) < (k : Int) := by omega
        have dk : decide ((k : Int) < (k : Int)) = false := decide_eq_false kI
        obtain ⟨k0, k1, k2⟩ := row3 XW.out
        obtain ⟨j0, j1⟩ := row2 YW.out
        have SM : Hid (∀ c, Below wr.heap.size wr c → Calls Tryz.prog 12 #[.pointer (some ⟨D0, 0, none⟩), .pointer (some ⟨E0, 0, none⟩)] c (gPost (.bool true) c) ∧ Calls Tryz.prog 12 #[.pointer (some ⟨D1, 0, none⟩), .pointer (some ⟨E1, 0, none⟩)] c (gPost (.bool true) c)) := Lib.hid fun c hc => by
          obtain ⟨A, ha⟩ := (PW.out.fw hc).fst
          obtain ⟨B, hb⟩ := (QW.out.fw hc).fst
          obtain ⟨A', ha'⟩ := (PW.out.fw hc).snd
          obtain ⟨B', hb'⟩ := (QW.out.fw hc).snd
          exact ⟨same14_any ha hb, same14_any ha' hb'⟩
        clear VN
        go_wp2_with fail
        refine (SM.out _ (Below.refl _ _)).1.mono ?_
        rintro e y1 ⟨rfl, hb⟩
        have S2 := Lib.hid (SM.out _ hb).2
        have B1 := Lib.hid (TW.out.trans (hb.mono TW.out.size))
        obtain ⟨k0, k1, k2⟩ := row3 (Row.go XW.out hb)
        obtain ⟨j0, j1⟩ := row2 (Row.go YW.out hb)
        clear hb SM
        go_wp2_with fail
        refine S2.out.mono ?_
        rintro e y2 ⟨rfl, hb⟩
        have B2 := Lib.hid (B1.out.trans (hb.mono B1.out.size))
        clear hb S2
        go_wp2_with fail
        go_ret
        exact ⟨rfl, B2.out⟩
end Go.Proofs.YtdjjihppaobbcaaGreat

