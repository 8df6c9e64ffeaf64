/- Layer 14: walk of the law DiskDies. WRITTEN BY gen_Dqi.py. -/
import Derived.Test.YtdjjihppaobbcaaGreatDqg
namespace Go.Proofs.YtdjjihppaobbcaaGreat
open Go Go.RowKit Med Flt
set_option linter.unusedVariables false
set_option linter.unusedSimpArgs false
theorem Dsk.fit_do {p : Dsk.Pw} {d : Dsk.Dk} {a : Dsk.Act} {n : Nat} (h : p.fit n) (hk : a.kind < 4) : (Dsk.actP p d a).fit (n + 1) := by
  unfold Dsk.actP
  rw [if_pos hk]
  unfold Dsk.beP
  split
  · exact Dsk.fit_call h
  · exact Dsk.fit_mono h (by omega)
theorem PSt.kill {N : Nat} {w : World} {P D0 D1 R Bn T S O : Nat} {L0 L1 : List F} {p : Dsk.Pw} {d0 d1 : Dsk.Dk} (h : PSt N w P D0 D1 R Bn T S O L0 L1 p d0 d1) :
    Calls Tryz.prog 13 #[.pointer (some ⟨D0, 0, none⟩)] w (fun e w' => (∃ u, e = .returned u) ∧ PSt N w' P D0 D1 R Bn T S O L0 L1 p { d0 with dead := true } d1 ∧ Tch (N : Zn) tyD w w') := by
  obtain ⟨B, hB, hT, hP, hd, hq⟩ := h.open0 h.size
  refine (pkill_any hd h.pw hP).mono ?_
  rintro e w' ⟨hu, hd', hp', ht⟩
  exact ⟨hu, hq _ _ _ hd' hp' ht, ht.mono hB fun _ h => h⟩
theorem RSt.kill {N : Nat} {w : World} {P D0 D1 R Bn T S O : Nat} {L0 L1 : List F} {p : Dsk.Pw} {d0 d1 : Dsk.Dk} (h : RSt N w P D0 D1 R Bn T S O L0 L1 p d0 d1) :
    (w.cell? ⟨D0, 9, none⟩ = some (.bool d0.dead) ∧ w.frozen? ⟨D0, 9, none⟩ = false) ∧ RSt N (w.setCell ⟨D0, 9, none⟩ (.bool true)) P D0 D1 R Bn T S O L0 L1 p { d0 with dead := true } d1 ∧ Tch (N : Zn) tyQ w (w.setCell ⟨D0, 9, none⟩ (.bool true)) := by
  obtain ⟨B, hB, hT, hP, hd, hq⟩ := h.open0 h.size
  obtain ⟨K, v, q0⟩ := hd.start h.pw hP (Tch.refl B tyQ _)
  have a9 := q0.row.cells.1.2.2.2.2
  have f9 := Row.frozen q0.row 9
  obtain ⟨x1, x2, x3⟩ := (q0.put (d' := { d0 with dead := true }) 9 (.bool true) rfl).fin rfl rfl
  exact ⟨⟨a9, f9⟩, hq _ _ _ x1 x2 x3, x3.mono hB fun _ h => h⟩
theorem PSt.dead0 {N : Nat} {w : World} {P D0 D1 R Bn T S O : Nat} {L0 L1 : List F} {p : Dsk.Pw} {d0 d1 : Dsk.Dk} (h : PSt N w P D0 D1 R Bn T S O L0 L1 p d0 d1) (hd : d0.dead = true) :
    Calls Tryz.prog 15 #[.pointer (some ⟨D0, 0, none⟩)] w (qPost (.bool true) w) := by
  obtain ⟨A, h0⟩ := h.fst
  have := pdead_any (p := p) h0
  rw [hd] at this
  exact this
theorem acq_dead {p : Dsk.Pw} {d : Dsk.Dk} (h : d.dead = true) (key : Nat) : Dsk.acqE p d = 14 ∧ Dsk.acqD p d key = d := by
  have e : Dsk.acqE p d = 14 := by unfold Dsk.acqE; rw [if_pos h]
  exact ⟨e, by unfold Dsk.acqD; rw [e]; rfl⟩
theorem res_dead {p : Dsk.Pw} {d : Dsk.Dk} {R Bn T S O : Nat} (h : d.dead = true) (keep : Int) : Dsk.resE p d = 14 ∧ Dsk.resD R Bn T S O p d keep = d := by
  have e : Dsk.resE p d = 14 := by unfold Dsk.resE; rw [if_pos h]
  exact ⟨e, by unfold Dsk.resD; rw [e]; rfl⟩
theorem PSt.acq0 {N : Nat} {w : World} {P D0 D1 R Bn T S O : Nat} {L0 L1 : List F} {p : Dsk.Pw} {d0 d1 : Dsk.Dk} (h : PSt N w P D0 D1 R Bn T S O L0 L1 p d0 d1) (hd : d0.dead = true) (key : Nat) :
    Calls Tryz.prog 16 #[.pointer (some ⟨D0, 0, none⟩), .int .u64 (key : Int)] w (fun e w' => e = .returned (.int .i64 14) ∧ PSt N w' P D0 D1 R Bn T S O L0 L1 p d0 d1 ∧ Tch (N : Zn) tyD w w') :=
  h.call0 fun B hT hP h0 hp => by
    have := pacq_any h0 hp hP key
    rw [(acq_dead hd key).1, (acq_dead hd key).2] at this
    exact this
theorem PSt.res0 {N : Nat} {w : World} {P D0 D1 R Bn T S O : Nat} {L0 L1 : List F} {p : Dsk.Pw} {d0 d1 : Dsk.Dk} (h : PSt N w P D0 D1 R Bn T S O L0 L1 p d0 d1) (hd : d0.dead = true) (keep : Int) :
    Calls Tryz.prog 17 #[.pointer (some ⟨D0, 0, none⟩), .int .i64 keep] w (fun e w' => e = .returned (.int .i64 14) ∧ PSt N w' P D0 D1 R Bn T S O L0 L1 p d0 d1 ∧ Tch (N : Zn) tyD w w') :=
  h.call0 fun B hT hP h0 hp => by
    have := prs14_any h0 hp hP hT keep
    rw [(res_dead (p := p) (R := R) (Bn := Bn) (T := T) (S := S) (O := O) hd keep).1, (res_dead (p := p) (R := R) (Bn := Bn) (T := T) (S := S) (O := O) hd keep).2] at this
    exact this
set_option maxHeartbeats 4000000 in
set_option maxRecDepth 100000 in
theorem dies14_walk (r b t s o : Int) (v0 v1 va : Value) (L0 L1 : List F) (L : List Ac)  (w : World) (h0 : Fts w v0 L0) (h1 : Fts w v1 L1) (h : Acl w va L)  : Calls Tryz.prog 4 #[.agg (csc r b t s o v0 v1 va)] w (lawPost w) := by
  obtain ⟨A0, c0_, rfl⟩ := h0.form
  obtain ⟨A1, c1_, rfl⟩ := h1.form
  obtain ⟨Aa, ca, rfl⟩ := h.form
  have HO := Lib.hid h
  have H0 := Lib.hid h0
  have H1 := Lib.hid h1
  obtain ⟨n, hn⟩ : ∃ n, L.length = n := ⟨_, rfl⟩
  obtain ⟨n0, hn0⟩ : ∃ n, L0.length = n := ⟨_, rfl⟩
  obtain ⟨n1, hn1⟩ : ∃ n, L1.length = n := ⟨_, rfl⟩
  have EN := Lib.hid hn
  rw [hn] at HO ⊢
  rw [hn0] at H0 ⊢
  rw [hn1] at H1 ⊢
  unfold csc
  obtain ⟨B0, hB0⟩ : ∃ B, w.heap.size = B := ⟨_, rfl⟩
  obtain ⟨W0, hW0⟩ : ∃ W, w.alloc (.cells #[.int .i64 r, .int .i64 b, .int .i64 t, .int .i64 s, .int .i64 o, .slice A0 n0 c0_, .slice A1 n1 c1_, .slice Aa n ca] 28) = W := ⟨_, rfl⟩
  have T0 : Hid (Below w.heap.size w W0) := Lib.hid (by subst hW0; exact (Below.refl _ _).alloc (Nat.le_refl _) _)
  have C0 : Hid (CBox W0 B0 r b t s o (.slice A0 n0 c0_) (.slice A1 n1 c1_) (.slice Aa n ca)) := Lib.hid (by subst hW0; exact gr_new w _ _ hB0)
  have HB0 := Lib.hid hB0
  have HW0 := Lib.hid hW0
  clear hB0 hW0 h h0 h1 hn hn0 hn1
  go_enter Tryz.func4, Tryz.ntmps4
  go_wp2_with (first | rw [HB0.out] | rw [HW0.out])
  refine (awake14 _).mono ?_
  rintro e x1 ⟨rfl, hb⟩
  have C_2 := Lib.hid (Row.go C0.out (hb))
  have hl3 := hb
  have HT_4 : Hid (Below w.heap.size w x1) := Lib.hid (T0.out.trans ((hl3).mono T0.out.size))
  clear hb
  obtain ⟨⟨c0, c1, c2, c3, c4⟩, c5, c6, c7⟩ := CBox.cells C_2.out
  go_wp2_with fail
  clear c0 c1 c2 c3 c4 c5 c6 c7
  refine (fair14_any r b t s o _ _ _ L0 L1 L _ (H0.out.fw HT_4.out) (H1.out.fw HT_4.out) (HO.out.fw HT_4.out)).mono ?_
  rintro e x5 ⟨bb, rfl, hf, hb⟩
  have C_6 := Lib.hid (Row.go C_2.out (hb))
  have hl7 := hb
  have HT_8 : Hid (Below w.heap.size w x5) := Lib.hid (HT_4.out.trans ((hl7).mono HT_4.out.size))
  clear hb
  cases bb with
  | false =>
    clear hf
    go_wp2_with fail
    refine (awake14 _).mono ?_
    rintro e x9 ⟨rfl, hb⟩
    have C_10 := Lib.hid (Row.go C_6.out (hb))
    have hl11 := hb
    have HT_12 : Hid (Below w.heap.size w x9) := Lib.hid (HT_8.out.trans ((hl11).mono HT_8.out.size))
    clear hb
    go_wp2_with fail
    go_ret
    exact ⟨rfl, HT_12.out⟩
  | true =>
    have FA := Lib.hid (hf rfl)
    clear hf
    obtain ⟨R, Bn, T, S, O, rfl, rfl, rfl, rfl, rfl⟩ := FA.out.nat
    have HV := Lib.hid FA.out.1
    obtain ⟨⟨c0, c1, c2, c3, c4⟩, c5, c6, c7⟩ := CBox.cells C_6.out
    go_wp2_with fail
    clear c0 c1 c2 c3 c4 c5 c6 c7
    obtain ⟨N, hN⟩ : ∃ N, x5.heap.size = N := ⟨_, rfl⟩
    have NW := Lib.hid (show w.heap.size ≤ N from by rw [← hN]; exact HT_8.out.size)
    have ST := start14_any (va := .slice Aa n ca) HV.out (H0.out.fw HT_8.out) (H1.out.fw HT_8.out) FA.out.2.2.2.2.2.2.1 FA.out.2.2.2.2.2.2.2 FA.out.2.2.2.1 FA.out.2.2.2.2.1
    unfold csc st14 at ST
    rw [hN] at ST
    refine ST.mono ?_
    clear ST
    rintro e x9 ⟨P, D0, D1, rfl, hs, hb⟩
    have PS0 := Lib.hid hs
    have hb2 : Below x5.heap.size x5 x9 := hN ▸ hb
    have C_10 := Lib.hid (Row.go C_6.out (hb2))
    have hl11 := hb2
    have HT_12 : Hid (Below w.heap.size w x9) := Lib.hid (HT_8.out.trans ((hl11).mono HT_8.out.size))
    have NS := Lib.hid (show N ≤ x9.heap.size from Nat.le_trans (Nat.le_of_eq hN.symm) hb2.size)
    clear hs hb hb2 hN
    unfold ptrN at *
    obtain ⟨b13, hb13⟩ : ∃ b, x9.heap.size = b := ⟨_, rfl⟩
    obtain ⟨W14, hW14⟩ : ∃ W, x9.alloc (.cells #[.pointer (some ⟨P, 0, none⟩), .pointer (some ⟨D0, 0, none⟩), .pointer (some ⟨D1, 0, none⟩)] 35) = W := ⟨_, rfl⟩
    have hb3 : Below x9.heap.size x9 W14 := by subst hW14; exact (Below.refl _ _).alloc (Nat.le_refl _) _
    have RX : Hid (Row W14 b13 35 #[.pointer (some ⟨P, 0, none⟩), .pointer (some ⟨D0, 0, none⟩), .pointer (some ⟨D1, 0, none⟩)]) := Lib.hid (by subst hW14; exact gr_new x9 _ _ hb13)
    have HX1 := Lib.hid hb13
    have HX2 := Lib.hid hW14
    have NX := Lib.hid (show N ≤ b13 by have := NS.out; omega)
    have C_15 := Lib.hid (Row.go C_10.out (hb3))
    have P_16 := Lib.hid (PSt.fw PS0.out (hb3))
    have hl17 := hb3
    have HT_18 : Hid (Below w.heap.size w W14) := Lib.hid (HT_12.out.trans ((hl17).mono HT_12.out.size))
    clear hb3 hb13 hW14
    obtain ⟨⟨c0, c1, c2, c3, c4⟩, c5, c6, c7⟩ := CBox.cells C_15.out
    go_wp2_with (first | rw [HX2.out, HX1.out])
    clear c0 c1 c2 c3 c4 c5 c6 c7
    obtain ⟨K, hK⟩ : ∃ K, W14.heap.size = K := ⟨_, rfl⟩
    have KW := Lib.hid (show w.heap.size ≤ K from by rw [← hK]; exact HT_18.out.size)
    have ST := begin14_any (va := .slice Aa n ca) HV.out (H0.out.fw HT_18.out) (H1.out.fw HT_18.out) FA.out.2.2.2.2.2.2.1 FA.out.2.2.2.2.2.2.2 FA.out.2.2.2.1 FA.out.2.2.2.2.1
    unfold csc bg14 at ST
    rw [hK] at ST
    refine ST.mono ?_
    clear ST
    rintro e x19 ⟨Q, E0, E1, rfl, hs, hb⟩
    have RS0 := Lib.hid hs
    have hb2 : Below W14.heap.size W14 x19 := hK ▸ hb
    have C_20 := Lib.hid (Row.go C_15.out (hb2))
    have P_21 := Lib.hid (PSt.fw P_16.out (hb2))
    have X_22 := Lib.hid (Row.go RX.out (hb2))
    have hl23 := hb2
    have HT_24 : Hid (Below w.heap.size w x19) := Lib.hid (HT_18.out.trans ((hl23).mono HT_18.out.size))
    clear hs hb hb2 hK
    unfold ptrN at *
    obtain ⟨b25, hb25⟩ : ∃ b, x19.heap.size = b := ⟨_, rfl⟩
    obtain ⟨W26, hW26⟩ : ∃ W, x19.alloc (.cells #[.pointer (some ⟨E0, 0, none⟩), .pointer (some ⟨E1, 0, none⟩)] 40) = W := ⟨_, rfl⟩
    have hb3 : Below x19.heap.size x19 W26 := by subst hW26; exact (Below.refl _ _).alloc (Nat.le_refl _) _
    have RY : Hid (Row W26 b25 40 #[.pointer (some ⟨E0, 0, none⟩), .pointer (some ⟨E1, 0, none⟩)]) := Lib.hid (by subst hW26; exact gr_new x19 _ _ hb25)
    have HY1 := Lib.hid hb25
    have HY2 := Lib.hid hW26
    have C_27 := Lib.hid (Row.go C_20.out (hb3))
    have P_28 := Lib.hid (PSt.fw P_21.out (hb3))
    have X_29 := Lib.hid (Row.go X_22.out (hb3))
    have Q_30 := Lib.hid (RSt.fw RS0.out (hb3))
    have hl31 := hb3
    have HT_32 : Hid (Below w.heap.size w W26) := Lib.hid (HT_24.out.trans ((hl31).mono HT_24.out.size))
    clear hb3 hb25 hW26
    obtain ⟨k0, k1, k2⟩ := row3 X_29.out
    have NZ := Lib.hid (PSt.size P_28.out)
    go_wp2_with (first | rw [HY2.out, HY1.out])
    refine (PSt.kill P_28.out).mono ?_
    rintro e x33 ⟨⟨uu, rfl⟩, hd, ht⟩
    have PK := Lib.hid hd
    have C_35 := Lib.hid (Row.tch ht C_27.out (by decide))
    have X_36 := Lib.hid (Row.tch ht X_29.out (by decide))
    have Q_37 := Lib.hid (Q_30.out.prog ht)
    have Y_38 := Lib.hid (Row.tch ht RY.out (by decide))
    have HT_34 : Hid (Below w.heap.size w x33) := Lib.hid (HT_32.out.trans ((Tch.below_ ht NZ.out (fun k h => h)).mono NW.out))
    clear hd ht k0 k1 k2 NZ
    obtain ⟨j0, j1⟩ := row2 Y_38.out
    obtain ⟨⟨z9, f9⟩, hq, ht⟩ := RSt.kill Q_37.out
    have KZ := Lib.hid (RSt.size Q_37.out)
    obtain ⟨W9, hW9⟩ : ∃ W, x33.setCell ⟨E0, 9, none⟩ (.bool true) = W := ⟨_, rfl⟩
    have HW9 := Lib.hid hW9
    rw [hW9] at hq ht
    have QK := Lib.hid hq
    clear hW9
    have Ck39 := Lib.hid (Row.tch ht C_35.out (by decide))
    have Xk40 := Lib.hid (Row.tch ht X_36.out (by decide))
    have Yk42 := Lib.hid (Row.tch ht Y_38.out (by decide))
    have Pk43 := Lib.hid (PK.out.ref ht)
    have TK9 : Hid (Below w.heap.size w W9) := Lib.hid (HT_34.out.trans ((Tch.below_ ht KZ.out (fun k h => h)).mono KW.out))
    clear hq ht
    obtain ⟨⟨c0, c1, c2, c3, c4⟩, c5, c6, c7⟩ := CBox.cells Ck39.out
    clear c0 c1 c2 c3 c4 c5 c6
    go_wp2_with (first | rw [HW9.out])
    clear c7 j0 j1 z9 f9 KZ
    refine (only_any _ L _ (HO.out.fw TK9.out) (by have := FA.out.2.2.1; omega)).mono ?_
    rintro e x44 ⟨v, rfl, ho, hb⟩
    have NZ := Lib.hid (PSt.size Pk43.out)
    have OA0 : Hid (OwA N x44 v (Ac.only L)) := Lib.hid (St.Ow.low ho NZ.out)
    have C_45 := Lib.hid (Row.go Ck39.out (hb))
    have X_46 := Lib.hid (Row.go Xk40.out (hb))
    have Q_47 := Lib.hid (RSt.fw QK.out (hb))
    have Y_48 := Lib.hid (Row.go Yk42.out (hb))
    have P_49 := Lib.hid (PSt.fw Pk43.out (hb))
    have hl50 := hb
    have HT_51 : Hid (Below w.heap.size w x44) := Lib.hid (TK9.out.trans ((hl50).mono TK9.out.size))
    have OK0 := Lib.hid (OkM.of_only HO.out.2 FA.out.2.2.2.2.2.1)
    have ML := Lib.hid (show (Ac.only L).length ≤ 60 from Nat.le_trans (Ac.only_len L) FA.out.2.2.1)
    clear ho hb NZ
    obtain ⟨M, hM⟩ : ∃ M, Ac.only L = M := ⟨_, rfl⟩
    rw [hM] at OK0 ML OA0
    clear hM
    obtain ⟨m, hm⟩ : ∃ m, M.length = m := ⟨_, rfl⟩
    have EM := Lib.hid hm
    rw [hm] at ML
    clear hm
    obtain ⟨Av, cv, rfl⟩ : ∃ A c, v = .slice A m c := by obtain ⟨A, c, e⟩ := St.Ow.form acs_enc OA0.out; exact ⟨A, c, by rw [e, EM.out]⟩
    have POS := Lib.hid (FA.out.2.2.1)
    have BYM := Lib.hid ML.out
    go_wp2_with fail
    go_loopw [8] (fun i wr => ∃ (k : Nat) (p : Dsk.Pw) (d0 d1 : Dsk.Dk), k ≤ m ∧ i = .int .i64 (k : Int) ∧ Hid (CBox wr B0 R Bn T S O (.slice A0 n0 c0_) (.slice A1 n1 c1_) (.slice Aa n ca) ∧ Row wr b13 35 #[.pointer (some ⟨P, 0, none⟩), .pointer (some ⟨D0, 0, none⟩), .pointer (some ⟨D1, 0, none⟩)] ∧ Row wr b25 40 #[.pointer (some ⟨E0, 0, none⟩), .pointer (some ⟨E1, 0, none⟩)] ∧ PSt N wr P D0 D1 R Bn T S O L0 L1 p d0 d1 ∧ RSt K wr Q E0 E1 R Bn T S O L0 L1 p d0 d1 ∧ OwA N wr (.slice Av m cv) M ∧ Below w.heap.size w wr) ∧ Hid (p.fit k ∧ Dsk.Few d0 k ∧ Dsk.Few d1 k ∧ d0.dead = true)) (fun i _ => m - (intOf i).toNat)
    case atStart => exact ⟨0, Dsk.Pw.new, { (Dsk.Dk.new (List.replicate (R + Bn * (T * S)) Med.blank) Dsk.Pw.new) with dead := true }, (Dsk.Dk.new (List.replicate (R + Bn * (T * S)) Med.blank) Dsk.Pw.new), Nat.zero_le _, rfl, Lib.hid ⟨C_45.out, X_46.out, Y_48.out, P_49.out, Q_47.out, OA0.out, HT_51.out⟩, Lib.hid ⟨fit_new, few_new (List.replicate (R + Bn * (T * S)) Med.blank) Dsk.Pw.new 0, few_new _ _ 0, rfl⟩⟩
    case round =>
      obtain ⟨k, p, d0, d1, hk, rfl, V, VN⟩ := hrel
      have nb := ML.out
      have CW := Lib.hid V.out.1
      have XW := Lib.hid V.out.2.1
      have YW := Lib.hid V.out.2.2.1
      have PW := Lib.hid V.out.2.2.2.1
      have QW := Lib.hid V.out.2.2.2.2.1
      have OW := Lib.hid V.out.2.2.2.2.2.1
      have TW := Lib.hid V.out.2.2.2.2.2.2
      clear V
      by_cases hlt : k < m
      · have kI : (k : Int) < (m : Int) := by omega
        have hk2 : k < M.length := by rw [EM.out]; exact hlt
        obtain ⟨g, cap, hv⟩ := ow_some OW.out hk2
        injection hv with hv1 hv2 hv3
        subst hv1
        clear hv3 hv2
        obtain ⟨y, hy⟩ : ∃ y, M[k] = y := ⟨_, rfl⟩
        have OKY := Lib.hid (hy ▸ OK0.out _ (List.getElem_mem hk2))
        have RGW : Hid (∀ w', OwA N w' (.slice (some ⟨g, 0, none⟩) m cv) M → w'.rangeAt g (k * 6) (acs y)) := Lib.hid fun w' ho => by
          have := ow_rng ho hlt hk2
          rw [hy] at this
          exact this
        obtain ⟨x0, x1, x2, x3, ua, un, uc, bs, x5⟩ := y
        have NZ := Lib.hid (PSt.size PW.out)
        have FIT := Lib.hid VN.out.1
        have FW0 := Lib.hid VN.out.2.1
        have FW1 := Lib.hid VN.out.2.2.1
        have k1000 := Lib.hid (show k < 1000 by omega)
        obtain ⟨at_, hat⟩ : ∃ q : Dsk.Act, Ac.act ⟨x0, x1, x2, x3, ua, un, uc, bs, x5⟩ = q := ⟨_, rfl⟩
        have AK : at_.kind < 4 := by rw [← hat]; show x1 < 4; have := OKY.out.2.1; exact Nat.lt_succ_of_le this
        obtain ⟨sb, hsb⟩ : ∃ q, Dsk.actB (faL (sel at_.disk L0 L1)) R Bn T S O p (sel at_.disk d0 d1) at_ = q := ⟨_, rfl⟩
        obtain ⟨se, hse⟩ : ∃ q, Dsk.actE (faL (sel at_.disk L0 L1)) R Bn T S O p (sel at_.disk d0 d1) at_ = q := ⟨_, rfl⟩
        have SE : x0 % 2 = 0 → se = 14 := fun e => by
          have ed : at_.disk = 0 := by rw [← hat]; exact e
          rw [← hse]
          unfold sel
          rw [if_pos ed, if_pos ed]
          exact (Dsk.act_dead _ _ _ _ _ _ AK VN.out.2.2.2).1
        obtain ⟨p', hp'⟩ : ∃ q, Dsk.actP p (sel at_.disk d0 d1) at_ = q := ⟨_, rfl⟩
        obtain ⟨d0', hd0'⟩ : ∃ q, (if at_.disk = 0 then Dsk.actD (faL L0) R Bn T S O p d0 at_ else d0) = q := ⟨_, rfl⟩
        obtain ⟨d1', hd1'⟩ : ∃ q, (if at_.disk = 0 then d1 else Dsk.actD (faL L1) R Bn T S O p d1 at_) = q := ⟨_, rfl⟩
        have DEAD : Hid (d0'.dead = true) := Lib.hid (by
          rw [← hd0']
          split
          · rw [(Dsk.act_dead _ _ _ _ _ _ AK VN.out.2.2.2).2.2.1]; exact VN.out.2.2.2
          · exact VN.out.2.2.2)
        have AA : Hid (∀ (Z : World → Dsk.Pw → Dsk.Dk → Dsk.Dk → Prop) (M : Nat) (ty : List TypeId) (c : World) (e : Ending) (c' : World), actAt Z M R Bn T S O ty L0 L1 p d0 d1 (Ac.act ⟨x0, x1, x2, x3, ua, un, uc, bs, x5⟩) c e c' → e = .returned (.tuple #[.string sb, .int .i64 se]) ∧ Z c' p' d0' d1' ∧ Tch (M : Zn) ty c c') := Lib.hid (by
          intro Z M ty c e c' hq
          rw [hat] at hq
          unfold actAt at hq
          rw [hsb, hse, hp', hd0', hd1'] at hq
          exact hq)
        have FIT2 : Hid (p'.fit (k + 1)) := Lib.hid (by rw [← hp']; exact Dsk.fit_do FIT.out AK)
        have FEW0 : Hid (Dsk.Few d0' (k + 1)) := Lib.hid (by rw [← hd0']; exact few_act0 FW0.out)
        have FEW1 : Hid (Dsk.Few d1' (k + 1)) := Lib.hid (by rw [← hd1']; exact few_act1 FW1.out)
        have HV5 : Hid (∀ c, Below w.heap.size w c → Bs c (.slice ua un uc) bs) := Lib.hid fun c hc => OKY.out.2.2.2.2.below hc
        have HSE := Lib.hid SE
        obtain ⟨sp, hsp⟩ : ∃ q, x0 % 2 = q := ⟨_, rfl⟩
        have hsI : ((x0 : Int)).tmod 2 = (sp : Int) := by rw [Int.tmod_eq_emod_of_nonneg (by omega)]; omega
        have hsJ : (x0 : Int) % 2 = (sp : Int) := by omega
        have HSP := Lib.hid hsp
        have e1 : (se == se) = true := by simp
        have e2 : (se != se) = false := by simp
        have e3 : decide (se = se) = true := by simp
        clear hy hat hsb hse hp' hd0' hd1' VN SE AK hsp
        go_wp2_with fail
        refine wp_region_held (P := Tryz.prog) (S := (fun w' : World => Tch (N : Zn) tyD wr w')) rfl ?_
        change wpAnyH _ _ _ _ _ _ _ _ wr.drew
        have vhz2 : Below wr.heap.size wr wr.drew := (Below.refl wr.heap.size wr).drew
        generalize wr.drew = vwz1 at vhz2 ⊢
        have vHZ3 : Hid (Below wr.heap.size wr vwz1) := Lib.hid vhz2
        have vTT4 : Hid (Tch (N : Zn) tyD wr vwz1) := Lib.hid (Tch.of_below vHZ3.out (N : Zn) tyD)
        clear vhz2
        have vhS5 : (fun w' : World => Tch (N : Zn) tyD wr w') vwz1 := vTT4.out
        refine takeD (i := 0) (v := .agg #[.pointer (some ⟨P, 0, none⟩), .pointer (some ⟨D0, 0, none⟩), .pointer (some ⟨D1, 0, none⟩)]) (some 51) rfl rfl (by kernel_rfl) (by kernel_rfl) (by kernel_rfl) (fun _ _ _ h => h) (yieldsIf_load_mid (by rfl) _ _ rfl b13 0 rfl [.pointer (some ⟨P, 0, none⟩), .pointer (some ⟨D0, 0, none⟩), .pointer (some ⟨D1, 0, none⟩)] _ (fun w' h => row3c (Row.tch h XW.out (by decide))) Tryz.underlying35 rfl (by kernel_rfl)) vhS5 ?_
        simp only [Act.put, List.setIfInBounds_toArray, List.set_cons_zero, List.set_cons_succ]
        refine takeD (i := 1) (v := .slice (some ⟨g, 0, none⟩) m cv) (some 52) rfl rfl (by kernel_rfl) (by kernel_rfl) (by kernel_rfl) (fun _ _ _ h => h) (Or.inl ⟨by rfl, by rintro w' -; go_simp⟩) vhS5 ?_
        simp only [Act.put, List.setIfInBounds_toArray, List.set_cons_zero, List.set_cons_succ]
        refine takeD (i := 2) (v := .int .i64 (k : Int)) (some 53) rfl rfl (by kernel_rfl) (by kernel_rfl) (by kernel_rfl) (fun _ _ _ h => h) (Or.inl ⟨by rfl, by rintro w' -; go_simp⟩) vhS5 ?_
        simp only [Act.put, List.setIfInBounds_toArray, List.set_cons_zero, List.set_cons_succ]
        refine takeD (i := 3) (v := .pointer (some ⟨g, k * 6, none⟩)) (some 54) rfl rfl (by kernel_rfl) (by kernel_rfl) (by kernel_rfl) (fun _ _ _ h => h) (Or.inl ⟨by rfl, by rintro w' -; go_simp⟩) vhS5 ?_
        simp only [Act.put, List.setIfInBounds_toArray, List.set_cons_zero, List.set_cons_succ]
        refine takeD (i := 4) (v := .agg #[.int .u8 (x0 : Int), .int .u8 (x1 : Int), .int .u64 (x2 : Int), .int .i64 x3, .slice ua un uc, .bool x5]) (some 55) rfl rfl (by kernel_rfl) (by kernel_rfl) (by kernel_rfl) (fun _ _ _ h => h) (yieldsIf_load_mid (by rfl) _ _ rfl g (k * 6) rfl [.int .u8 (x0 : Int), .int .u8 (x1 : Int), .int .u64 (x2 : Int), .int .i64 x3, .slice ua un uc, .bool x5] _ (fun w' h => RGW.out _ (Tch.ow OW.out h (by decide))) Tryz.underlying49 rfl (by kernel_rfl)) vhS5 ?_
        simp only [Act.put, List.setIfInBounds_toArray, List.set_cons_zero, List.set_cons_succ]
        refine wpAnyH_ready (rs := [5]) (by kernel_rfl) (by simp) ?_
        refine AllReadyH.cons rfl (fun vK6 hvK6 => ?_) AllReadyH.nil
        have HvK6 := Lib.hid hvK6
        clear hvK6
        rw [if_pos (by rfl)]
        go_simp
        have DA := do_at (PW.out.fw vHZ3.out) (PSt.size (PW.out.fw vHZ3.out)) FIT.out k1000.out FW0.out FW1.out ⟨x0, x1, x2, x3, ua, un, uc, bs, x5⟩ OKY.out.1 (Nat.le_trans OKY.out.2.2.2.1 (by decide)) (fun c hc => HV5.out c ((TW.out.trans (vHZ3.out.mono TW.out.size)).trans (hc.mono NW.out)))
        unfold ptrN acs at DA
        refine DA.mono ?_
        clear DA
        intro e vx7 hq
        obtain ⟨rfl, hd, ht⟩ := AA.out _ _ _ _ _ _ hq
        have P6 := Lib.hid hd
        have T6 := Lib.hid ht
        clear hd ht hq
        have vTT8 : Hid (Tch (N : Zn) tyD wr vx7) := Lib.hid (vTT4.out.trans (T6.out))
        have vhS9 : (fun w' : World => Tch (N : Zn) tyD wr w') vx7 := vTT8.out
        refine HvK6.out _ _ vhS9 fun _ => ?_
        try simp only [Act.put, List.setIfInBounds_toArray, List.set_cons_zero, List.set_cons_succ]
        refine takeD (i := 6) (v := .tuple #[.string sb, .int .i64 se]) (some 50) rfl rfl (by kernel_rfl) (by kernel_rfl) (by kernel_rfl) (fun _ _ _ h => h) (Or.inl ⟨by rfl, by rintro w' -; go_simp⟩) vhS9 ?_
        simp only [Act.put, List.setIfInBounds_toArray, List.set_cons_zero, List.set_cons_succ]
        refine takeD (i := 7) (v := .string sb) (some 57) rfl rfl (by kernel_rfl) (by kernel_rfl) (by kernel_rfl) (fun _ _ _ h => h) (Or.inl ⟨by rfl, by rintro w' -; go_simp⟩) vhS9 ?_
        simp only [Act.put, List.setIfInBounds_toArray, List.set_cons_zero, List.set_cons_succ]
        refine takeD (i := 8) (v := .int .i64 se) (some 58) rfl rfl (by kernel_rfl) (by kernel_rfl) (by kernel_rfl) (fun _ _ _ h => h) (Or.inl ⟨by rfl, by rintro w' -; go_simp⟩) vhS9 ?_
        simp only [Act.put, List.setIfInBounds_toArray, List.set_cons_zero, List.set_cons_succ]
        refine takeD (i := 9) (v := .string sb) (some 9) rfl rfl (by kernel_rfl) (by kernel_rfl) (by kernel_rfl) (fun _ _ _ h => h) (Or.inl ⟨by rfl, by rintro w' -; go_simp⟩) vhS9 ?_
        simp only [Act.put, List.setIfInBounds_toArray, List.set_cons_zero, List.set_cons_succ]
        refine takeD (i := 10) (v := .int .i64 se) (some 10) rfl rfl (by kernel_rfl) (by kernel_rfl) (by kernel_rfl) (fun _ _ _ h => h) (Or.inl ⟨by rfl, by rintro w' -; go_simp⟩) vhS9 ?_
        simp only [Act.put, List.setIfInBounds_toArray, List.set_cons_zero, List.set_cons_succ]
        refine wpAnyH_done (by kernel_rfl) ?_ _
        have TT := Lib.hid (vTT8.out)
        have B6 := Lib.hid (TW.out.trans ((Tch.below_ TT.out NZ.out (fun k h => h)).mono NW.out))
        have C6 := Lib.hid (Row.tch TT.out CW.out (by decide))
        have X6 := Lib.hid (Row.tch TT.out XW.out (by decide))
        have Y6 := Lib.hid (Row.tch TT.out YW.out (by decide))
        have O6 := Lib.hid (Tch.ow OW.out TT.out (by decide))
        have Q6 := Lib.hid (QW.out.prog TT.out)
        have KZ := Lib.hid (RSt.size Q6.out)
        go_wp2_with fail
        refine wp_region_held (P := Tryz.prog) (S := (fun w' : World => Tch (K : Zn) tyQ vx7 w')) rfl ?_
        change wpAnyH _ _ _ _ _ _ _ _ vx7.drew
        have zhz2 : Below vx7.heap.size vx7 vx7.drew := (Below.refl vx7.heap.size vx7).drew
        generalize vx7.drew = zwz1 at zhz2 ⊢
        have zHZ3 : Hid (Below vx7.heap.size vx7 zwz1) := Lib.hid zhz2
        have zTT4 : Hid (Tch (K : Zn) tyQ vx7 zwz1) := Lib.hid (Tch.of_below zHZ3.out (K : Zn) tyQ)
        clear zhz2
        have zhS5 : (fun w' : World => Tch (K : Zn) tyQ vx7 w') zwz1 := zTT4.out
        refine takeD (i := 0) (v := .pointer (some ⟨Q, 0, none⟩)) (some 60) rfl rfl (by kernel_rfl) (by kernel_rfl) (by kernel_rfl) (fun _ _ _ h => h) (Or.inl ⟨by rfl, by rintro w' -; go_simp⟩) zhS5 ?_
        simp only [Act.put, List.setIfInBounds_toArray, List.set_cons_zero, List.set_cons_succ]
        refine takeD (i := 1) (v := .agg #[.pointer (some ⟨E0, 0, none⟩), .pointer (some ⟨E1, 0, none⟩)]) (some 61) rfl rfl (by kernel_rfl) (by kernel_rfl) (by kernel_rfl) (fun _ _ _ h => h) (yieldsIf_load_mid (by rfl) _ _ rfl b25 0 rfl [.pointer (some ⟨E0, 0, none⟩), .pointer (some ⟨E1, 0, none⟩)] _ (fun w' h => row2c (Row.tch h Y6.out (by decide))) Tryz.underlying40 rfl (by kernel_rfl)) zhS5 ?_
        simp only [Act.put, List.setIfInBounds_toArray, List.set_cons_zero, List.set_cons_succ]
        refine takeD (i := 2) (v := .slice (some ⟨g, 0, none⟩) m cv) (some 62) rfl rfl (by kernel_rfl) (by kernel_rfl) (by kernel_rfl) (fun _ _ _ h => h) (Or.inl ⟨by rfl, by rintro w' -; go_simp⟩) zhS5 ?_
        simp only [Act.put, List.setIfInBounds_toArray, List.set_cons_zero, List.set_cons_succ]
        refine takeD (i := 3) (v := .int .i64 (k : Int)) (some 63) rfl rfl (by kernel_rfl) (by kernel_rfl) (by kernel_rfl) (fun _ _ _ h => h) (Or.inl ⟨by rfl, by rintro w' -; go_simp⟩) zhS5 ?_
        simp only [Act.put, List.setIfInBounds_toArray, List.set_cons_zero, List.set_cons_succ]
        refine takeD (i := 4) (v := .pointer (some ⟨g, k * 6, none⟩)) (some 64) rfl rfl (by kernel_rfl) (by kernel_rfl) (by kernel_rfl) (fun _ _ _ h => h) (Or.inl ⟨by rfl, by rintro w' -; go_simp⟩) zhS5 ?_
        simp only [Act.put, List.setIfInBounds_toArray, List.set_cons_zero, List.set_cons_succ]
        refine takeD (i := 5) (v := .agg #[.int .u8 (x0 : Int), .int .u8 (x1 : Int), .int .u64 (x2 : Int), .int .i64 x3, .slice ua un uc, .bool x5]) (some 65) rfl rfl (by kernel_rfl) (by kernel_rfl) (by kernel_rfl) (fun _ _ _ h => h) (yieldsIf_load_mid (by rfl) _ _ rfl g (k * 6) rfl [.int .u8 (x0 : Int), .int .u8 (x1 : Int), .int .u64 (x2 : Int), .int .i64 x3, .slice ua un uc, .bool x5] _ (fun w' h => RGW.out _ (Tch.ow O6.out h (by decide))) Tryz.underlying49 rfl (by kernel_rfl)) zhS5 ?_
        simp only [Act.put, List.setIfInBounds_toArray, List.set_cons_zero, List.set_cons_succ]
        refine wpAnyH_ready (rs := [6]) (by kernel_rfl) (by simp) ?_
        refine AllReadyH.cons rfl (fun zK6 hzK6 => ?_) AllReadyH.nil
        have HzK6 := Lib.hid hzK6
        clear hzK6
        rw [if_pos (by rfl)]
        go_simp
        have DA := want_at (Q6.out.fw zHZ3.out) (RSt.size (Q6.out.fw zHZ3.out)) FIT.out k1000.out FW0.out FW1.out ⟨x0, x1, x2, x3, ua, un, uc, bs, x5⟩ OKY.out.1 (Nat.le_trans OKY.out.2.2.2.1 (by decide)) (fun c hc => HV5.out c ((B6.out.trans (zHZ3.out.mono B6.out.size)).trans (hc.mono KW.out))) (some ⟨Q, 0, none⟩) (fun _ => rfl)
        unfold ptrN acs at DA
        refine DA.mono ?_
        clear DA
        intro e zx7 hq
        obtain ⟨rfl, hd, ht⟩ := AA.out _ _ _ _ _ _ hq
        have Q7 := Lib.hid hd
        have T7 := Lib.hid ht
        clear hd ht hq
        have zTT8 : Hid (Tch (K : Zn) tyQ vx7 zx7) := Lib.hid (zTT4.out.trans (T7.out))
        have zhS9 : (fun w' : World => Tch (K : Zn) tyQ vx7 w') zx7 := zTT8.out
        refine HzK6.out _ _ zhS9 fun _ => ?_
        try simp only [Act.put, List.setIfInBounds_toArray, List.set_cons_zero, List.set_cons_succ]
        refine takeD (i := 7) (v := .tuple #[.string sb, .int .i64 se]) (some 59) rfl rfl (by kernel_rfl) (by kernel_rfl) (by kernel_rfl) (fun _ _ _ h => h) (Or.inl ⟨by rfl, by rintro w' -; go_simp⟩) zhS9 ?_
        simp only [Act.put, List.setIfInBounds_toArray, List.set_cons_zero, List.set_cons_succ]
        refine takeD (i := 8) (v := .string sb) (some 67) rfl rfl (by kernel_rfl) (by kernel_rfl) (by kernel_rfl) (fun _ _ _ h => h) (Or.inl ⟨by rfl, by rintro w' -; go_simp⟩) zhS9 ?_
        simp only [Act.put, List.setIfInBounds_toArray, List.set_cons_zero, List.set_cons_succ]
        refine takeD (i := 9) (v := .int .i64 se) (some 68) rfl rfl (by kernel_rfl) (by kernel_rfl) (by kernel_rfl) (fun _ _ _ h => h) (Or.inl ⟨by rfl, by rintro w' -; go_simp⟩) zhS9 ?_
        simp only [Act.put, List.setIfInBounds_toArray, List.set_cons_zero, List.set_cons_succ]
        refine takeD (i := 10) (v := .string sb) (some 11) rfl rfl (by kernel_rfl) (by kernel_rfl) (by kernel_rfl) (fun _ _ _ h => h) (Or.inl ⟨by rfl, by rintro w' -; go_simp⟩) zhS9 ?_
        simp only [Act.put, List.setIfInBounds_toArray, List.set_cons_zero, List.set_cons_succ]
        refine takeD (i := 11) (v := .int .i64 se) (some 12) rfl rfl (by kernel_rfl) (by kernel_rfl) (by kernel_rfl) (fun _ _ _ h => h) (Or.inl ⟨by rfl, by rintro w' -; go_simp⟩) zhS9 ?_
        simp only [Act.put, List.setIfInBounds_toArray, List.set_cons_zero, List.set_cons_succ]
        refine wpAnyH_done (by kernel_rfl) ?_ _
        have TU := Lib.hid (zTT8.out)
        have B7 := Lib.hid (B6.out.trans ((Tch.below_ TU.out KZ.out (fun k h => h)).mono KW.out))
        have C7 := Lib.hid (Row.tch TU.out C6.out (by decide))
        have X7 := Lib.hid (Row.tch TU.out X6.out (by decide))
        have Y7 := Lib.hid (Row.tch TU.out Y6.out (by decide))
        have O7 := Lib.hid (Tch.ow O6.out TU.out (by decide))
        have P7 := Lib.hid (P6.out.ref TU.out)
        obtain ⟨q0, -, -, -, -, -⟩ := acs_at (RGW.out _ O7.out)
        by_cases hs0 : sp = 0
        · subst hs0
          obtain rfl : se = 14 := HSE.out HSP.out
          go_wp2_with fail
          go_roundw
          case rel => exact ⟨k + 1, p', d0', d1', by omega, by go_num, Lib.hid ⟨C7.out, X7.out, Y7.out, P7.out, Q7.out, O7.out, B7.out⟩, Lib.hid ⟨FIT2.out, FEW0.out, FEW1.out, DEAD.out⟩⟩
          case measure => simp [intOf]; omega
        · have es : ((sp : Int) == 0) = false := by simp; omega
          go_wp2_with fail
          go_roundw
          case rel => exact ⟨k + 1, p', d0', d1', by omega, by go_num, Lib.hid ⟨C7.out, X7.out, Y7.out, P7.out, Q7.out, O7.out, B7.out⟩, Lib.hid ⟨FIT2.out, FEW0.out, FEW1.out, DEAD.out⟩⟩
          case measure => simp [intOf]; omega
      · obtain rfl : k = m := by omega
        have kI : ¬ (k : Int) < (k : Int) := by omega
        have dk : decide ((k : Int) < (k : Int)) = false := decide_eq_false kI
        obtain ⟨k0, k1, k2⟩ := row3 XW.out
        have HDE := Lib.hid VN.out.2.2.2
        have NZ := Lib.hid (PSt.size PW.out)
        clear VN
        go_wp2_with fail
        refine (PSt.dead0 PW.out HDE.out).mono ?_
        rintro e w' ⟨rfl, rfl⟩
        go_wp2_with fail
        refine (PSt.acq0 PW.out HDE.out 1).mono ?_
        rintro e y1 ⟨rfl, hd, ht⟩
        have P1 := Lib.hid hd
        have Q1 := Lib.hid (QW.out.prog ht)
        have X1 := Lib.hid (Row.tch ht XW.out (by decide))
        have Y1 := Lib.hid (Row.tch ht YW.out (by decide))
        have B1 := Lib.hid (TW.out.trans ((Tch.below_ ht NZ.out (fun k h => h)).mono NW.out))
        clear hd ht NZ k0 k1 k2
        obtain ⟨k0, k1, k2⟩ := row3 X1.out
        have NZ := Lib.hid (PSt.size P1.out)
        go_wp2_with fail
        refine (PSt.res0 P1.out HDE.out 0).mono ?_
        rintro e y2 ⟨rfl, hd, ht⟩
        have P2 := Lib.hid hd
        have Q2 := Lib.hid (Q1.out.prog ht)
        have X2 := Lib.hid (Row.tch ht X1.out (by decide))
        have Y2 := Lib.hid (Row.tch ht Y1.out (by decide))
        have B2 := Lib.hid (B1.out.trans ((Tch.below_ ht NZ.out (fun k h => h)).mono NW.out))
        clear hd ht NZ k0 k1 k2
        obtain ⟨k0, k1, k2⟩ := row3 X2.out
        obtain ⟨j0, j1⟩ := row2 Y2.out
        have SM : Hid (Calls Tryz.prog 12 #[.pointer (some ⟨D1, 0, none⟩), .pointer (some ⟨E1, 0, none⟩)] y2 (gPost (.bool true) y2)) := Lib.hid (by
          obtain ⟨A', ha'⟩ := P2.out.snd
          obtain ⟨B', hb'⟩ := Q2.out.snd
          exact same14_any ha' hb')
        go_wp2_with fail
        refine SM.out.mono ?_
        rintro e y3 ⟨rfl, hb⟩
        have B3 := Lib.hid (B2.out.trans (hb.mono B2.out.size))
        clear hb SM
        go_wp2_with fail
        go_ret
        exact ⟨rfl, B3.out⟩
end Go.Proofs.YtdjjihppaobbcaaGreat

