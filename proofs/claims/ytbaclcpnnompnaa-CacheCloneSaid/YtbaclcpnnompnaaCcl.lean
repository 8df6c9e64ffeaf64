/- Layer 12: the law's sameMedia and same. WRITTEN BY gen_Ccl.py. -/
import Derived.Test.YtbaclcpnnompnaaCck
namespace Go.Proofs.Ytbaclcpnnompnaa
open Go Go.RowKit Med
set_option linter.unusedVariables false
set_option linter.unusedSimpArgs false

set_option maxHeartbeats 4000000 in
set_option maxRecDepth 100000 in
theorem sm12_any {w : World} {M X c M' X' c' R Bn T S O : Nat} {l : List Sec} (h1 : PMd w M X c R Bn T S O l) (h2 : RMd w M' X' c' R Bn T S O l) :
    Calls Try.prog 21 #[.pointer (some ⟨M, 0, none⟩), .pointer (some ⟨M', 0, none⟩)] w (gPost (.bool true) w) := by
  have P1 := Lib.hid h1
  have R1 := Lib.hid h2
  have sm := h1.small
  obtain ⟨n, hn⟩ : ∃ n, l.length = n := ⟨_, rfl⟩
  have EN := Lib.hid hn
  rw [hn] at sm
  clear h1 h2 hn
  go_enter Try.func21, Try.ntmps21
  go_wp2_with fail
  go_loopw [5, 6, 7, 8, 9] (fun i _ _ _ _ wr => ∃ k : Nat, k ≤ n + 2 ∧ i = .int .i64 ((k : Int) - 1) ∧ Hid (Below w.heap.size w wr ∧ PMd wr M X c R Bn T S O l ∧ RMd wr M' X' c' R Bn T S O l)) (fun i _ _ _ _ _ => n + 2 - (intOf i + 1).toNat)
  case atStart => exact ⟨0, Nat.zero_le _, rfl, Lib.hid ⟨Below.refl _ _, P1.out, R1.out⟩⟩
  case round =>
    obtain ⟨k, hk, rfl, V⟩ := hrel
    have c5 := V.out.2.2.c5
    rw [EN.out] at c5
    by_cases hlt : k < n + 2
    · have kI : (k : Int) - 1 ≤ (n : Int) := by omega
      have kb : n ≤ 100000 := by omega
      have RP := Lib.hid (prd_any V.out.2.1 ((k : Int) - 1))
      have VV := Lib.hid V.out.2
      have TV := Lib.hid V.out.1
      clear V
      go_wp2_with fail
      refine RP.out.mono ?_
      rintro e x1 ⟨v1, rfl, hv1, hb⟩
      have P2 := Lib.hid (VV.out.1.fw hb)
      have R2 := Lib.hid (VV.out.2.fw hb)
      have T2 := Lib.hid (TV.out.trans (hb.mono TV.out.size))
      have V1 := Lib.hid hv1.1
      have RR := Lib.hid (rrd_any R2.out ((k : Int) - 1))
      clear hv1 hb RP VV TV c5
      go_wp2_with fail
      refine RR.out.mono ?_
      rintro e x2 ⟨v2, rfl, hv2, hb⟩
      have P3 := Lib.hid (P2.out.fw hb)
      have R3 := Lib.hid (R2.out.fw hb)
      have T3 := Lib.hid (T2.out.trans (hb.mono T2.out.size))
      have V1b := V1.out.below hb
      have V2 := hv2.1
      obtain ⟨A1, a1, rfl⟩ := V1b.form
      obtain ⟨A2, a2, rfl⟩ := V2.form
      have cv1 := cvb A1 _ a1 _ V1b
      have cv2 := cvb A2 _ a2 _ V2
      rw [strOf_bOf] at cv1 cv2
      obtain ⟨m, hm⟩ : ∃ m, (bOf (rdB l ((k : Int) - 1))).length = m := ⟨_, rfl⟩
      rw [hm] at cv1 cv2 ⊢
      obtain ⟨sb, hsb⟩ : ∃ s, rdB l ((k : Int) - 1) = s := ⟨_, rfl⟩
      rw [hsb] at cv1 cv2
      obtain ⟨re, hre⟩ : ∃ s, rdE l ((k : Int) - 1) = s := ⟨_, rfl⟩
      rw [hre]
      have S1 := Lib.hid (pst_any P3.out ((k : Int) - 1))
      have S2 := Lib.hid (rst_any R3.out ((k : Int) - 1))
      generalize st l ((k : Int) - 1) = sv at S1 S2
      clear V1b V2 hv2 hb hm hsb hre V1 P2 R2 RR T2
      go_wp2_with fail
      refine S1.out.mono ?_
      rintro e w' ⟨rfl, rfl⟩
      go_wp2_with fail
      refine S2.out.mono ?_
      rintro e w' ⟨rfl, rfl⟩
      go_wp2_with fail
      go_roundw
      case rel => exact ⟨k + 1, by omega, by go_num, Lib.hid ⟨T3.out, P3.out, R3.out⟩⟩
      case measure => simp [intOf]; omega
    · have kI : ¬ (k : Int) - 1 ≤ (n : Int) := by omega
      have dk : decide ((k : Int) - 1 ≤ (n : Int)) = false := decide_eq_false kI
      have TV := Lib.hid V.out.1
      clear V
      go_wp2_with fail
      go_ret
      exact ⟨rfl, TV.out⟩
set_option maxHeartbeats 4000000 in
set_option maxRecDepth 100000 in
theorem same12_any {A B : Nat} {w : World} {K K' R Bn T S O : Nat} {l0 : List Sec} {ops : List Med.Op} (h1 : Ce A w K R Bn T S O l0 ops) (h2 : Re B w K' R Bn T S O l0 ops) :
    Calls Try.prog 13 #[.pointer (some ⟨K, 0, none⟩), .pointer (some ⟨K', 0, none⟩)] w (gPost (.bool true) w) := by
  have C1 := Lib.hid h1
  have D1 := Lib.hid h2
  have E := Lib.hid (rct_any h2)
  obtain ⟨l, hl⟩ : ∃ x, Med.play R Bn T S O l0 ops = x := ⟨_, rfl⟩
  have EL := Lib.hid hl
  rw [hl] at E
  clear h1 h2 hl
  go_enter Try.func13, Try.ntmps13
  go_wp2_with fail
  refine E.out.mono ?_
  rintro e w1 ⟨M', X', c', rfl, hm, hx, hb⟩
  have R1 := Lib.hid hm
  have T1 := Lib.hid hb
  have C2 := Lib.hid (C1.out.fw hb)
  have sm := hm.small
  obtain ⟨n, hn⟩ : ∃ n, l.length = n := ⟨_, rfl⟩
  have EN := Lib.hid hn
  rw [hn] at sm
  clear hm hx hb hn E
  go_wp2_with fail
  go_loopw [6, 7, 8, 9, 10] (fun i _ _ _ _ wr => ∃ k : Nat, k ≤ n + 2 ∧ i = .int .i64 ((k : Int) - 1) ∧ Hid (Below w.heap.size w wr ∧ Ce A wr K R Bn T S O l0 ops ∧ RMd wr M' X' c' R Bn T S O l)) (fun i _ _ _ _ _ => n + 2 - (intOf i + 1).toNat)
  case atStart => exact ⟨0, Nat.zero_le _, rfl, Lib.hid ⟨T1.out, C2.out, R1.out⟩⟩
  case round =>
    obtain ⟨k, hk, rfl, V⟩ := hrel
    have c5 := V.out.2.2.c5
    rw [EN.out] at c5
    by_cases hlt : k < n + 2
    · have kI : (k : Int) - 1 ≤ (n : Int) := by omega
      have kb : n ≤ 100000 := by omega
      have RP := Lib.hid (crd_any V.out.2.1 ((k : Int) - 1))
      have VV := Lib.hid V.out.2
      have TV := Lib.hid V.out.1
      clear V
      rw [EL.out] at RP
      go_wp2_with fail
      refine RP.out.mono ?_
      rintro e x1 ⟨v1, rfl, hv1, hb⟩
      have P2 := Lib.hid (VV.out.1.fw hb)
      have R2 := Lib.hid (VV.out.2.fw hb)
      have T2 := Lib.hid (TV.out.trans (hb.mono TV.out.size))
      have V1 := Lib.hid hv1.1
      have RR := Lib.hid (rrd_any R2.out ((k : Int) - 1))
      clear hv1 hb RP VV TV c5
      go_wp2_with fail
      refine RR.out.mono ?_
      rintro e x2 ⟨v2, rfl, hv2, hb⟩
      have P3 := Lib.hid (P2.out.fw hb)
      have R3 := Lib.hid (R2.out.fw hb)
      have T3 := Lib.hid (T2.out.trans (hb.mono T2.out.size))
      have V1b := V1.out.below hb
      have V2 := hv2.1
      obtain ⟨A1, a1, rfl⟩ := V1b.form
      obtain ⟨A2, a2, rfl⟩ := V2.form
      have cv1 := cvb A1 _ a1 _ V1b
      have cv2 := cvb A2 _ a2 _ V2
      rw [strOf_bOf] at cv1 cv2
      obtain ⟨m, hm⟩ : ∃ m, (bOf (rdB l ((k : Int) - 1))).length = m := ⟨_, rfl⟩
      rw [hm] at cv1 cv2 ⊢
      obtain ⟨sb, hsb⟩ : ∃ s, rdB l ((k : Int) - 1) = s := ⟨_, rfl⟩
      rw [hsb] at cv1 cv2
      obtain ⟨re, hre⟩ : ∃ s, rdE l ((k : Int) - 1) = s := ⟨_, rfl⟩
      rw [hre]
      have S1 := Lib.hid (cst_any P3.out ((k : Int) - 1))
      have S2 := Lib.hid (rst_any R3.out ((k : Int) - 1))
      rw [EL.out] at S1
      generalize st l ((k : Int) - 1) = sv at S1 S2
      clear V1b V2 hv2 hb hm hsb hre V1 P2 R2 RR T2
      go_wp2_with fail
      refine S1.out.mono ?_
      rintro e w' ⟨rfl, rfl⟩
      go_wp2_with fail
      refine S2.out.mono ?_
      rintro e w' ⟨rfl, rfl⟩
      go_wp2_with fail
      go_roundw
      case rel => exact ⟨k + 1, by omega, by go_num, Lib.hid ⟨T3.out, P3.out, R3.out⟩⟩
      case measure => simp [intOf]; omega
    · have kI : ¬ (k : Int) - 1 ≤ (n : Int) := by omega
      have dk : decide ((k : Int) - 1 ≤ (n : Int)) = false := decide_eq_false kI
      have TV := Lib.hid V.out.1
      have CV := Lib.hid V.out.2.1
      obtain ⟨Mr, Xr, cr, vr, hr⟩ := D1.out.fw V.out.1
      obtain ⟨p, cap, rfl, _, _⟩ := hr.ol.form
      obtain ⟨N, hN⟩ : ∃ N, ops.length = N := ⟨_, rfl⟩
      have EO := Lib.hid hN
      rw [hN] at hr
      have DV := Lib.hid hr
      clear V hr hN
      go_wp2_with fail
      refine wp_region_held (P := Try.prog) (S := (fun w' : World => Below wr.heap.size wr w')) rfl ?_
      change wpAnyH _ _ _ _ _ _ _ _ wr.drew
      have hz2 : Below wr.heap.size wr wr.drew := (Below.refl wr.heap.size wr).drew
      generalize wr.drew = wz1 at hz2 ⊢
      have C_3 := Lib.hid (Ce.fw CV.out (hz2))
      have D_4 := Lib.hid (Ra.fw DV.out (hz2))
      have hl5 := hz2
      have HT_6 : Hid (Below w.heap.size w wz1) := Lib.hid (TV.out.trans ((hl5).mono TV.out.size))
      refine wpAnyH_up (S' := (fun w' : World => Below wz1.heap.size wz1 w')) (fun w' h => hz2.trans (h.mono hz2.size)) ?_
      have hS7 : (fun w' : World => Below wz1.heap.size wz1 w') wz1 := Below.refl _ _
      refine takeD (i := 0) (v := .pointer (some ⟨K, 0, none⟩)) (some 53) rfl rfl (by kernel_rfl) (by kernel_rfl) (by kernel_rfl) (fun _ _ _ h => h) (Or.inl ⟨by rfl, by rintro w' -; go_simp⟩) hS7 ?_
      simp only [Act.put, List.setIfInBounds_toArray, List.set_cons_zero, List.set_cons_succ]
      refine takeD (i := 2) (v := .pointer (some ⟨K', 0, none⟩)) (some 55) rfl rfl (by kernel_rfl) (by kernel_rfl) (by kernel_rfl) (fun _ _ _ h => h) (Or.inl ⟨by rfl, by rintro w' -; go_simp⟩) hS7 ?_
      simp only [Act.put, List.setIfInBounds_toArray, List.set_cons_zero, List.set_cons_succ]
      refine takeD (i := 3) (v := .pointer (some ⟨K', 0, none⟩)) (some 56) rfl rfl (by kernel_rfl) (by kernel_rfl) (by kernel_rfl) (fun _ _ _ h => h) (Or.inl ⟨by rfl, by rintro w' -; go_simp⟩) hS7 ?_
      simp only [Act.put, List.setIfInBounds_toArray, List.set_cons_zero, List.set_cons_succ]
      refine takeD (i := 4) (v := .pointer (some ⟨K', 1, none⟩)) (some 57) rfl rfl (by kernel_rfl) (by kernel_rfl) (by kernel_rfl) (fun _ _ _ h => h) (Or.inl ⟨by rfl, by rintro w' -; go_simp⟩) hS7 ?_
      simp only [Act.put, List.setIfInBounds_toArray, List.set_cons_zero, List.set_cons_succ]
      refine takeD (i := 5) (v := .slice p N cap) (some 58) rfl rfl (by kernel_rfl) (by kernel_rfl) (by kernel_rfl) (fun _ _ _ h => h) (Or.inl ⟨by rfl, by rintro w' h; have hc := (Ra.fw D_4.out h).cells.2; go_simp⟩) hS7 ?_
      simp only [Act.put, List.setIfInBounds_toArray, List.set_cons_zero, List.set_cons_succ]
      refine takeD (i := 6) (v := .int .i64 (N : Int)) (some 59) rfl rfl (by kernel_rfl) (by kernel_rfl) (by kernel_rfl) (fun _ _ _ h => h) (Or.inl ⟨by rfl, by rintro w' -; go_simp⟩) hS7 ?_
      simp only [Act.put, List.setIfInBounds_toArray, List.set_cons_zero, List.set_cons_succ]
      refine wpAnyH_ready (rs := [1]) (by kernel_rfl) (by simp) ?_
      refine AllReadyH.cons rfl (fun K8 hK8 => ?_) AllReadyH.nil
      have HK8 := Lib.hid hK8
      clear hK8
      rw [if_pos (by rfl)]
      go_simp
      have QP := cpe_any C_3.out
      rw [EO.out] at QP
      refine QP.mono ?_
      clear QP
      rintro e x9 ⟨rfl, hw⟩
      have hb : Below wz1.heap.size wz1 x9 := hw ▸ Below.refl _ _
      have C_10 := Lib.hid (Ce.fw C_3.out (hb))
      have D_11 := Lib.hid (Ra.fw D_4.out (hb))
      have hl12 := hb
      have HT_13 : Hid (Below w.heap.size w x9) := Lib.hid (HT_6.out.trans ((hl12).mono HT_6.out.size))
      clear hb hw
      have hb15 : Below wz1.heap.size wz1 x9 := hl12
      have hS14 : (fun w' : World => Below wz1.heap.size wz1 w') x9 := hb15
      refine HK8.out _ _ hS14 fun _ => ?_
      try simp only [Act.put, List.setIfInBounds_toArray, List.set_cons_zero, List.set_cons_succ]
      refine wpAnyH_up (S' := (fun w' : World => Below x9.heap.size x9 w')) (fun w' h => hb15.trans (h.mono hb15.size)) ?_
      have hS16 : (fun w' : World => Below x9.heap.size x9 w') x9 := Below.refl _ _
      refine takeD (i := 7) (v := .bool true) (some 60) rfl rfl (by kernel_rfl) (by kernel_rfl) (by kernel_rfl) (fun _ _ _ h => h) (Or.inl ⟨by rfl, by rintro w' -; go_simp⟩) hS16 ?_
      simp only [Act.put, List.setIfInBounds_toArray, List.set_cons_zero, List.set_cons_succ]
      refine takeD (i := 8) (v := .bool true) (some 61) rfl rfl (by kernel_rfl) (by kernel_rfl) (by kernel_rfl) (fun _ _ _ h => h) (Or.inl ⟨by rfl, by rintro w' -; go_simp⟩) hS16 ?_
      simp only [Act.put, List.setIfInBounds_toArray, List.set_cons_zero, List.set_cons_succ]
      refine takeD (i := 9) (v := .pointer (some ⟨K, 0, none⟩)) (some 62) rfl rfl (by kernel_rfl) (by kernel_rfl) (by kernel_rfl) (fun _ _ _ h => h) (Or.inl ⟨by rfl, by rintro w' -; go_simp⟩) hS16 ?_
      simp only [Act.put, List.setIfInBounds_toArray, List.set_cons_zero, List.set_cons_succ]
      refine takeD (i := 11) (v := .pointer (some ⟨K', 0, none⟩)) (some 64) rfl rfl (by kernel_rfl) (by kernel_rfl) (by kernel_rfl) (fun _ _ _ h => h) (Or.inl ⟨by rfl, by rintro w' -; go_simp⟩) hS16 ?_
      simp only [Act.put, List.setIfInBounds_toArray, List.set_cons_zero, List.set_cons_succ]
      refine takeD (i := 12) (v := .pointer (some ⟨K', 0, none⟩)) (some 65) rfl rfl (by kernel_rfl) (by kernel_rfl) (by kernel_rfl) (fun _ _ _ h => h) (Or.inl ⟨by rfl, by rintro w' -; go_simp⟩) hS16 ?_
      simp only [Act.put, List.setIfInBounds_toArray, List.set_cons_zero, List.set_cons_succ]
      refine takeD (i := 13) (v := .pointer (some ⟨K', 0, none⟩)) (some 66) rfl rfl (by kernel_rfl) (by kernel_rfl) (by kernel_rfl) (fun _ _ _ h => h) (Or.inl ⟨by rfl, by rintro w' -; go_simp⟩) hS16 ?_
      simp only [Act.put, List.setIfInBounds_toArray, List.set_cons_zero, List.set_cons_succ]
      refine takeD (i := 14) (v := .pointer (some ⟨Mr, 0, none⟩)) (some 67) rfl rfl (by kernel_rfl) (by kernel_rfl) (by kernel_rfl) (fun _ _ _ h => h) (Or.inl ⟨by rfl, by rintro w' h; have hc := (Ra.fw D_11.out h).cells.1; go_simp⟩) hS16 ?_
      simp only [Act.put, List.setIfInBounds_toArray, List.set_cons_zero, List.set_cons_succ]
      refine wpAnyH_ready (rs := [10]) (by kernel_rfl) (by simp) ?_
      refine AllReadyH.cons rfl (fun K17 hK17 => ?_) AllReadyH.nil
      have HK17 := Lib.hid hK17
      clear hK17
      rw [if_pos (by rfl)]
      go_simp
      refine (cdu_any C_10.out).mono ?_
      rintro e x18 ⟨M2, X2, c2, rfl, hm, hx, hb⟩
      have C_19 := Lib.hid (Ce.fw C_10.out (hb))
      have D_20 := Lib.hid (Ra.fw D_11.out (hb))
      have hl21 := hb
      have HT_22 : Hid (Below w.heap.size w x18) := Lib.hid (HT_13.out.trans ((hl21).mono HT_13.out.size))
      have HM2 := Lib.hid hm
      clear hb hm hx
      have hb24 : Below x9.heap.size x9 x18 := hl21
      have hS23 : (fun w' : World => Below x9.heap.size x9 w') x18 := hb24
      refine HK17.out _ _ hS23 fun _ => ?_
      try simp only [Act.put, List.setIfInBounds_toArray, List.set_cons_zero, List.set_cons_succ]
      refine wpAnyH_up (S' := (fun w' : World => Below x18.heap.size x18 w')) (fun w' h => hb24.trans (h.mono hb24.size)) ?_
      have hS25 : (fun w' : World => Below x18.heap.size x18 w') x18 := Below.refl _ _
      refine wpAnyH_ready (rs := [15]) (by kernel_rfl) (by simp) ?_
      refine AllReadyH.cons rfl (fun K26 hK26 => ?_) AllReadyH.nil
      have HK26 := Lib.hid hK26
      clear hK26
      rw [if_pos (by rfl)]
      go_simp
      refine (sm12_any HM2.out D_20.out.md).mono ?_
      rintro e x27 ⟨rfl, hb28⟩
      have C_29 := Lib.hid (Ce.fw C_19.out (hb28))
      have D_30 := Lib.hid (Ra.fw D_20.out (hb28))
      have M_31 := Lib.hid (Md.fw HM2.out (hb28))
      have hl32 := hb28
      have HT_33 : Hid (Below w.heap.size w x27) := Lib.hid (HT_22.out.trans ((hl32).mono HT_22.out.size))
      clear hb28 
      have hb35 : Below x18.heap.size x18 x27 := hl32
      have hS34 : (fun w' : World => Below x18.heap.size x18 w') x27 := hb35
      refine HK26.out _ _ hS34 fun _ => ?_
      try simp only [Act.put, List.setIfInBounds_toArray, List.set_cons_zero, List.set_cons_succ]
      refine wpAnyH_up (S' := (fun w' : World => Below x27.heap.size x27 w')) (fun w' h => hb35.trans (h.mono hb35.size)) ?_
      have hS36 : (fun w' : World => Below x27.heap.size x27 w') x27 := Below.refl _ _
      refine takeD (i := 16) (v := .bool true) (some 69) rfl rfl (by kernel_rfl) (by kernel_rfl) (by kernel_rfl) (fun _ _ _ h => h) (Or.inl ⟨by rfl, by rintro w' -; go_simp⟩) hS36 ?_
      simp only [Act.put, List.setIfInBounds_toArray, List.set_cons_zero, List.set_cons_succ]
      refine takeD (i := 17) (v := .bool true) (some 4) rfl rfl (by kernel_rfl) (by kernel_rfl) (by kernel_rfl) (fun _ _ _ h => h) (Or.inl ⟨by rfl, by rintro w' -; go_simp⟩) hS36 ?_
      simp only [Act.put, List.setIfInBounds_toArray, List.set_cons_zero, List.set_cons_succ]
      refine wpAnyH_done (by kernel_rfl) ?_ _
      go_wp2_with fail
      go_ret
      exact ⟨rfl, HT_33.out⟩
end Go.Proofs.Ytbaclcpnnompnaa
