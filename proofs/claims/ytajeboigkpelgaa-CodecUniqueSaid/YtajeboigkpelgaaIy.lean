/- Layer 9: the walk of CodecUnique. WRITTEN BY gen_Iy.py. -/
import Derived.Test.YtajeboigkpelgaaIx
namespace Go.Proofs.Ytajeboigkpelgaa
open Go Go.RowKit
set_option linter.unusedVariables false
set_option linter.unusedSimpArgs false
theorem wrap_sub {a b c : Nat} (h : a = c + b) (hb : a ≤ 1000000) : wrap64 ((a : Int) - (b : Int)) = (c : Int) := by
  rw [show (a : Int) - (b : Int) = (c : Int) by omega]; exact IntWalk.wrap64_in _ ⟨by omega, by omega⟩
theorem wrap_subk {a b c : Nat} (h : a = c + b) (hb : a ≤ 1000000) : IntKind.i64.wrap ((a : Int) - (b : Int)) = (c : Int) := by
  rw [IntKind.wrap_i64]; omega

set_option maxHeartbeats 4000000 in
set_option maxRecDepth 100000 in
theorem uniq_none (v : Value) (b : List Nat) (w : World) (h0 : Bs w v b) (hb : b.length ≤ 60) (hd : Cod.dec 0 b = none) : Calls Try.prog 6 #[v] w (lawPost w) := by
  have EU := Lib.hid (Cod.rU_none hd : Cod.rU b false = _)
  have EI := Lib.hid (Cod.rI_none hd : Cod.rI b false = _)
  have EB := Lib.hid (Cod.rB_none hd : Cod.rB b false = _)
  have H0 := Lib.hid h0
  obtain ⟨A0, c0, e0⟩ := h0.form
  obtain ⟨n0, en0⟩ : ∃ n, b.length = n := ⟨_, rfl⟩
  have EN := Lib.hid en0
  rw [en0] at e0 hb
  have F0 := Lib.hid (show Bs w (.slice A0 n0 c0) b by rw [← e0]; exact H0.out)
  have CAP := Lib.hid (show n0 ≤ c0 by have := F0.out.cap; omega)
  rw [e0]
  have g0 : ¬ (60 : Int) < (n0 : Int) := by omega
  have LB := Lib.hid hb
  clear h0 e0 en0 H0 hd
  go_enter Try.func6, Try.ntmps6
  go_wp2_with fail
  refine (awake9 w).mono ?_
  rintro e w1 ⟨rfl, hb1⟩
  have F0_2 := Lib.hid (Bs.below F0.out (hb1))
  have hl3 := hb1
  have HT_4 : Hid (Below w.heap.size w w1) := Lib.hid (hl3)
  clear hb1 
  go_wp2_with fail
  have BW := Lib.hid HT_4.out
  have F1 := Lib.hid (F0_2.out)
  refine (pnew_any _ b w1 F0_2.out (by have := EN.out; have := LB.out; omega)).mono ?_
  rintro e x5 ⟨S1, o1, rfl, hn7, ho1, hb6⟩
  have GE1 := Lib.hid (show ∀ k, o1 k → w1.heap.size ≤ k from fun k hk => Nat.le_trans (Nat.le_refl _) (ho1 k hk))
  have F0_8 := Lib.hid (Bs.below F0_2.out (hb6))
  have hl9 := hb6
  have HT_10 : Hid (Below w1.heap.size w1 x5) := Lib.hid (hl9)
  have P1_11 := Lib.hid (hn7)
  clear hb6 hn7
  clear ho1
  go_wp2_with fail
  refine (pnew_any _ b x5 F0_8.out (by have := EN.out; have := LB.out; omega)).mono ?_
  rintro e x12 ⟨S2, o2, rfl, hn14, ho2, hb13⟩
  have GE2 := Lib.hid (show ∀ k, o2 k → w1.heap.size ≤ k from fun k hk => Nat.le_trans HT_10.out.size (ho2 k hk))
  have D12 := Lib.hid (show ∀ k, o1 k → ¬ o2 k from fun k hk h2 => by have := P1_11.out.lt k hk; have := ho2 k h2; omega)
  have F0_15 := Lib.hid (Bs.below F0_8.out (hb13))
  have P1_16 := Lib.hid (RdP.below P1_11.out (hb13))
  have hl17 := hb13
  have HT_18 : Hid (Below w1.heap.size w1 x12) := Lib.hid (HT_10.out.trans ((hl17).mono HT_10.out.size))
  have P2_19 := Lib.hid (hn14)
  clear hb13 hn14
  clear ho2
  go_wp2_with fail
  refine (pnew_any _ b x12 F0_15.out (by have := EN.out; have := LB.out; omega)).mono ?_
  rintro e x20 ⟨S3, o3, rfl, hn22, ho3, hb21⟩
  have GE3 := Lib.hid (show ∀ k, o3 k → w1.heap.size ≤ k from fun k hk => Nat.le_trans HT_18.out.size (ho3 k hk))
  have D13 := Lib.hid (show ∀ k, o1 k → ¬ o3 k from fun k hk h2 => by have := P1_16.out.lt k hk; have := ho3 k h2; omega)
  have D23 := Lib.hid (show ∀ k, o2 k → ¬ o3 k from fun k hk h2 => by have := P2_19.out.lt k hk; have := ho3 k h2; omega)
  have F0_23 := Lib.hid (Bs.below F0_15.out (hb21))
  have P1_24 := Lib.hid (RdP.below P1_16.out (hb21))
  have P2_25 := Lib.hid (RdP.below P2_19.out (hb21))
  have hl26 := hb21
  have HT_27 : Hid (Below w1.heap.size w1 x20) := Lib.hid (HT_18.out.trans ((hl26).mono HT_18.out.size))
  have P3_28 := Lib.hid (hn22)
  clear hb21 hn22
  clear ho3
  go_wp2_with fail
  have RD := Lib.hid (puint_any S1 b false o1 _ P1_24.out (by have := EN.out; have := LB.out; omega))
  unfold uPost at RD
  rw [EU.out] at RD
  refine RD.out.mono ?_
  rintro e x29 ⟨rfl, hrd, hc30⟩
  clear RD
  have P1_31 := Lib.hid hrd
  have P2_32 := Lib.hid (RdP.chg P2_25.out hc30 (fun k hk h2 => D12.out k h2 hk))
  have P3_33 := Lib.hid (RdP.chg P3_28.out hc30 (fun k hk h2 => D13.out k h2 hk))
  have HT_34 : Hid (Below w1.heap.size w1 x29) := Lib.hid (HT_27.out.trans (hc30.below HT_27.out.size GE1.out))
  have F0_35 := Lib.hid (F1.out.below HT_34.out)
  clear hc30 hrd
  go_wp2_with fail
  have RD := Lib.hid (pint_any S2 b false o2 _ P2_32.out (by have := EN.out; have := LB.out; omega))
  unfold iPost at RD
  rw [EI.out] at RD
  refine RD.out.mono ?_
  rintro e x36 ⟨rfl, hrd, hc37⟩
  clear RD
  have P1_38 := Lib.hid (RdP.chg P1_31.out hc37 (D12.out))
  have P2_39 := Lib.hid hrd
  have P3_40 := Lib.hid (RdP.chg P3_33.out hc37 (fun k hk h2 => D23.out k h2 hk))
  have HT_41 : Hid (Below w1.heap.size w1 x36) := Lib.hid (HT_34.out.trans (hc37.below HT_34.out.size GE2.out))
  have F0_42 := Lib.hid (F1.out.below HT_41.out)
  clear hc37 hrd
  go_wp2_with fail
  have RD := Lib.hid (pbytes_any S3 b false o3 _ P3_40.out (by have := EN.out; have := LB.out; omega))
  unfold bPost at RD
  rw [EB.out] at RD
  refine RD.out.mono ?_
  rintro e x43 ⟨vx, rfl, hbx, hnx, hrd, hc44⟩
  clear RD
  have P1_45 := Lib.hid (RdP.chg P1_38.out hc44 (D13.out))
  have P2_46 := Lib.hid (RdP.chg P2_39.out hc44 (D23.out))
  have P3_47 := Lib.hid hrd
  have HT_48 : Hid (Below w1.heap.size w1 x43) := Lib.hid (HT_41.out.trans (hc44.below HT_41.out.size GE3.out))
  have F0_49 := Lib.hid (F1.out.below HT_48.out)
  have BX := Lib.hid hbx
  obtain ⟨AX, cX, rfl⟩ := hbx.form
  clear hbx hnx
  clear hc44 hrd
  go_wp2_with fail
  refine wp_region_held (P := Try.prog) (S := (fun w' : World => Below x43.heap.size x43 w')) rfl ?_
  change wpAnyH _ _ _ _ _ _ _ _ x43.drew
  have hz51 : Below x43.heap.size x43 x43.drew := (Below.refl x43.heap.size x43).drew
  generalize x43.drew = wz50 at hz51 ⊢
  have F0_52 := Lib.hid (Bs.below F0_49.out (hz51))
  have P1_53 := Lib.hid (RdP.below P1_45.out (hz51))
  have P2_54 := Lib.hid (RdP.below P2_46.out (hz51))
  have P3_55 := Lib.hid (RdP.below P3_47.out (hz51))
  have BX_56 := Lib.hid (Bs.below BX.out (hz51))
  have hl57 := hz51
  have HT_58 : Hid (Below w1.heap.size w1 wz50) := Lib.hid (HT_48.out.trans ((hl57).mono HT_48.out.size))
  refine wpAnyH_up (S' := (fun w' : World => Below wz50.heap.size wz50 w')) (fun w' h => hz51.trans (h.mono hz51.size)) ?_
  have hS59 : (fun w' : World => Below wz50.heap.size wz50 w') wz50 := Below.refl _ _
  refine takeD (i := 0) (v := .int .i64 5) (some 59) rfl rfl (by kernel_rfl) (by kernel_rfl) (by kernel_rfl) (fun _ _ _ h => h) (Or.inl ⟨by rfl, by rintro w' -; go_simp⟩) hS59 ?_
  simp only [Act.put, List.setIfInBounds_toArray, List.set_cons_zero, List.set_cons_succ]
  refine takeD (i := 1) (v := .bool false) (some 60) rfl rfl (by kernel_rfl) (by kernel_rfl) (by kernel_rfl) (fun _ _ _ h => h) (Or.inl ⟨by rfl, by rintro w' -; go_simp⟩) hS59 ?_
  simp only [Act.put, List.setIfInBounds_toArray, List.set_cons_zero, List.set_cons_succ]
  refine takeD (i := 2) (v := .bool false) (some 61) rfl rfl (by kernel_rfl) (by kernel_rfl) (by kernel_rfl) (fun _ _ _ h => h) (Or.inl ⟨by rfl, by rintro w' -; go_simp⟩) hS59 ?_
  simp only [Act.put, List.setIfInBounds_toArray, List.set_cons_zero, List.set_cons_succ]
  refine takeD (i := 3) (v := undef) (some 62) rfl rfl (by kernel_rfl) (by kernel_rfl) (by kernel_rfl) (fun _ _ _ h => h) (Or.inr ⟨by rfl, rfl⟩) hS59 ?_
  simp only [Act.put, List.setIfInBounds_toArray, List.set_cons_zero, List.set_cons_succ]
  refine takeD (i := 4) (v := undef) (some 63) rfl rfl (by kernel_rfl) (by kernel_rfl) (by kernel_rfl) (fun _ _ _ h => h) (Or.inr ⟨by rfl, rfl⟩) hS59 ?_
  simp only [Act.put, List.setIfInBounds_toArray, List.set_cons_zero, List.set_cons_succ]
  refine takeD (i := 5) (v := undef) (some 64) rfl rfl (by kernel_rfl) (by kernel_rfl) (by kernel_rfl) (fun _ _ _ h => h) (Or.inr ⟨by rfl, rfl⟩) hS59 ?_
  simp only [Act.put, List.setIfInBounds_toArray, List.set_cons_zero, List.set_cons_succ]
  refine takeD (i := 6) (v := undef) (some 65) rfl rfl (by kernel_rfl) (by kernel_rfl) (by kernel_rfl) (fun _ _ _ h => h) (Or.inr ⟨by rfl, rfl⟩) hS59 ?_
  simp only [Act.put, List.setIfInBounds_toArray, List.set_cons_zero, List.set_cons_succ]
  refine takeD (i := 7) (v := undef) (some 66) rfl rfl (by kernel_rfl) (by kernel_rfl) (by kernel_rfl) (fun _ _ _ h => h) (Or.inr ⟨by rfl, rfl⟩) hS59 ?_
  simp only [Act.put, List.setIfInBounds_toArray, List.set_cons_zero, List.set_cons_succ]
  refine takeD (i := 8) (v := undef) (some 67) rfl rfl (by kernel_rfl) (by kernel_rfl) (by kernel_rfl) (fun _ _ _ h => h) (Or.inr ⟨by rfl, rfl⟩) hS59 ?_
  simp only [Act.put, List.setIfInBounds_toArray, List.set_cons_zero, List.set_cons_succ]
  refine takeD (i := 9) (v := undef) (some 68) rfl rfl (by kernel_rfl) (by kernel_rfl) (by kernel_rfl) (fun _ _ _ h => h) (Or.inr ⟨by rfl, rfl⟩) hS59 ?_
  simp only [Act.put, List.setIfInBounds_toArray, List.set_cons_zero, List.set_cons_succ]
  refine takeD (i := 10) (v := undef) (some 69) rfl rfl (by kernel_rfl) (by kernel_rfl) (by kernel_rfl) (fun _ _ _ h => h) (Or.inr ⟨by rfl, rfl⟩) hS59 ?_
  simp only [Act.put, List.setIfInBounds_toArray, List.set_cons_zero, List.set_cons_succ]
  refine takeD (i := 11) (v := undef) (some 70) rfl rfl (by kernel_rfl) (by kernel_rfl) (by kernel_rfl) (fun _ _ _ h => h) (Or.inr ⟨by rfl, rfl⟩) hS59 ?_
  simp only [Act.put, List.setIfInBounds_toArray, List.set_cons_zero, List.set_cons_succ]
  refine takeD (i := 12) (v := undef) (some 71) rfl rfl (by kernel_rfl) (by kernel_rfl) (by kernel_rfl) (fun _ _ _ h => h) (Or.inr ⟨by rfl, rfl⟩) hS59 ?_
  simp only [Act.put, List.setIfInBounds_toArray, List.set_cons_zero, List.set_cons_succ]
  refine takeD (i := 13) (v := undef) (some 72) rfl rfl (by kernel_rfl) (by kernel_rfl) (by kernel_rfl) (fun _ _ _ h => h) (Or.inr ⟨by rfl, rfl⟩) hS59 ?_
  simp only [Act.put, List.setIfInBounds_toArray, List.set_cons_zero, List.set_cons_succ]
  refine takeD (i := 14) (v := undef) (some 73) rfl rfl (by kernel_rfl) (by kernel_rfl) (by kernel_rfl) (fun _ _ _ h => h) (Or.inr ⟨by rfl, rfl⟩) hS59 ?_
  simp only [Act.put, List.setIfInBounds_toArray, List.set_cons_zero, List.set_cons_succ]
  refine takeD (i := 15) (v := .bool false) (some 74) rfl rfl (by kernel_rfl) (by kernel_rfl) (by kernel_rfl) (fun _ _ _ h => h) (Or.inl ⟨by rfl, by rintro w' -; go_simp⟩) hS59 ?_
  simp only [Act.put, List.setIfInBounds_toArray, List.set_cons_zero, List.set_cons_succ]
  refine takeD (i := 16) (v := .bool false) (some 75) rfl rfl (by kernel_rfl) (by kernel_rfl) (by kernel_rfl) (fun _ _ _ h => h) (Or.inl ⟨by rfl, by rintro w' -; go_simp⟩) hS59 ?_
  simp only [Act.put, List.setIfInBounds_toArray, List.set_cons_zero, List.set_cons_succ]
  refine takeD (i := 17) (v := .int .i64 5) (some 76) rfl rfl (by kernel_rfl) (by kernel_rfl) (by kernel_rfl) (fun _ _ _ h => h) (Or.inl ⟨by rfl, by rintro w' -; go_simp⟩) hS59 ?_
  simp only [Act.put, List.setIfInBounds_toArray, List.set_cons_zero, List.set_cons_succ]
  refine takeD (i := 18) (v := .bool false) (some 77) rfl rfl (by kernel_rfl) (by kernel_rfl) (by kernel_rfl) (fun _ _ _ h => h) (Or.inl ⟨by rfl, by rintro w' -; go_simp⟩) hS59 ?_
  simp only [Act.put, List.setIfInBounds_toArray, List.set_cons_zero, List.set_cons_succ]
  refine takeD (i := 19) (v := .bool false) (some 78) rfl rfl (by kernel_rfl) (by kernel_rfl) (by kernel_rfl) (fun _ _ _ h => h) (Or.inl ⟨by rfl, by rintro w' -; go_simp⟩) hS59 ?_
  simp only [Act.put, List.setIfInBounds_toArray, List.set_cons_zero, List.set_cons_succ]
  refine takeD (i := 20) (v := undef) (some 79) rfl rfl (by kernel_rfl) (by kernel_rfl) (by kernel_rfl) (fun _ _ _ h => h) (Or.inr ⟨by rfl, rfl⟩) hS59 ?_
  simp only [Act.put, List.setIfInBounds_toArray, List.set_cons_zero, List.set_cons_succ]
  refine takeD (i := 21) (v := undef) (some 80) rfl rfl (by kernel_rfl) (by kernel_rfl) (by kernel_rfl) (fun _ _ _ h => h) (Or.inr ⟨by rfl, rfl⟩) hS59 ?_
  simp only [Act.put, List.setIfInBounds_toArray, List.set_cons_zero, List.set_cons_succ]
  refine takeD (i := 22) (v := undef) (some 81) rfl rfl (by kernel_rfl) (by kernel_rfl) (by kernel_rfl) (fun _ _ _ h => h) (Or.inr ⟨by rfl, rfl⟩) hS59 ?_
  simp only [Act.put, List.setIfInBounds_toArray, List.set_cons_zero, List.set_cons_succ]
  refine takeD (i := 23) (v := undef) (some 82) rfl rfl (by kernel_rfl) (by kernel_rfl) (by kernel_rfl) (fun _ _ _ h => h) (Or.inr ⟨by rfl, rfl⟩) hS59 ?_
  simp only [Act.put, List.setIfInBounds_toArray, List.set_cons_zero, List.set_cons_succ]
  refine takeD (i := 24) (v := undef) (some 83) rfl rfl (by kernel_rfl) (by kernel_rfl) (by kernel_rfl) (fun _ _ _ h => h) (Or.inr ⟨by rfl, rfl⟩) hS59 ?_
  simp only [Act.put, List.setIfInBounds_toArray, List.set_cons_zero, List.set_cons_succ]
  refine takeD (i := 25) (v := undef) (some 84) rfl rfl (by kernel_rfl) (by kernel_rfl) (by kernel_rfl) (fun _ _ _ h => h) (Or.inr ⟨by rfl, rfl⟩) hS59 ?_
  simp only [Act.put, List.setIfInBounds_toArray, List.set_cons_zero, List.set_cons_succ]
  refine takeD (i := 26) (v := undef) (some 85) rfl rfl (by kernel_rfl) (by kernel_rfl) (by kernel_rfl) (fun _ _ _ h => h) (Or.inr ⟨by rfl, rfl⟩) hS59 ?_
  simp only [Act.put, List.setIfInBounds_toArray, List.set_cons_zero, List.set_cons_succ]
  refine takeD (i := 27) (v := undef) (some 86) rfl rfl (by kernel_rfl) (by kernel_rfl) (by kernel_rfl) (fun _ _ _ h => h) (Or.inr ⟨by rfl, rfl⟩) hS59 ?_
  simp only [Act.put, List.setIfInBounds_toArray, List.set_cons_zero, List.set_cons_succ]
  refine takeD (i := 28) (v := undef) (some 87) rfl rfl (by kernel_rfl) (by kernel_rfl) (by kernel_rfl) (fun _ _ _ h => h) (Or.inr ⟨by rfl, rfl⟩) hS59 ?_
  simp only [Act.put, List.setIfInBounds_toArray, List.set_cons_zero, List.set_cons_succ]
  refine takeD (i := 29) (v := undef) (some 88) rfl rfl (by kernel_rfl) (by kernel_rfl) (by kernel_rfl) (fun _ _ _ h => h) (Or.inr ⟨by rfl, rfl⟩) hS59 ?_
  simp only [Act.put, List.setIfInBounds_toArray, List.set_cons_zero, List.set_cons_succ]
  refine takeD (i := 30) (v := undef) (some 89) rfl rfl (by kernel_rfl) (by kernel_rfl) (by kernel_rfl) (fun _ _ _ h => h) (Or.inr ⟨by rfl, rfl⟩) hS59 ?_
  simp only [Act.put, List.setIfInBounds_toArray, List.set_cons_zero, List.set_cons_succ]
  refine takeD (i := 31) (v := undef) (some 90) rfl rfl (by kernel_rfl) (by kernel_rfl) (by kernel_rfl) (fun _ _ _ h => h) (Or.inr ⟨by rfl, rfl⟩) hS59 ?_
  simp only [Act.put, List.setIfInBounds_toArray, List.set_cons_zero, List.set_cons_succ]
  refine takeD (i := 32) (v := .bool false) (some 91) rfl rfl (by kernel_rfl) (by kernel_rfl) (by kernel_rfl) (fun _ _ _ h => h) (Or.inl ⟨by rfl, by rintro w' -; go_simp⟩) hS59 ?_
  simp only [Act.put, List.setIfInBounds_toArray, List.set_cons_zero, List.set_cons_succ]
  refine takeD (i := 33) (v := .bool false) (some 92) rfl rfl (by kernel_rfl) (by kernel_rfl) (by kernel_rfl) (fun _ _ _ h => h) (Or.inl ⟨by rfl, by rintro w' -; go_simp⟩) hS59 ?_
  simp only [Act.put, List.setIfInBounds_toArray, List.set_cons_zero, List.set_cons_succ]
  refine wpAnyH_done (by kernel_rfl) ?_ _
  go_wp2_with fail
  refine wp_region_held (P := Try.prog) (S := (fun w' : World => Below wz50.heap.size wz50 w')) rfl ?_
  change wpAnyH _ _ _ _ _ _ _ _ wz50.drew
  have hz61 : Below wz50.heap.size wz50 wz50.drew := (Below.refl wz50.heap.size wz50).drew
  generalize wz50.drew = wz60 at hz61 ⊢
  have F0_62 := Lib.hid (Bs.below F0_52.out (hz61))
  have P1_63 := Lib.hid (RdP.below P1_53.out (hz61))
  have P2_64 := Lib.hid (RdP.below P2_54.out (hz61))
  have P3_65 := Lib.hid (RdP.below P3_55.out (hz61))
  have BX_66 := Lib.hid (Bs.below BX_56.out (hz61))
  have hl67 := hz61
  have HT_68 : Hid (Below w1.heap.size w1 wz60) := Lib.hid (HT_58.out.trans ((hl67).mono HT_58.out.size))
  refine wpAnyH_up (S' := (fun w' : World => Below wz60.heap.size wz60 w')) (fun w' h => hz61.trans (h.mono hz61.size)) ?_
  have hS69 : (fun w' : World => Below wz60.heap.size wz60 w') wz60 := Below.refl _ _
  refine takeD (i := 0) (v := .int .i64 5) (some 93) rfl rfl (by kernel_rfl) (by kernel_rfl) (by kernel_rfl) (fun _ _ _ h => h) (Or.inl ⟨by rfl, by rintro w' -; go_simp⟩) hS69 ?_
  simp only [Act.put, List.setIfInBounds_toArray, List.set_cons_zero, List.set_cons_succ]
  refine takeD (i := 1) (v := .bool true) (some 94) rfl rfl (by kernel_rfl) (by kernel_rfl) (by kernel_rfl) (fun _ _ _ h => h) (Or.inl ⟨by rfl, by rintro w' -; go_simp⟩) hS69 ?_
  simp only [Act.put, List.setIfInBounds_toArray, List.set_cons_zero, List.set_cons_succ]
  refine takeD (i := 2) (v := .bool true) (some 95) rfl rfl (by kernel_rfl) (by kernel_rfl) (by kernel_rfl) (fun _ _ _ h => h) (Or.inl ⟨by rfl, by rintro w' -; go_simp⟩) hS69 ?_
  simp only [Act.put, List.setIfInBounds_toArray, List.set_cons_zero, List.set_cons_succ]
  refine takeD (i := 3) (v := undef) (some 96) rfl rfl (by kernel_rfl) (by kernel_rfl) (by kernel_rfl) (fun _ _ _ h => h) (Or.inr ⟨by rfl, rfl⟩) hS69 ?_
  simp only [Act.put, List.setIfInBounds_toArray, List.set_cons_zero, List.set_cons_succ]
  refine takeD (i := 4) (v := undef) (some 97) rfl rfl (by kernel_rfl) (by kernel_rfl) (by kernel_rfl) (fun _ _ _ h => h) (Or.inr ⟨by rfl, rfl⟩) hS69 ?_
  simp only [Act.put, List.setIfInBounds_toArray, List.set_cons_zero, List.set_cons_succ]
  refine takeD (i := 5) (v := undef) (some 98) rfl rfl (by kernel_rfl) (by kernel_rfl) (by kernel_rfl) (fun _ _ _ h => h) (Or.inr ⟨by rfl, rfl⟩) hS69 ?_
  simp only [Act.put, List.setIfInBounds_toArray, List.set_cons_zero, List.set_cons_succ]
  refine takeD (i := 6) (v := undef) (some 99) rfl rfl (by kernel_rfl) (by kernel_rfl) (by kernel_rfl) (fun _ _ _ h => h) (Or.inr ⟨by rfl, rfl⟩) hS69 ?_
  simp only [Act.put, List.setIfInBounds_toArray, List.set_cons_zero, List.set_cons_succ]
  refine takeD (i := 7) (v := undef) (some 100) rfl rfl (by kernel_rfl) (by kernel_rfl) (by kernel_rfl) (fun _ _ _ h => h) (Or.inr ⟨by rfl, rfl⟩) hS69 ?_
  simp only [Act.put, List.setIfInBounds_toArray, List.set_cons_zero, List.set_cons_succ]
  refine takeD (i := 8) (v := undef) (some 101) rfl rfl (by kernel_rfl) (by kernel_rfl) (by kernel_rfl) (fun _ _ _ h => h) (Or.inr ⟨by rfl, rfl⟩) hS69 ?_
  simp only [Act.put, List.setIfInBounds_toArray, List.set_cons_zero, List.set_cons_succ]
  refine takeD (i := 9) (v := undef) (some 102) rfl rfl (by kernel_rfl) (by kernel_rfl) (by kernel_rfl) (fun _ _ _ h => h) (Or.inr ⟨by rfl, rfl⟩) hS69 ?_
  simp only [Act.put, List.setIfInBounds_toArray, List.set_cons_zero, List.set_cons_succ]
  refine takeD (i := 10) (v := undef) (some 103) rfl rfl (by kernel_rfl) (by kernel_rfl) (by kernel_rfl) (fun _ _ _ h => h) (Or.inr ⟨by rfl, rfl⟩) hS69 ?_
  simp only [Act.put, List.setIfInBounds_toArray, List.set_cons_zero, List.set_cons_succ]
  refine takeD (i := 11) (v := undef) (some 104) rfl rfl (by kernel_rfl) (by kernel_rfl) (by kernel_rfl) (fun _ _ _ h => h) (Or.inr ⟨by rfl, rfl⟩) hS69 ?_
  simp only [Act.put, List.setIfInBounds_toArray, List.set_cons_zero, List.set_cons_succ]
  refine takeD (i := 12) (v := undef) (some 105) rfl rfl (by kernel_rfl) (by kernel_rfl) (by kernel_rfl) (fun _ _ _ h => h) (Or.inr ⟨by rfl, rfl⟩) hS69 ?_
  simp only [Act.put, List.setIfInBounds_toArray, List.set_cons_zero, List.set_cons_succ]
  refine takeD (i := 13) (v := undef) (some 106) rfl rfl (by kernel_rfl) (by kernel_rfl) (by kernel_rfl) (fun _ _ _ h => h) (Or.inr ⟨by rfl, rfl⟩) hS69 ?_
  simp only [Act.put, List.setIfInBounds_toArray, List.set_cons_zero, List.set_cons_succ]
  refine takeD (i := 14) (v := undef) (some 107) rfl rfl (by kernel_rfl) (by kernel_rfl) (by kernel_rfl) (fun _ _ _ h => h) (Or.inr ⟨by rfl, rfl⟩) hS69 ?_
  simp only [Act.put, List.setIfInBounds_toArray, List.set_cons_zero, List.set_cons_succ]
  refine takeD (i := 15) (v := .bool true) (some 108) rfl rfl (by kernel_rfl) (by kernel_rfl) (by kernel_rfl) (fun _ _ _ h => h) (Or.inl ⟨by rfl, by rintro w' -; go_simp⟩) hS69 ?_
  simp only [Act.put, List.setIfInBounds_toArray, List.set_cons_zero, List.set_cons_succ]
  refine takeD (i := 16) (v := .bool true) (some 2) rfl rfl (by kernel_rfl) (by kernel_rfl) (by kernel_rfl) (fun _ _ _ h => h) (Or.inl ⟨by rfl, by rintro w' -; go_simp⟩) hS69 ?_
  simp only [Act.put, List.setIfInBounds_toArray, List.set_cons_zero, List.set_cons_succ]
  refine wpAnyH_done (by kernel_rfl) ?_ _
  go_wp2_with fail
  go_ret
  exact ⟨rfl, BW.out.trans (HT_68.out.mono BW.out.size)⟩
set_option maxHeartbeats 4000000 in
set_option maxRecDepth 100000 in
theorem uniq_bad (v : Value) (b : List Nat) (w : World) (h0 : Bs w v b) (hb : b.length ≤ 60) (n : Nat) (r : List Nat) (hd : Cod.dec 0 b = some (n, r)) (hr : r.length < n) : Calls Try.prog 6 #[v] w (lawPost w) := by
  have EU := Lib.hid (Cod.rU_some hd : Cod.rU b false = _)
  have EI := Lib.hid (Cod.rI_some hd : Cod.rI b false = _)
  have EB := Lib.hid (Cod.rB_out hd hr : Cod.rB b false = _)
  have SP := Lib.hid (Cod.dec_spec0 h0.lt hd)
  have ZI := Lib.hid (Cod.zag_in SP.out.2)
  have T1 := Lib.hid (show b.take (Cod.enc n).length = Cod.enc n by rw [SP.out.1, List.take_left])
  have LS := Lib.hid (show b.length = (Cod.enc n).length + r.length by rw [SP.out.1, List.length_append])
  have H0 := Lib.hid h0
  obtain ⟨A0, c0, e0⟩ := h0.form
  obtain ⟨n0, en0⟩ : ∃ n, b.length = n := ⟨_, rfl⟩
  have EN := Lib.hid en0
  rw [en0] at e0 hb
  have F0 := Lib.hid (show Bs w (.slice A0 n0 c0) b by rw [← e0]; exact H0.out)
  have CAP := Lib.hid (show n0 ≤ c0 by have := F0.out.cap; omega)
  rw [e0]
  have g0 : ¬ (60 : Int) < (n0 : Int) := by omega
  have LB := Lib.hid hb
  clear h0 e0 en0 H0 hd
  rw [EN.out] at LS
  obtain ⟨k1, hk1⟩ : ∃ k, Cod.zag n = k := ⟨_, rfl⟩
  have UA := Lib.hid fun w => papu_any (.slice none 0 0) [] n w (Bs.nil_ _) SP.out.2 (by decide)
  have IA := Lib.hid fun w => papi_any (.slice none 0 0) [] (Cod.zag n) w (Bs.nil_ _) ZI.out.1 ZI.out.2 (by decide)
  rw [Cod.zig_zag, hk1] at IA
  rw [hk1] at EI
  simp only [List.nil_append] at UA IA
  clear hk1
  obtain ⟨R1, hR1⟩ : ∃ R, r.length = R := ⟨_, rfl⟩
  have HR1 := Lib.hid hR1
  rw [hR1] at LS
  obtain ⟨en, hen⟩ : ∃ l, Cod.enc n = l := ⟨_, rfl⟩
  rw [hen] at T1 UA IA LS
  obtain ⟨M1, hM1⟩ : ∃ k, en.length = k := ⟨_, rfl⟩
  rw [hM1] at T1 LS
  clear hM1 hR1 hen
  have W1 := wrap_sub LS.out (by have := LB.out; omega)
  have V1 := wrap_subk LS.out (by have := LB.out; omega)
  have S1 := take_run A0 n0 c0 M1 (by have := LS.out; omega) CAP.out
  have S1' := take_run2 A0 n0 c0 M1 (by have := LS.out; omega) CAP.out
  clear hr
  go_enter Try.func6, Try.ntmps6
  go_wp2_with fail
  refine (awake9 w).mono ?_
  rintro e w1 ⟨rfl, hb1⟩
  have F0_2 := Lib.hid (Bs.below F0.out (hb1))
  have hl3 := hb1
  have HT_4 : Hid (Below w.heap.size w w1) := Lib.hid (hl3)
  clear hb1 
  go_wp2_with fail
  have BW := Lib.hid HT_4.out
  have F1 := Lib.hid (F0_2.out)
  refine (pnew_any _ b w1 F0_2.out (by have := EN.out; have := LB.out; omega)).mono ?_
  rintro e x5 ⟨S1, o1, rfl, hn7, ho1, hb6⟩
  have GE1 := Lib.hid (show ∀ k, o1 k → w1.heap.size ≤ k from fun k hk => Nat.le_trans (Nat.le_refl _) (ho1 k hk))
  have F0_8 := Lib.hid (Bs.below F0_2.out (hb6))
  have hl9 := hb6
  have HT_10 : Hid (Below w1.heap.size w1 x5) := Lib.hid (hl9)
  have P1_11 := Lib.hid (hn7)
  clear hb6 hn7
  clear ho1
  go_wp2_with fail
  refine (pnew_any _ b x5 F0_8.out (by have := EN.out; have := LB.out; omega)).mono ?_
  rintro e x12 ⟨S2, o2, rfl, hn14, ho2, hb13⟩
  have GE2 := Lib.hid (show ∀ k, o2 k → w1.heap.size ≤ k from fun k hk => Nat.le_trans HT_10.out.size (ho2 k hk))
  have D12 := Lib.hid (show ∀ k, o1 k → ¬ o2 k from fun k hk h2 => by have := P1_11.out.lt k hk; have := ho2 k h2; omega)
  have F0_15 := Lib.hid (Bs.below F0_8.out (hb13))
  have P1_16 := Lib.hid (RdP.below P1_11.out (hb13))
  have hl17 := hb13
  have HT_18 : Hid (Below w1.heap.size w1 x12) := Lib.hid (HT_10.out.trans ((hl17).mono HT_10.out.size))
  have P2_19 := Lib.hid (hn14)
  clear hb13 hn14
  clear ho2
  go_wp2_with fail
  refine (pnew_any _ b x12 F0_15.out (by have := EN.out; have := LB.out; omega)).mono ?_
  rintro e x20 ⟨S3, o3, rfl, hn22, ho3, hb21⟩
  have GE3 := Lib.hid (show ∀ k, o3 k → w1.heap.size ≤ k from fun k hk => Nat.le_trans HT_18.out.size (ho3 k hk))
  have D13 := Lib.hid (show ∀ k, o1 k → ¬ o3 k from fun k hk h2 => by have := P1_16.out.lt k hk; have := ho3 k h2; omega)
  have D23 := Lib.hid (show ∀ k, o2 k → ¬ o3 k from fun k hk h2 => by have := P2_19.out.lt k hk; have := ho3 k h2; omega)
  have F0_23 := Lib.hid (Bs.below F0_15.out (hb21))
  have P1_24 := Lib.hid (RdP.below P1_16.out (hb21))
  have P2_25 := Lib.hid (RdP.below P2_19.out (hb21))
  have hl26 := hb21
  have HT_27 : Hid (Below w1.heap.size w1 x20) := Lib.hid (HT_18.out.trans ((hl26).mono HT_18.out.size))
  have P3_28 := Lib.hid (hn22)
  clear hb21 hn22
  clear ho3
  go_wp2_with fail
  have RD := Lib.hid (puint_any S1 b false o1 _ P1_24.out (by have := EN.out; have := LB.out; omega))
  unfold uPost at RD
  rw [EU.out] at RD
  refine RD.out.mono ?_
  rintro e x29 ⟨rfl, hrd, hc30⟩
  clear RD
  have P1_31 := Lib.hid hrd
  have P2_32 := Lib.hid (RdP.chg P2_25.out hc30 (fun k hk h2 => D12.out k h2 hk))
  have P3_33 := Lib.hid (RdP.chg P3_28.out hc30 (fun k hk h2 => D13.out k h2 hk))
  have HT_34 : Hid (Below w1.heap.size w1 x29) := Lib.hid (HT_27.out.trans (hc30.below HT_27.out.size GE1.out))
  have F0_35 := Lib.hid (F1.out.below HT_34.out)
  clear hc30 hrd
  go_wp2_with fail
  have RD := Lib.hid (pint_any S2 b false o2 _ P2_32.out (by have := EN.out; have := LB.out; omega))
  unfold iPost at RD
  rw [EI.out] at RD
  refine RD.out.mono ?_
  rintro e x36 ⟨rfl, hrd, hc37⟩
  clear RD
  have P1_38 := Lib.hid (RdP.chg P1_31.out hc37 (D12.out))
  have P2_39 := Lib.hid hrd
  have P3_40 := Lib.hid (RdP.chg P3_33.out hc37 (fun k hk h2 => D23.out k h2 hk))
  have HT_41 : Hid (Below w1.heap.size w1 x36) := Lib.hid (HT_34.out.trans (hc37.below HT_34.out.size GE2.out))
  have F0_42 := Lib.hid (F1.out.below HT_41.out)
  clear hc37 hrd
  go_wp2_with fail
  have RD := Lib.hid (pbytes_any S3 b false o3 _ P3_40.out (by have := EN.out; have := LB.out; omega))
  unfold bPost at RD
  rw [EB.out] at RD
  refine RD.out.mono ?_
  rintro e x43 ⟨vx, rfl, hbx, hnx, hrd, hc44⟩
  clear RD
  have P1_45 := Lib.hid (RdP.chg P1_38.out hc44 (D13.out))
  have P2_46 := Lib.hid (RdP.chg P2_39.out hc44 (D23.out))
  have P3_47 := Lib.hid hrd
  have HT_48 : Hid (Below w1.heap.size w1 x43) := Lib.hid (HT_41.out.trans (hc44.below HT_41.out.size GE3.out))
  have F0_49 := Lib.hid (F1.out.below HT_48.out)
  have BX := Lib.hid hbx
  obtain ⟨AX, cX, rfl⟩ := hbx.form
  clear hbx hnx
  clear hc44 hrd
  go_wp2_with fail
  refine wp_region_held (P := Try.prog) (S := (fun w' : World => Below x43.heap.size x43 w')) rfl ?_
  change wpAnyH _ _ _ _ _ _ _ _ x43.drew
  have hz51 : Below x43.heap.size x43 x43.drew := (Below.refl x43.heap.size x43).drew
  generalize x43.drew = wz50 at hz51 ⊢
  have F0_52 := Lib.hid (Bs.below F0_49.out (hz51))
  have P1_53 := Lib.hid (RdP.below P1_45.out (hz51))
  have P2_54 := Lib.hid (RdP.below P2_46.out (hz51))
  have P3_55 := Lib.hid (RdP.below P3_47.out (hz51))
  have BX_56 := Lib.hid (Bs.below BX.out (hz51))
  have hl57 := hz51
  have HT_58 : Hid (Below w1.heap.size w1 wz50) := Lib.hid (HT_48.out.trans ((hl57).mono HT_48.out.size))
  refine wpAnyH_up (S' := (fun w' : World => Below wz50.heap.size wz50 w')) (fun w' h => hz51.trans (h.mono hz51.size)) ?_
  have hS59 : (fun w' : World => Below wz50.heap.size wz50 w') wz50 := Below.refl _ _
  refine takeD (i := 0) (v := .int .i64 0) (some 59) rfl rfl (by kernel_rfl) (by kernel_rfl) (by kernel_rfl) (fun _ _ _ h => h) (Or.inl ⟨by rfl, by rintro w' -; go_simp⟩) hS59 ?_
  simp only [Act.put, List.setIfInBounds_toArray, List.set_cons_zero, List.set_cons_succ]
  refine takeD (i := 1) (v := .bool true) (some 60) rfl rfl (by kernel_rfl) (by kernel_rfl) (by kernel_rfl) (fun _ _ _ h => h) (Or.inl ⟨by rfl, by rintro w' -; go_simp⟩) hS59 ?_
  simp only [Act.put, List.setIfInBounds_toArray, List.set_cons_zero, List.set_cons_succ]
  refine takeD (i := 2) (v := .bool true) (some 61) rfl rfl (by kernel_rfl) (by kernel_rfl) (by kernel_rfl) (fun _ _ _ h => h) (Or.inl ⟨by rfl, by rintro w' -; go_simp⟩) hS59 ?_
  simp only [Act.put, List.setIfInBounds_toArray, List.set_cons_zero, List.set_cons_succ]
  refine takeD (i := 3) (v := .int .u64 (n : Int)) (some 62) rfl rfl (by kernel_rfl) (by kernel_rfl) (by kernel_rfl) (fun _ _ _ h => h) (Or.inl ⟨by rfl, by rintro w' -; go_simp⟩) hS59 ?_
  simp only [Act.put, List.setIfInBounds_toArray, List.set_cons_zero, List.set_cons_succ]
  refine takeD (i := 6) (v := .slice A0 n0 c0) (some 65) rfl rfl (by kernel_rfl) (by kernel_rfl) (by kernel_rfl) (fun _ _ _ h => h) (Or.inl ⟨by rfl, by rintro w' -; go_simp⟩) hS59 ?_
  simp only [Act.put, List.setIfInBounds_toArray, List.set_cons_zero, List.set_cons_succ]
  refine takeD (i := 7) (v := .slice A0 n0 c0) (some 66) rfl rfl (by kernel_rfl) (by kernel_rfl) (by kernel_rfl) (fun _ _ _ h => h) (Or.inl ⟨by rfl, by rintro w' -; go_simp⟩) hS59 ?_
  simp only [Act.put, List.setIfInBounds_toArray, List.set_cons_zero, List.set_cons_succ]
  refine takeD (i := 8) (v := .int .i64 (n0 : Int)) (some 67) rfl rfl (by kernel_rfl) (by kernel_rfl) (by kernel_rfl) (fun _ _ _ h => h) (Or.inl ⟨by rfl, by rintro w' -; go_simp⟩) hS59 ?_
  simp only [Act.put, List.setIfInBounds_toArray, List.set_cons_zero, List.set_cons_succ]
  refine takeD (i := 9) (v := .pointer (some ⟨S1, 0, none⟩)) (some 68) rfl rfl (by kernel_rfl) (by kernel_rfl) (by kernel_rfl) (fun _ _ _ h => h) (Or.inl ⟨by rfl, by rintro w' -; go_simp⟩) hS59 ?_
  simp only [Act.put, List.setIfInBounds_toArray, List.set_cons_zero, List.set_cons_succ]
  refine wpAnyH_ready (rs := [4]) (by kernel_rfl) (by simp) ?_
  refine AllReadyH.cons rfl (fun K60 hK60 => ?_) AllReadyH.nil
  have HK60 := Lib.hid hK60
  clear hK60
  rw [if_pos (by rfl)]
  go_simp
  refine (UA.out _).mono ?_
  rintro e x61 ⟨v63, rfl, hn63, hb62⟩
  have F0_64 := Lib.hid (Bs.below F0_52.out (hb62))
  have P1_65 := Lib.hid (RdP.below P1_53.out (hb62))
  have P2_66 := Lib.hid (RdP.below P2_54.out (hb62))
  have P3_67 := Lib.hid (RdP.below P3_55.out (hb62))
  have BX_68 := Lib.hid (Bs.below BX_56.out (hb62))
  have hl69 := hb62
  have HT_70 : Hid (Below w1.heap.size w1 x61) := Lib.hid (HT_58.out.trans ((hl69).mono HT_58.out.size))
  have fa63_71 := Lib.hid ((hn63).bs)
  clear hb62 hn63
  have hb73 : Below wz50.heap.size wz50 x61 := hl69
  have hS72 : (fun w' : World => Below wz50.heap.size wz50 w') x61 := hb73
  refine HK60.out _ _ hS72 fun _ => ?_
  try simp only [Act.put, List.setIfInBounds_toArray, List.set_cons_zero, List.set_cons_succ]
  refine wpAnyH_up (S' := (fun w' : World => Below x61.heap.size x61 w')) (fun w' h => hb73.trans (h.mono hb73.size)) ?_
  have hS74 : (fun w' : World => Below x61.heap.size x61 w') x61 := Below.refl _ _
  refine takeD (i := 5) (v := .string (strOf en)) (some 64) rfl rfl (by kernel_rfl) (by kernel_rfl) (by kernel_rfl) (fun _ _ _ h => h) (Or.inl ⟨by rfl, by rintro w' h; have hc := conv_bs 22 5 9 Try.underlying22 Try.underlying5 Try.underlying9 ((fa63_71.out).below h); go_simp⟩) hS74 ?_
  simp only [Act.put, List.setIfInBounds_toArray, List.set_cons_zero, List.set_cons_succ]
  refine wpAnyH_ready (rs := [10]) (by kernel_rfl) (by simp) ?_
  refine AllReadyH.cons rfl (fun K75 hK75 => ?_) AllReadyH.nil
  have HK75 := Lib.hid hK75
  clear hK75
  rw [if_pos (by rfl)]
  go_simp
  refine (pleft_any S1 r false o1 _ P1_65.out (by have := LS.out; have := LB.out; have := HR1.out; omega)).mono ?_
  rintro e x76 ⟨rfl, hb77⟩
  have F0_78 := Lib.hid (Bs.below F0_64.out (hb77))
  have P1_79 := Lib.hid (RdP.below P1_65.out (hb77))
  have P2_80 := Lib.hid (RdP.below P2_66.out (hb77))
  have P3_81 := Lib.hid (RdP.below P3_67.out (hb77))
  have BX_82 := Lib.hid (Bs.below BX_68.out (hb77))
  have fa63_83 := Lib.hid (Bs.below fa63_71.out (hb77))
  have hl84 := hb77
  have HT_85 : Hid (Below w1.heap.size w1 x76) := Lib.hid (HT_70.out.trans ((hl84).mono HT_70.out.size))
  clear hb77 
  try rw [HR1.out]
  have hb87 : Below x61.heap.size x61 x76 := hl84
  have hS86 : (fun w' : World => Below x61.heap.size x61 w') x76 := hb87
  refine HK75.out _ _ hS86 fun _ => ?_
  try simp only [Act.put, List.setIfInBounds_toArray, List.set_cons_zero, List.set_cons_succ]
  refine wpAnyH_up (S' := (fun w' : World => Below x76.heap.size x76 w')) (fun w' h => hb87.trans (h.mono hb87.size)) ?_
  have hS88 : (fun w' : World => Below x76.heap.size x76 w') x76 := Below.refl _ _
  refine takeD (i := 11) (v := .int .i64 (M1 : Int)) (some 70) rfl rfl (by kernel_rfl) (by kernel_rfl) (by kernel_rfl) (fun _ _ _ h => h) (Or.inl ⟨by rfl, by rintro w' -; go_simp⟩) hS88 ?_
  simp only [Act.put, List.setIfInBounds_toArray, List.set_cons_zero, List.set_cons_succ]
  refine takeD (i := 12) (v := .slice A0 M1 c0) (some 71) rfl rfl (by kernel_rfl) (by kernel_rfl) (by kernel_rfl) (fun _ _ _ h => h) (Or.inl ⟨by rfl, by rintro w' -; go_simp⟩) hS88 ?_
  simp only [Act.put, List.setIfInBounds_toArray, List.set_cons_zero, List.set_cons_succ]
  refine takeD (i := 13) (v := .string (strOf en)) (some 72) rfl rfl (by kernel_rfl) (by kernel_rfl) (by kernel_rfl) (fun _ _ _ h => h) (Or.inl ⟨by rfl, by rintro w' h; have hc := conv_bs 22 5 9 Try.underlying22 Try.underlying5 Try.underlying9 (show Bs w' (.slice A0 M1 c0) en by rw [← T1.out]; exact bs_take ((F0_78.out).below h) (by have := LS.out; have := LB.out; omega)); go_simp⟩) hS88 ?_
  simp only [Act.put, List.setIfInBounds_toArray, List.set_cons_zero, List.set_cons_succ]
  refine takeD (i := 14) (v := .bool false) (some 73) rfl rfl (by kernel_rfl) (by kernel_rfl) (by kernel_rfl) (fun _ _ _ h => h) (Or.inl ⟨by rfl, by rintro w' -; go_simp⟩) hS88 ?_
  simp only [Act.put, List.setIfInBounds_toArray, List.set_cons_zero, List.set_cons_succ]
  refine takeD (i := 15) (v := .bool false) (some 74) rfl rfl (by kernel_rfl) (by kernel_rfl) (by kernel_rfl) (fun _ _ _ h => h) (Or.inl ⟨by rfl, by rintro w' -; go_simp⟩) hS88 ?_
  simp only [Act.put, List.setIfInBounds_toArray, List.set_cons_zero, List.set_cons_succ]
  refine takeD (i := 16) (v := .bool false) (some 75) rfl rfl (by kernel_rfl) (by kernel_rfl) (by kernel_rfl) (fun _ _ _ h => h) (Or.inl ⟨by rfl, by rintro w' -; go_simp⟩) hS88 ?_
  simp only [Act.put, List.setIfInBounds_toArray, List.set_cons_zero, List.set_cons_succ]
  refine takeD (i := 17) (v := .int .i64 0) (some 76) rfl rfl (by kernel_rfl) (by kernel_rfl) (by kernel_rfl) (fun _ _ _ h => h) (Or.inl ⟨by rfl, by rintro w' -; go_simp⟩) hS88 ?_
  simp only [Act.put, List.setIfInBounds_toArray, List.set_cons_zero, List.set_cons_succ]
  refine takeD (i := 18) (v := .bool true) (some 77) rfl rfl (by kernel_rfl) (by kernel_rfl) (by kernel_rfl) (fun _ _ _ h => h) (Or.inl ⟨by rfl, by rintro w' -; go_simp⟩) hS88 ?_
  simp only [Act.put, List.setIfInBounds_toArray, List.set_cons_zero, List.set_cons_succ]
  refine takeD (i := 19) (v := .bool true) (some 78) rfl rfl (by kernel_rfl) (by kernel_rfl) (by kernel_rfl) (fun _ _ _ h => h) (Or.inl ⟨by rfl, by rintro w' -; go_simp⟩) hS88 ?_
  simp only [Act.put, List.setIfInBounds_toArray, List.set_cons_zero, List.set_cons_succ]
  refine takeD (i := 20) (v := .int .i64 k1) (some 79) rfl rfl (by kernel_rfl) (by kernel_rfl) (by kernel_rfl) (fun _ _ _ h => h) (Or.inl ⟨by rfl, by rintro w' -; go_simp⟩) hS88 ?_
  simp only [Act.put, List.setIfInBounds_toArray, List.set_cons_zero, List.set_cons_succ]
  refine takeD (i := 23) (v := .slice A0 n0 c0) (some 82) rfl rfl (by kernel_rfl) (by kernel_rfl) (by kernel_rfl) (fun _ _ _ h => h) (Or.inl ⟨by rfl, by rintro w' -; go_simp⟩) hS88 ?_
  simp only [Act.put, List.setIfInBounds_toArray, List.set_cons_zero, List.set_cons_succ]
  refine takeD (i := 24) (v := .slice A0 n0 c0) (some 83) rfl rfl (by kernel_rfl) (by kernel_rfl) (by kernel_rfl) (fun _ _ _ h => h) (Or.inl ⟨by rfl, by rintro w' -; go_simp⟩) hS88 ?_
  simp only [Act.put, List.setIfInBounds_toArray, List.set_cons_zero, List.set_cons_succ]
  refine takeD (i := 25) (v := .int .i64 (n0 : Int)) (some 84) rfl rfl (by kernel_rfl) (by kernel_rfl) (by kernel_rfl) (fun _ _ _ h => h) (Or.inl ⟨by rfl, by rintro w' -; go_simp⟩) hS88 ?_
  simp only [Act.put, List.setIfInBounds_toArray, List.set_cons_zero, List.set_cons_succ]
  refine takeD (i := 26) (v := .pointer (some ⟨S2, 0, none⟩)) (some 85) rfl rfl (by kernel_rfl) (by kernel_rfl) (by kernel_rfl) (fun _ _ _ h => h) (Or.inl ⟨by rfl, by rintro w' -; go_simp⟩) hS88 ?_
  simp only [Act.put, List.setIfInBounds_toArray, List.set_cons_zero, List.set_cons_succ]
  refine wpAnyH_ready (rs := [21]) (by kernel_rfl) (by simp) ?_
  refine AllReadyH.cons rfl (fun K89 hK89 => ?_) AllReadyH.nil
  have HK89 := Lib.hid hK89
  clear hK89
  rw [if_pos (by rfl)]
  go_simp
  refine (IA.out _).mono ?_
  rintro e x90 ⟨v80, rfl, hn92, hb91⟩
  have F0_93 := Lib.hid (Bs.below F0_78.out (hb91))
  have P1_94 := Lib.hid (RdP.below P1_79.out (hb91))
  have P2_95 := Lib.hid (RdP.below P2_80.out (hb91))
  have P3_96 := Lib.hid (RdP.below P3_81.out (hb91))
  have BX_97 := Lib.hid (Bs.below BX_82.out (hb91))
  have fa63_98 := Lib.hid (Bs.below fa63_83.out (hb91))
  have hl99 := hb91
  have HT_100 : Hid (Below w1.heap.size w1 x90) := Lib.hid (HT_85.out.trans ((hl99).mono HT_85.out.size))
  have fa80_101 := Lib.hid ((hn92).bs)
  clear hb91 hn92
  have hb103 : Below x76.heap.size x76 x90 := hl99
  have hS102 : (fun w' : World => Below x76.heap.size x76 w') x90 := hb103
  refine HK89.out _ _ hS102 fun _ => ?_
  try simp only [Act.put, List.setIfInBounds_toArray, List.set_cons_zero, List.set_cons_succ]
  refine wpAnyH_up (S' := (fun w' : World => Below x90.heap.size x90 w')) (fun w' h => hb103.trans (h.mono hb103.size)) ?_
  have hS104 : (fun w' : World => Below x90.heap.size x90 w') x90 := Below.refl _ _
  refine takeD (i := 22) (v := .string (strOf en)) (some 81) rfl rfl (by kernel_rfl) (by kernel_rfl) (by kernel_rfl) (fun _ _ _ h => h) (Or.inl ⟨by rfl, by rintro w' h; have hc := conv_bs 22 5 9 Try.underlying22 Try.underlying5 Try.underlying9 ((fa80_101.out).below h); go_simp⟩) hS104 ?_
  simp only [Act.put, List.setIfInBounds_toArray, List.set_cons_zero, List.set_cons_succ]
  refine wpAnyH_ready (rs := [27]) (by kernel_rfl) (by simp) ?_
  refine AllReadyH.cons rfl (fun K105 hK105 => ?_) AllReadyH.nil
  have HK105 := Lib.hid hK105
  clear hK105
  rw [if_pos (by rfl)]
  go_simp
  refine (pleft_any S2 r false o2 _ P2_95.out (by have := LS.out; have := LB.out; have := HR1.out; omega)).mono ?_
  rintro e x106 ⟨rfl, hb107⟩
  have F0_108 := Lib.hid (Bs.below F0_93.out (hb107))
  have P1_109 := Lib.hid (RdP.below P1_94.out (hb107))
  have P2_110 := Lib.hid (RdP.below P2_95.out (hb107))
  have P3_111 := Lib.hid (RdP.below P3_96.out (hb107))
  have BX_112 := Lib.hid (Bs.below BX_97.out (hb107))
  have fa63_113 := Lib.hid (Bs.below fa63_98.out (hb107))
  have fa80_114 := Lib.hid (Bs.below fa80_101.out (hb107))
  have hl115 := hb107
  have HT_116 : Hid (Below w1.heap.size w1 x106) := Lib.hid (HT_100.out.trans ((hl115).mono HT_100.out.size))
  clear hb107 
  try rw [HR1.out]
  have hb118 : Below x90.heap.size x90 x106 := hl115
  have hS117 : (fun w' : World => Below x90.heap.size x90 w') x106 := hb118
  refine HK105.out _ _ hS117 fun _ => ?_
  try simp only [Act.put, List.setIfInBounds_toArray, List.set_cons_zero, List.set_cons_succ]
  refine wpAnyH_up (S' := (fun w' : World => Below x106.heap.size x106 w')) (fun w' h => hb118.trans (h.mono hb118.size)) ?_
  have hS119 : (fun w' : World => Below x106.heap.size x106 w') x106 := Below.refl _ _
  refine takeD (i := 28) (v := .int .i64 (M1 : Int)) (some 87) rfl rfl (by kernel_rfl) (by kernel_rfl) (by kernel_rfl) (fun _ _ _ h => h) (Or.inl ⟨by rfl, by rintro w' -; go_simp⟩) hS119 ?_
  simp only [Act.put, List.setIfInBounds_toArray, List.set_cons_zero, List.set_cons_succ]
  refine takeD (i := 29) (v := .slice A0 M1 c0) (some 88) rfl rfl (by kernel_rfl) (by kernel_rfl) (by kernel_rfl) (fun _ _ _ h => h) (Or.inl ⟨by rfl, by rintro w' -; go_simp⟩) hS119 ?_
  simp only [Act.put, List.setIfInBounds_toArray, List.set_cons_zero, List.set_cons_succ]
  refine takeD (i := 30) (v := .string (strOf en)) (some 89) rfl rfl (by kernel_rfl) (by kernel_rfl) (by kernel_rfl) (fun _ _ _ h => h) (Or.inl ⟨by rfl, by rintro w' h; have hc := conv_bs 22 5 9 Try.underlying22 Try.underlying5 Try.underlying9 (show Bs w' (.slice A0 M1 c0) en by rw [← T1.out]; exact bs_take ((F0_108.out).below h) (by have := LS.out; have := LB.out; omega)); go_simp⟩) hS119 ?_
  simp only [Act.put, List.setIfInBounds_toArray, List.set_cons_zero, List.set_cons_succ]
  refine takeD (i := 31) (v := .bool false) (some 90) rfl rfl (by kernel_rfl) (by kernel_rfl) (by kernel_rfl) (fun _ _ _ h => h) (Or.inl ⟨by rfl, by rintro w' -; go_simp⟩) hS119 ?_
  simp only [Act.put, List.setIfInBounds_toArray, List.set_cons_zero, List.set_cons_succ]
  refine takeD (i := 32) (v := .bool false) (some 91) rfl rfl (by kernel_rfl) (by kernel_rfl) (by kernel_rfl) (fun _ _ _ h => h) (Or.inl ⟨by rfl, by rintro w' -; go_simp⟩) hS119 ?_
  simp only [Act.put, List.setIfInBounds_toArray, List.set_cons_zero, List.set_cons_succ]
  refine takeD (i := 33) (v := .bool false) (some 92) rfl rfl (by kernel_rfl) (by kernel_rfl) (by kernel_rfl) (fun _ _ _ h => h) (Or.inl ⟨by rfl, by rintro w' -; go_simp⟩) hS119 ?_
  simp only [Act.put, List.setIfInBounds_toArray, List.set_cons_zero, List.set_cons_succ]
  refine wpAnyH_done (by kernel_rfl) ?_ _
  go_wp2_with fail
  refine wp_region_held (P := Try.prog) (S := (fun w' : World => Below x106.heap.size x106 w')) rfl ?_
  change wpAnyH _ _ _ _ _ _ _ _ x106.drew
  have hz121 : Below x106.heap.size x106 x106.drew := (Below.refl x106.heap.size x106).drew
  generalize x106.drew = wz120 at hz121 ⊢
  have F0_122 := Lib.hid (Bs.below F0_108.out (hz121))
  have P1_123 := Lib.hid (RdP.below P1_109.out (hz121))
  have P2_124 := Lib.hid (RdP.below P2_110.out (hz121))
  have P3_125 := Lib.hid (RdP.below P3_111.out (hz121))
  have BX_126 := Lib.hid (Bs.below BX_112.out (hz121))
  have fa63_127 := Lib.hid (Bs.below fa63_113.out (hz121))
  have fa80_128 := Lib.hid (Bs.below fa80_114.out (hz121))
  have hl129 := hz121
  have HT_130 : Hid (Below w1.heap.size w1 wz120) := Lib.hid (HT_116.out.trans ((hl129).mono HT_116.out.size))
  refine wpAnyH_up (S' := (fun w' : World => Below wz120.heap.size wz120 w')) (fun w' h => hz121.trans (h.mono hz121.size)) ?_
  have hS131 : (fun w' : World => Below wz120.heap.size wz120 w') wz120 := Below.refl _ _
  refine takeD (i := 0) (v := .int .i64 5) (some 93) rfl rfl (by kernel_rfl) (by kernel_rfl) (by kernel_rfl) (fun _ _ _ h => h) (Or.inl ⟨by rfl, by rintro w' -; go_simp⟩) hS131 ?_
  simp only [Act.put, List.setIfInBounds_toArray, List.set_cons_zero, List.set_cons_succ]
  refine takeD (i := 1) (v := .bool true) (some 94) rfl rfl (by kernel_rfl) (by kernel_rfl) (by kernel_rfl) (fun _ _ _ h => h) (Or.inl ⟨by rfl, by rintro w' -; go_simp⟩) hS131 ?_
  simp only [Act.put, List.setIfInBounds_toArray, List.set_cons_zero, List.set_cons_succ]
  refine takeD (i := 2) (v := .bool true) (some 95) rfl rfl (by kernel_rfl) (by kernel_rfl) (by kernel_rfl) (fun _ _ _ h => h) (Or.inl ⟨by rfl, by rintro w' -; go_simp⟩) hS131 ?_
  simp only [Act.put, List.setIfInBounds_toArray, List.set_cons_zero, List.set_cons_succ]
  refine takeD (i := 3) (v := undef) (some 96) rfl rfl (by kernel_rfl) (by kernel_rfl) (by kernel_rfl) (fun _ _ _ h => h) (Or.inr ⟨by rfl, rfl⟩) hS131 ?_
  simp only [Act.put, List.setIfInBounds_toArray, List.set_cons_zero, List.set_cons_succ]
  refine takeD (i := 4) (v := undef) (some 97) rfl rfl (by kernel_rfl) (by kernel_rfl) (by kernel_rfl) (fun _ _ _ h => h) (Or.inr ⟨by rfl, rfl⟩) hS131 ?_
  simp only [Act.put, List.setIfInBounds_toArray, List.set_cons_zero, List.set_cons_succ]
  refine takeD (i := 5) (v := undef) (some 98) rfl rfl (by kernel_rfl) (by kernel_rfl) (by kernel_rfl) (fun _ _ _ h => h) (Or.inr ⟨by rfl, rfl⟩) hS131 ?_
  simp only [Act.put, List.setIfInBounds_toArray, List.set_cons_zero, List.set_cons_succ]
  refine takeD (i := 6) (v := undef) (some 99) rfl rfl (by kernel_rfl) (by kernel_rfl) (by kernel_rfl) (fun _ _ _ h => h) (Or.inr ⟨by rfl, rfl⟩) hS131 ?_
  simp only [Act.put, List.setIfInBounds_toArray, List.set_cons_zero, List.set_cons_succ]
  refine takeD (i := 7) (v := undef) (some 100) rfl rfl (by kernel_rfl) (by kernel_rfl) (by kernel_rfl) (fun _ _ _ h => h) (Or.inr ⟨by rfl, rfl⟩) hS131 ?_
  simp only [Act.put, List.setIfInBounds_toArray, List.set_cons_zero, List.set_cons_succ]
  refine takeD (i := 8) (v := undef) (some 101) rfl rfl (by kernel_rfl) (by kernel_rfl) (by kernel_rfl) (fun _ _ _ h => h) (Or.inr ⟨by rfl, rfl⟩) hS131 ?_
  simp only [Act.put, List.setIfInBounds_toArray, List.set_cons_zero, List.set_cons_succ]
  refine takeD (i := 9) (v := undef) (some 102) rfl rfl (by kernel_rfl) (by kernel_rfl) (by kernel_rfl) (fun _ _ _ h => h) (Or.inr ⟨by rfl, rfl⟩) hS131 ?_
  simp only [Act.put, List.setIfInBounds_toArray, List.set_cons_zero, List.set_cons_succ]
  refine takeD (i := 10) (v := undef) (some 103) rfl rfl (by kernel_rfl) (by kernel_rfl) (by kernel_rfl) (fun _ _ _ h => h) (Or.inr ⟨by rfl, rfl⟩) hS131 ?_
  simp only [Act.put, List.setIfInBounds_toArray, List.set_cons_zero, List.set_cons_succ]
  refine takeD (i := 11) (v := undef) (some 104) rfl rfl (by kernel_rfl) (by kernel_rfl) (by kernel_rfl) (fun _ _ _ h => h) (Or.inr ⟨by rfl, rfl⟩) hS131 ?_
  simp only [Act.put, List.setIfInBounds_toArray, List.set_cons_zero, List.set_cons_succ]
  refine takeD (i := 12) (v := undef) (some 105) rfl rfl (by kernel_rfl) (by kernel_rfl) (by kernel_rfl) (fun _ _ _ h => h) (Or.inr ⟨by rfl, rfl⟩) hS131 ?_
  simp only [Act.put, List.setIfInBounds_toArray, List.set_cons_zero, List.set_cons_succ]
  refine takeD (i := 13) (v := undef) (some 106) rfl rfl (by kernel_rfl) (by kernel_rfl) (by kernel_rfl) (fun _ _ _ h => h) (Or.inr ⟨by rfl, rfl⟩) hS131 ?_
  simp only [Act.put, List.setIfInBounds_toArray, List.set_cons_zero, List.set_cons_succ]
  refine takeD (i := 14) (v := undef) (some 107) rfl rfl (by kernel_rfl) (by kernel_rfl) (by kernel_rfl) (fun _ _ _ h => h) (Or.inr ⟨by rfl, rfl⟩) hS131 ?_
  simp only [Act.put, List.setIfInBounds_toArray, List.set_cons_zero, List.set_cons_succ]
  refine takeD (i := 15) (v := .bool true) (some 108) rfl rfl (by kernel_rfl) (by kernel_rfl) (by kernel_rfl) (fun _ _ _ h => h) (Or.inl ⟨by rfl, by rintro w' -; go_simp⟩) hS131 ?_
  simp only [Act.put, List.setIfInBounds_toArray, List.set_cons_zero, List.set_cons_succ]
  refine takeD (i := 16) (v := .bool true) (some 2) rfl rfl (by kernel_rfl) (by kernel_rfl) (by kernel_rfl) (fun _ _ _ h => h) (Or.inl ⟨by rfl, by rintro w' -; go_simp⟩) hS131 ?_
  simp only [Act.put, List.setIfInBounds_toArray, List.set_cons_zero, List.set_cons_succ]
  refine wpAnyH_done (by kernel_rfl) ?_ _
  go_wp2_with fail
  go_ret
  exact ⟨rfl, BW.out.trans (HT_130.out.mono BW.out.size)⟩
set_option maxHeartbeats 4000000 in
set_option maxRecDepth 100000 in
theorem uniq_ok (v : Value) (b : List Nat) (w : World) (h0 : Bs w v b) (hb : b.length ≤ 60) (n : Nat) (r : List Nat) (hd : Cod.dec 0 b = some (n, r)) (hr : n ≤ r.length) : Calls Try.prog 6 #[v] w (lawPost w) := by
  have EU := Lib.hid (Cod.rU_some hd : Cod.rU b false = _)
  have EI := Lib.hid (Cod.rI_some hd : Cod.rI b false = _)
  have EB := Lib.hid (Cod.rB_in hd hr : Cod.rB b false = _)
  have SP := Lib.hid (Cod.dec_spec0 h0.lt hd)
  have ZI := Lib.hid (Cod.zag_in SP.out.2)
  have T1 := Lib.hid (show b.take (Cod.enc n).length = Cod.enc n by rw [SP.out.1, List.take_left])
  have LS := Lib.hid (show b.length = (Cod.enc n).length + r.length by rw [SP.out.1, List.length_append])
  have LT := Lib.hid (show (r.take n).length = n by rw [List.length_take]; omega)
  have T2 := Lib.hid (show b.take (Cod.enc n ++ r.take n).length = Cod.enc n ++ r.take n by
    have : b = (Cod.enc n ++ r.take n) ++ r.drop n := by rw [List.append_assoc, List.take_append_drop]; exact SP.out.1
    rw [this, List.take_left])
  have LS2 := Lib.hid (show b.length = (Cod.enc n ++ r.take n).length + (r.drop n).length by
    have : b = (Cod.enc n ++ r.take n) ++ r.drop n := by rw [List.append_assoc, List.take_append_drop]; exact SP.out.1
    conv => lhs; rw [this]
    rw [List.length_append])
  have H0 := Lib.hid h0
  obtain ⟨A0, c0, e0⟩ := h0.form
  obtain ⟨n0, en0⟩ : ∃ n, b.length = n := ⟨_, rfl⟩
  have EN := Lib.hid en0
  rw [en0] at e0 hb
  have F0 := Lib.hid (show Bs w (.slice A0 n0 c0) b by rw [← e0]; exact H0.out)
  have CAP := Lib.hid (show n0 ≤ c0 by have := F0.out.cap; omega)
  rw [e0]
  have g0 : ¬ (60 : Int) < (n0 : Int) := by omega
  have LB := Lib.hid hb
  clear h0 e0 en0 H0 hd
  rw [EN.out] at LS
  rw [EN.out] at LS2
  obtain ⟨k1, hk1⟩ : ∃ k, Cod.zag n = k := ⟨_, rfl⟩
  have UA := Lib.hid fun w => papu_any (.slice none 0 0) [] n w (Bs.nil_ _) SP.out.2 (by decide)
  have IA := Lib.hid fun w => papi_any (.slice none 0 0) [] (Cod.zag n) w (Bs.nil_ _) ZI.out.1 ZI.out.2 (by decide)
  rw [Cod.zig_zag, hk1] at IA
  rw [hk1] at EI
  simp only [List.nil_append] at UA IA
  clear hk1
  obtain ⟨R1, hR1⟩ : ∃ R, r.length = R := ⟨_, rfl⟩
  have HR1 := Lib.hid hR1
  rw [hR1] at LS
  have BA := Lib.hid fun w v (h : Bs w v (r.take n)) => papb_any (.slice none 0 0) v [] (r.take n) w (Bs.nil_ _) h (by decide) (by have := LT.out; have := LS.out; have := LB.out; omega)
  simp only [List.nil_append, LT.out] at BA
  obtain ⟨xs, hxs⟩ : ∃ l, r.take n = l := ⟨_, rfl⟩
  obtain ⟨ds, hds⟩ : ∃ l, r.drop n = l := ⟨_, rfl⟩
  rw [hxs, hds] at EB LS2
  rw [hxs] at T2 BA LT
  obtain ⟨y, hy⟩ : ∃ l, Cod.enc n ++ xs = l := ⟨_, rfl⟩
  rw [hy] at T2 BA LS2
  obtain ⟨M2, hM2⟩ : ∃ k, y.length = k := ⟨_, rfl⟩
  obtain ⟨R2, hR2⟩ : ∃ k, ds.length = k := ⟨_, rfl⟩
  rw [hM2, hR2] at LS2
  rw [hM2] at T2
  have HR2 := Lib.hid hR2
  clear hxs hds hy hM2 hR2
  obtain ⟨en, hen⟩ : ∃ l, Cod.enc n = l := ⟨_, rfl⟩
  rw [hen] at T1 UA IA LS
  obtain ⟨M1, hM1⟩ : ∃ k, en.length = k := ⟨_, rfl⟩
  rw [hM1] at T1 LS
  clear hM1 hR1 hen
  have W1 := wrap_sub LS.out (by have := LB.out; omega)
  have V1 := wrap_subk LS.out (by have := LB.out; omega)
  have S1 := take_run A0 n0 c0 M1 (by have := LS.out; omega) CAP.out
  have S1' := take_run2 A0 n0 c0 M1 (by have := LS.out; omega) CAP.out
  have W2 := wrap_sub LS2.out (by have := LB.out; omega)
  have V2 := wrap_subk LS2.out (by have := LB.out; omega)
  have S2 := take_run A0 n0 c0 M2 (by have := LS2.out; omega) CAP.out
  have S2' := take_run2 A0 n0 c0 M2 (by have := LS2.out; omega) CAP.out
  clear hr
  go_enter Try.func6, Try.ntmps6
  go_wp2_with fail
  refine (awake9 w).mono ?_
  rintro e w1 ⟨rfl, hb1⟩
  have F0_2 := Lib.hid (Bs.below F0.out (hb1))
  have hl3 := hb1
  have HT_4 : Hid (Below w.heap.size w w1) := Lib.hid (hl3)
  clear hb1 
  go_wp2_with fail
  have BW := Lib.hid HT_4.out
  have F1 := Lib.hid (F0_2.out)
  refine (pnew_any _ b w1 F0_2.out (by have := EN.out; have := LB.out; omega)).mono ?_
  rintro e x5 ⟨S1, o1, rfl, hn7, ho1, hb6⟩
  have GE1 := Lib.hid (show ∀ k, o1 k → w1.heap.size ≤ k from fun k hk => Nat.le_trans (Nat.le_refl _) (ho1 k hk))
  have F0_8 := Lib.hid (Bs.below F0_2.out (hb6))
  have hl9 := hb6
  have HT_10 : Hid (Below w1.heap.size w1 x5) := Lib.hid (hl9)
  have P1_11 := Lib.hid (hn7)
  clear hb6 hn7
  clear ho1
  go_wp2_with fail
  refine (pnew_any _ b x5 F0_8.out (by have := EN.out; have := LB.out; omega)).mono ?_
  rintro e x12 ⟨S2, o2, rfl, hn14, ho2, hb13⟩
  have GE2 := Lib.hid (show ∀ k, o2 k → w1.heap.size ≤ k from fun k hk => Nat.le_trans HT_10.out.size (ho2 k hk))
  have D12 := Lib.hid (show ∀ k, o1 k → ¬ o2 k from fun k hk h2 => by have := P1_11.out.lt k hk; have := ho2 k h2; omega)
  have F0_15 := Lib.hid (Bs.below F0_8.out (hb13))
  have P1_16 := Lib.hid (RdP.below P1_11.out (hb13))
  have hl17 := hb13
  have HT_18 : Hid (Below w1.heap.size w1 x12) := Lib.hid (HT_10.out.trans ((hl17).mono HT_10.out.size))
  have P2_19 := Lib.hid (hn14)
  clear hb13 hn14
  clear ho2
  go_wp2_with fail
  refine (pnew_any _ b x12 F0_15.out (by have := EN.out; have := LB.out; omega)).mono ?_
  rintro e x20 ⟨S3, o3, rfl, hn22, ho3, hb21⟩
  have GE3 := Lib.hid (show ∀ k, o3 k → w1.heap.size ≤ k from fun k hk => Nat.le_trans HT_18.out.size (ho3 k hk))
  have D13 := Lib.hid (show ∀ k, o1 k → ¬ o3 k from fun k hk h2 => by have := P1_16.out.lt k hk; have := ho3 k h2; omega)
  have D23 := Lib.hid (show ∀ k, o2 k → ¬ o3 k from fun k hk h2 => by have := P2_19.out.lt k hk; have := ho3 k h2; omega)
  have F0_23 := Lib.hid (Bs.below F0_15.out (hb21))
  have P1_24 := Lib.hid (RdP.below P1_16.out (hb21))
  have P2_25 := Lib.hid (RdP.below P2_19.out (hb21))
  have hl26 := hb21
  have HT_27 : Hid (Below w1.heap.size w1 x20) := Lib.hid (HT_18.out.trans ((hl26).mono HT_18.out.size))
  have P3_28 := Lib.hid (hn22)
  clear hb21 hn22
  clear ho3
  go_wp2_with fail
  have RD := Lib.hid (puint_any S1 b false o1 _ P1_24.out (by have := EN.out; have := LB.out; omega))
  unfold uPost at RD
  rw [EU.out] at RD
  refine RD.out.mono ?_
  rintro e x29 ⟨rfl, hrd, hc30⟩
  clear RD
  have P1_31 := Lib.hid hrd
  have P2_32 := Lib.hid (RdP.chg P2_25.out hc30 (fun k hk h2 => D12.out k h2 hk))
  have P3_33 := Lib.hid (RdP.chg P3_28.out hc30 (fun k hk h2 => D13.out k h2 hk))
  have HT_34 : Hid (Below w1.heap.size w1 x29) := Lib.hid (HT_27.out.trans (hc30.below HT_27.out.size GE1.out))
  have F0_35 := Lib.hid (F1.out.below HT_34.out)
  clear hc30 hrd
  go_wp2_with fail
  have RD := Lib.hid (pint_any S2 b false o2 _ P2_32.out (by have := EN.out; have := LB.out; omega))
  unfold iPost at RD
  rw [EI.out] at RD
  refine RD.out.mono ?_
  rintro e x36 ⟨rfl, hrd, hc37⟩
  clear RD
  have P1_38 := Lib.hid (RdP.chg P1_31.out hc37 (D12.out))
  have P2_39 := Lib.hid hrd
  have P3_40 := Lib.hid (RdP.chg P3_33.out hc37 (fun k hk h2 => D23.out k h2 hk))
  have HT_41 : Hid (Below w1.heap.size w1 x36) := Lib.hid (HT_34.out.trans (hc37.below HT_34.out.size GE2.out))
  have F0_42 := Lib.hid (F1.out.below HT_41.out)
  clear hc37 hrd
  go_wp2_with fail
  have RD := Lib.hid (pbytes_any S3 b false o3 _ P3_40.out (by have := EN.out; have := LB.out; omega))
  unfold bPost at RD
  rw [EB.out] at RD
  refine RD.out.mono ?_
  rintro e x43 ⟨vx, rfl, hbx, hnx, hrd, hc44⟩
  clear RD
  have P1_45 := Lib.hid (RdP.chg P1_38.out hc44 (D13.out))
  have P2_46 := Lib.hid (RdP.chg P2_39.out hc44 (D23.out))
  have P3_47 := Lib.hid hrd
  have HT_48 : Hid (Below w1.heap.size w1 x43) := Lib.hid (HT_41.out.trans (hc44.below HT_41.out.size GE3.out))
  have F0_49 := Lib.hid (F1.out.below HT_48.out)
  have BX := Lib.hid hbx
  obtain ⟨AX, cX, rfl⟩ := hbx.form
  clear hbx hnx
  clear hc44 hrd
  go_wp2_with fail
  refine wp_region_held (P := Try.prog) (S := (fun w' : World => Below x43.heap.size x43 w')) rfl ?_
  change wpAnyH _ _ _ _ _ _ _ _ x43.drew
  have hz51 : Below x43.heap.size x43 x43.drew := (Below.refl x43.heap.size x43).drew
  generalize x43.drew = wz50 at hz51 ⊢
  have F0_52 := Lib.hid (Bs.below F0_49.out (hz51))
  have P1_53 := Lib.hid (RdP.below P1_45.out (hz51))
  have P2_54 := Lib.hid (RdP.below P2_46.out (hz51))
  have P3_55 := Lib.hid (RdP.below P3_47.out (hz51))
  have BX_56 := Lib.hid (Bs.below BX.out (hz51))
  have hl57 := hz51
  have HT_58 : Hid (Below w1.heap.size w1 wz50) := Lib.hid (HT_48.out.trans ((hl57).mono HT_48.out.size))
  refine wpAnyH_up (S' := (fun w' : World => Below wz50.heap.size wz50 w')) (fun w' h => hz51.trans (h.mono hz51.size)) ?_
  have hS59 : (fun w' : World => Below wz50.heap.size wz50 w') wz50 := Below.refl _ _
  refine takeD (i := 0) (v := .int .i64 0) (some 59) rfl rfl (by kernel_rfl) (by kernel_rfl) (by kernel_rfl) (fun _ _ _ h => h) (Or.inl ⟨by rfl, by rintro w' -; go_simp⟩) hS59 ?_
  simp only [Act.put, List.setIfInBounds_toArray, List.set_cons_zero, List.set_cons_succ]
  refine takeD (i := 1) (v := .bool true) (some 60) rfl rfl (by kernel_rfl) (by kernel_rfl) (by kernel_rfl) (fun _ _ _ h => h) (Or.inl ⟨by rfl, by rintro w' -; go_simp⟩) hS59 ?_
  simp only [Act.put, List.setIfInBounds_toArray, List.set_cons_zero, List.set_cons_succ]
  refine takeD (i := 2) (v := .bool true) (some 61) rfl rfl (by kernel_rfl) (by kernel_rfl) (by kernel_rfl) (fun _ _ _ h => h) (Or.inl ⟨by rfl, by rintro w' -; go_simp⟩) hS59 ?_
  simp only [Act.put, List.setIfInBounds_toArray, List.set_cons_zero, List.set_cons_succ]
  refine takeD (i := 3) (v := .int .u64 (n : Int)) (some 62) rfl rfl (by kernel_rfl) (by kernel_rfl) (by kernel_rfl) (fun _ _ _ h => h) (Or.inl ⟨by rfl, by rintro w' -; go_simp⟩) hS59 ?_
  simp only [Act.put, List.setIfInBounds_toArray, List.set_cons_zero, List.set_cons_succ]
  refine takeD (i := 6) (v := .slice A0 n0 c0) (some 65) rfl rfl (by kernel_rfl) (by kernel_rfl) (by kernel_rfl) (fun _ _ _ h => h) (Or.inl ⟨by rfl, by rintro w' -; go_simp⟩) hS59 ?_
  simp only [Act.put, List.setIfInBounds_toArray, List.set_cons_zero, List.set_cons_succ]
  refine takeD (i := 7) (v := .slice A0 n0 c0) (some 66) rfl rfl (by kernel_rfl) (by kernel_rfl) (by kernel_rfl) (fun _ _ _ h => h) (Or.inl ⟨by rfl, by rintro w' -; go_simp⟩) hS59 ?_
  simp only [Act.put, List.setIfInBounds_toArray, List.set_cons_zero, List.set_cons_succ]
  refine takeD (i := 8) (v := .int .i64 (n0 : Int)) (some 67) rfl rfl (by kernel_rfl) (by kernel_rfl) (by kernel_rfl) (fun _ _ _ h => h) (Or.inl ⟨by rfl, by rintro w' -; go_simp⟩) hS59 ?_
  simp only [Act.put, List.setIfInBounds_toArray, List.set_cons_zero, List.set_cons_succ]
  refine takeD (i := 9) (v := .pointer (some ⟨S1, 0, none⟩)) (some 68) rfl rfl (by kernel_rfl) (by kernel_rfl) (by kernel_rfl) (fun _ _ _ h => h) (Or.inl ⟨by rfl, by rintro w' -; go_simp⟩) hS59 ?_
  simp only [Act.put, List.setIfInBounds_toArray, List.set_cons_zero, List.set_cons_succ]
  refine wpAnyH_ready (rs := [4]) (by kernel_rfl) (by simp) ?_
  refine AllReadyH.cons rfl (fun K60 hK60 => ?_) AllReadyH.nil
  have HK60 := Lib.hid hK60
  clear hK60
  rw [if_pos (by rfl)]
  go_simp
  refine (UA.out _).mono ?_
  rintro e x61 ⟨v63, rfl, hn63, hb62⟩
  have F0_64 := Lib.hid (Bs.below F0_52.out (hb62))
  have P1_65 := Lib.hid (RdP.below P1_53.out (hb62))
  have P2_66 := Lib.hid (RdP.below P2_54.out (hb62))
  have P3_67 := Lib.hid (RdP.below P3_55.out (hb62))
  have BX_68 := Lib.hid (Bs.below BX_56.out (hb62))
  have hl69 := hb62
  have HT_70 : Hid (Below w1.heap.size w1 x61) := Lib.hid (HT_58.out.trans ((hl69).mono HT_58.out.size))
  have fa63_71 := Lib.hid ((hn63).bs)
  clear hb62 hn63
  have hb73 : Below wz50.heap.size wz50 x61 := hl69
  have hS72 : (fun w' : World => Below wz50.heap.size wz50 w') x61 := hb73
  refine HK60.out _ _ hS72 fun _ => ?_
  try simp only [Act.put, List.setIfInBounds_toArray, List.set_cons_zero, List.set_cons_succ]
  refine wpAnyH_up (S' := (fun w' : World => Below x61.heap.size x61 w')) (fun w' h => hb73.trans (h.mono hb73.size)) ?_
  have hS74 : (fun w' : World => Below x61.heap.size x61 w') x61 := Below.refl _ _
  refine takeD (i := 5) (v := .string (strOf en)) (some 64) rfl rfl (by kernel_rfl) (by kernel_rfl) (by kernel_rfl) (fun _ _ _ h => h) (Or.inl ⟨by rfl, by rintro w' h; have hc := conv_bs 22 5 9 Try.underlying22 Try.underlying5 Try.underlying9 ((fa63_71.out).below h); go_simp⟩) hS74 ?_
  simp only [Act.put, List.setIfInBounds_toArray, List.set_cons_zero, List.set_cons_succ]
  refine wpAnyH_ready (rs := [10]) (by kernel_rfl) (by simp) ?_
  refine AllReadyH.cons rfl (fun K75 hK75 => ?_) AllReadyH.nil
  have HK75 := Lib.hid hK75
  clear hK75
  rw [if_pos (by rfl)]
  go_simp
  refine (pleft_any S1 r false o1 _ P1_65.out (by have := LS.out; have := LB.out; have := HR1.out; omega)).mono ?_
  rintro e x76 ⟨rfl, hb77⟩
  have F0_78 := Lib.hid (Bs.below F0_64.out (hb77))
  have P1_79 := Lib.hid (RdP.below P1_65.out (hb77))
  have P2_80 := Lib.hid (RdP.below P2_66.out (hb77))
  have P3_81 := Lib.hid (RdP.below P3_67.out (hb77))
  have BX_82 := Lib.hid (Bs.below BX_68.out (hb77))
  have fa63_83 := Lib.hid (Bs.below fa63_71.out (hb77))
  have hl84 := hb77
  have HT_85 : Hid (Below w1.heap.size w1 x76) := Lib.hid (HT_70.out.trans ((hl84).mono HT_70.out.size))
  clear hb77 
  try rw [HR1.out]
  have hb87 : Below x61.heap.size x61 x76 := hl84
  have hS86 : (fun w' : World => Below x61.heap.size x61 w') x76 := hb87
  refine HK75.out _ _ hS86 fun _ => ?_
  try simp only [Act.put, List.setIfInBounds_toArray, List.set_cons_zero, List.set_cons_succ]
  refine wpAnyH_up (S' := (fun w' : World => Below x76.heap.size x76 w')) (fun w' h => hb87.trans (h.mono hb87.size)) ?_
  have hS88 : (fun w' : World => Below x76.heap.size x76 w') x76 := Below.refl _ _
  refine takeD (i := 11) (v := .int .i64 (M1 : Int)) (some 70) rfl rfl (by kernel_rfl) (by kernel_rfl) (by kernel_rfl) (fun _ _ _ h => h) (Or.inl ⟨by rfl, by rintro w' -; go_simp⟩) hS88 ?_
  simp only [Act.put, List.setIfInBounds_toArray, List.set_cons_zero, List.set_cons_succ]
  refine takeD (i := 12) (v := .slice A0 M1 c0) (some 71) rfl rfl (by kernel_rfl) (by kernel_rfl) (by kernel_rfl) (fun _ _ _ h => h) (Or.inl ⟨by rfl, by rintro w' -; go_simp⟩) hS88 ?_
  simp only [Act.put, List.setIfInBounds_toArray, List.set_cons_zero, List.set_cons_succ]
  refine takeD (i := 13) (v := .string (strOf en)) (some 72) rfl rfl (by kernel_rfl) (by kernel_rfl) (by kernel_rfl) (fun _ _ _ h => h) (Or.inl ⟨by rfl, by rintro w' h; have hc := conv_bs 22 5 9 Try.underlying22 Try.underlying5 Try.underlying9 (show Bs w' (.slice A0 M1 c0) en by rw [← T1.out]; exact bs_take ((F0_78.out).below h) (by have := LS.out; have := LS2.out; have := LB.out; omega)); go_simp⟩) hS88 ?_
  simp only [Act.put, List.setIfInBounds_toArray, List.set_cons_zero, List.set_cons_succ]
  refine takeD (i := 14) (v := .bool false) (some 73) rfl rfl (by kernel_rfl) (by kernel_rfl) (by kernel_rfl) (fun _ _ _ h => h) (Or.inl ⟨by rfl, by rintro w' -; go_simp⟩) hS88 ?_
  simp only [Act.put, List.setIfInBounds_toArray, List.set_cons_zero, List.set_cons_succ]
  refine takeD (i := 15) (v := .bool false) (some 74) rfl rfl (by kernel_rfl) (by kernel_rfl) (by kernel_rfl) (fun _ _ _ h => h) (Or.inl ⟨by rfl, by rintro w' -; go_simp⟩) hS88 ?_
  simp only [Act.put, List.setIfInBounds_toArray, List.set_cons_zero, List.set_cons_succ]
  refine takeD (i := 16) (v := .bool false) (some 75) rfl rfl (by kernel_rfl) (by kernel_rfl) (by kernel_rfl) (fun _ _ _ h => h) (Or.inl ⟨by rfl, by rintro w' -; go_simp⟩) hS88 ?_
  simp only [Act.put, List.setIfInBounds_toArray, List.set_cons_zero, List.set_cons_succ]
  refine takeD (i := 17) (v := .int .i64 0) (some 76) rfl rfl (by kernel_rfl) (by kernel_rfl) (by kernel_rfl) (fun _ _ _ h => h) (Or.inl ⟨by rfl, by rintro w' -; go_simp⟩) hS88 ?_
  simp only [Act.put, List.setIfInBounds_toArray, List.set_cons_zero, List.set_cons_succ]
  refine takeD (i := 18) (v := .bool true) (some 77) rfl rfl (by kernel_rfl) (by kernel_rfl) (by kernel_rfl) (fun _ _ _ h => h) (Or.inl ⟨by rfl, by rintro w' -; go_simp⟩) hS88 ?_
  simp only [Act.put, List.setIfInBounds_toArray, List.set_cons_zero, List.set_cons_succ]
  refine takeD (i := 19) (v := .bool true) (some 78) rfl rfl (by kernel_rfl) (by kernel_rfl) (by kernel_rfl) (fun _ _ _ h => h) (Or.inl ⟨by rfl, by rintro w' -; go_simp⟩) hS88 ?_
  simp only [Act.put, List.setIfInBounds_toArray, List.set_cons_zero, List.set_cons_succ]
  refine takeD (i := 20) (v := .int .i64 k1) (some 79) rfl rfl (by kernel_rfl) (by kernel_rfl) (by kernel_rfl) (fun _ _ _ h => h) (Or.inl ⟨by rfl, by rintro w' -; go_simp⟩) hS88 ?_
  simp only [Act.put, List.setIfInBounds_toArray, List.set_cons_zero, List.set_cons_succ]
  refine takeD (i := 23) (v := .slice A0 n0 c0) (some 82) rfl rfl (by kernel_rfl) (by kernel_rfl) (by kernel_rfl) (fun _ _ _ h => h) (Or.inl ⟨by rfl, by rintro w' -; go_simp⟩) hS88 ?_
  simp only [Act.put, List.setIfInBounds_toArray, List.set_cons_zero, List.set_cons_succ]
  refine takeD (i := 24) (v := .slice A0 n0 c0) (some 83) rfl rfl (by kernel_rfl) (by kernel_rfl) (by kernel_rfl) (fun _ _ _ h => h) (Or.inl ⟨by rfl, by rintro w' -; go_simp⟩) hS88 ?_
  simp only [Act.put, List.setIfInBounds_toArray, List.set_cons_zero, List.set_cons_succ]
  refine takeD (i := 25) (v := .int .i64 (n0 : Int)) (some 84) rfl rfl (by kernel_rfl) (by kernel_rfl) (by kernel_rfl) (fun _ _ _ h => h) (Or.inl ⟨by rfl, by rintro w' -; go_simp⟩) hS88 ?_
  simp only [Act.put, List.setIfInBounds_toArray, List.set_cons_zero, List.set_cons_succ]
  refine takeD (i := 26) (v := .pointer (some ⟨S2, 0, none⟩)) (some 85) rfl rfl (by kernel_rfl) (by kernel_rfl) (by kernel_rfl) (fun _ _ _ h => h) (Or.inl ⟨by rfl, by rintro w' -; go_simp⟩) hS88 ?_
  simp only [Act.put, List.setIfInBounds_toArray, List.set_cons_zero, List.set_cons_succ]
  refine wpAnyH_ready (rs := [21]) (by kernel_rfl) (by simp) ?_
  refine AllReadyH.cons rfl (fun K89 hK89 => ?_) AllReadyH.nil
  have HK89 := Lib.hid hK89
  clear hK89
  rw [if_pos (by rfl)]
  go_simp
  refine (IA.out _).mono ?_
  rintro e x90 ⟨v80, rfl, hn92, hb91⟩
  have F0_93 := Lib.hid (Bs.below F0_78.out (hb91))
  have P1_94 := Lib.hid (RdP.below P1_79.out (hb91))
  have P2_95 := Lib.hid (RdP.below P2_80.out (hb91))
  have P3_96 := Lib.hid (RdP.below P3_81.out (hb91))
  have BX_97 := Lib.hid (Bs.below BX_82.out (hb91))
  have fa63_98 := Lib.hid (Bs.below fa63_83.out (hb91))
  have hl99 := hb91
  have HT_100 : Hid (Below w1.heap.size w1 x90) := Lib.hid (HT_85.out.trans ((hl99).mono HT_85.out.size))
  have fa80_101 := Lib.hid ((hn92).bs)
  clear hb91 hn92
  have hb103 : Below x76.heap.size x76 x90 := hl99
  have hS102 : (fun w' : World => Below x76.heap.size x76 w') x90 := hb103
  refine HK89.out _ _ hS102 fun _ => ?_
  try simp only [Act.put, List.setIfInBounds_toArray, List.set_cons_zero, List.set_cons_succ]
  refine wpAnyH_up (S' := (fun w' : World => Below x90.heap.size x90 w')) (fun w' h => hb103.trans (h.mono hb103.size)) ?_
  have hS104 : (fun w' : World => Below x90.heap.size x90 w') x90 := Below.refl _ _
  refine takeD (i := 22) (v := .string (strOf en)) (some 81) rfl rfl (by kernel_rfl) (by kernel_rfl) (by kernel_rfl) (fun _ _ _ h => h) (Or.inl ⟨by rfl, by rintro w' h; have hc := conv_bs 22 5 9 Try.underlying22 Try.underlying5 Try.underlying9 ((fa80_101.out).below h); go_simp⟩) hS104 ?_
  simp only [Act.put, List.setIfInBounds_toArray, List.set_cons_zero, List.set_cons_succ]
  refine wpAnyH_ready (rs := [27]) (by kernel_rfl) (by simp) ?_
  refine AllReadyH.cons rfl (fun K105 hK105 => ?_) AllReadyH.nil
  have HK105 := Lib.hid hK105
  clear hK105
  rw [if_pos (by rfl)]
  go_simp
  refine (pleft_any S2 r false o2 _ P2_95.out (by have := LS.out; have := LB.out; have := HR1.out; omega)).mono ?_
  rintro e x106 ⟨rfl, hb107⟩
  have F0_108 := Lib.hid (Bs.below F0_93.out (hb107))
  have P1_109 := Lib.hid (RdP.below P1_94.out (hb107))
  have P2_110 := Lib.hid (RdP.below P2_95.out (hb107))
  have P3_111 := Lib.hid (RdP.below P3_96.out (hb107))
  have BX_112 := Lib.hid (Bs.below BX_97.out (hb107))
  have fa63_113 := Lib.hid (Bs.below fa63_98.out (hb107))
  have fa80_114 := Lib.hid (Bs.below fa80_101.out (hb107))
  have hl115 := hb107
  have HT_116 : Hid (Below w1.heap.size w1 x106) := Lib.hid (HT_100.out.trans ((hl115).mono HT_100.out.size))
  clear hb107 
  try rw [HR1.out]
  have hb118 : Below x90.heap.size x90 x106 := hl115
  have hS117 : (fun w' : World => Below x90.heap.size x90 w') x106 := hb118
  refine HK105.out _ _ hS117 fun _ => ?_
  try simp only [Act.put, List.setIfInBounds_toArray, List.set_cons_zero, List.set_cons_succ]
  refine wpAnyH_up (S' := (fun w' : World => Below x106.heap.size x106 w')) (fun w' h => hb118.trans (h.mono hb118.size)) ?_
  have hS119 : (fun w' : World => Below x106.heap.size x106 w') x106 := Below.refl _ _
  refine takeD (i := 28) (v := .int .i64 (M1 : Int)) (some 87) rfl rfl (by kernel_rfl) (by kernel_rfl) (by kernel_rfl) (fun _ _ _ h => h) (Or.inl ⟨by rfl, by rintro w' -; go_simp⟩) hS119 ?_
  simp only [Act.put, List.setIfInBounds_toArray, List.set_cons_zero, List.set_cons_succ]
  refine takeD (i := 29) (v := .slice A0 M1 c0) (some 88) rfl rfl (by kernel_rfl) (by kernel_rfl) (by kernel_rfl) (fun _ _ _ h => h) (Or.inl ⟨by rfl, by rintro w' -; go_simp⟩) hS119 ?_
  simp only [Act.put, List.setIfInBounds_toArray, List.set_cons_zero, List.set_cons_succ]
  refine takeD (i := 30) (v := .string (strOf en)) (some 89) rfl rfl (by kernel_rfl) (by kernel_rfl) (by kernel_rfl) (fun _ _ _ h => h) (Or.inl ⟨by rfl, by rintro w' h; have hc := conv_bs 22 5 9 Try.underlying22 Try.underlying5 Try.underlying9 (show Bs w' (.slice A0 M1 c0) en by rw [← T1.out]; exact bs_take ((F0_108.out).below h) (by have := LS.out; have := LS2.out; have := LB.out; omega)); go_simp⟩) hS119 ?_
  simp only [Act.put, List.setIfInBounds_toArray, List.set_cons_zero, List.set_cons_succ]
  refine takeD (i := 31) (v := .bool false) (some 90) rfl rfl (by kernel_rfl) (by kernel_rfl) (by kernel_rfl) (fun _ _ _ h => h) (Or.inl ⟨by rfl, by rintro w' -; go_simp⟩) hS119 ?_
  simp only [Act.put, List.setIfInBounds_toArray, List.set_cons_zero, List.set_cons_succ]
  refine takeD (i := 32) (v := .bool false) (some 91) rfl rfl (by kernel_rfl) (by kernel_rfl) (by kernel_rfl) (fun _ _ _ h => h) (Or.inl ⟨by rfl, by rintro w' -; go_simp⟩) hS119 ?_
  simp only [Act.put, List.setIfInBounds_toArray, List.set_cons_zero, List.set_cons_succ]
  refine takeD (i := 33) (v := .bool false) (some 92) rfl rfl (by kernel_rfl) (by kernel_rfl) (by kernel_rfl) (fun _ _ _ h => h) (Or.inl ⟨by rfl, by rintro w' -; go_simp⟩) hS119 ?_
  simp only [Act.put, List.setIfInBounds_toArray, List.set_cons_zero, List.set_cons_succ]
  refine wpAnyH_done (by kernel_rfl) ?_ _
  go_wp2_with fail
  refine wp_region_held (P := Try.prog) (S := (fun w' : World => Below x106.heap.size x106 w')) rfl ?_
  change wpAnyH _ _ _ _ _ _ _ _ x106.drew
  have hz121 : Below x106.heap.size x106 x106.drew := (Below.refl x106.heap.size x106).drew
  generalize x106.drew = wz120 at hz121 ⊢
  have F0_122 := Lib.hid (Bs.below F0_108.out (hz121))
  have P1_123 := Lib.hid (RdP.below P1_109.out (hz121))
  have P2_124 := Lib.hid (RdP.below P2_110.out (hz121))
  have P3_125 := Lib.hid (RdP.below P3_111.out (hz121))
  have BX_126 := Lib.hid (Bs.below BX_112.out (hz121))
  have fa63_127 := Lib.hid (Bs.below fa63_113.out (hz121))
  have fa80_128 := Lib.hid (Bs.below fa80_114.out (hz121))
  have hl129 := hz121
  have HT_130 : Hid (Below w1.heap.size w1 wz120) := Lib.hid (HT_116.out.trans ((hl129).mono HT_116.out.size))
  refine wpAnyH_up (S' := (fun w' : World => Below wz120.heap.size wz120 w')) (fun w' h => hz121.trans (h.mono hz121.size)) ?_
  have hS131 : (fun w' : World => Below wz120.heap.size wz120 w') wz120 := Below.refl _ _
  refine takeD (i := 0) (v := .int .i64 0) (some 93) rfl rfl (by kernel_rfl) (by kernel_rfl) (by kernel_rfl) (fun _ _ _ h => h) (Or.inl ⟨by rfl, by rintro w' -; go_simp⟩) hS131 ?_
  simp only [Act.put, List.setIfInBounds_toArray, List.set_cons_zero, List.set_cons_succ]
  refine takeD (i := 1) (v := .bool false) (some 94) rfl rfl (by kernel_rfl) (by kernel_rfl) (by kernel_rfl) (fun _ _ _ h => h) (Or.inl ⟨by rfl, by rintro w' -; go_simp⟩) hS131 ?_
  simp only [Act.put, List.setIfInBounds_toArray, List.set_cons_zero, List.set_cons_succ]
  refine takeD (i := 2) (v := .bool false) (some 95) rfl rfl (by kernel_rfl) (by kernel_rfl) (by kernel_rfl) (fun _ _ _ h => h) (Or.inl ⟨by rfl, by rintro w' -; go_simp⟩) hS131 ?_
  simp only [Act.put, List.setIfInBounds_toArray, List.set_cons_zero, List.set_cons_succ]
  refine takeD (i := 3) (v := .slice AX xs.length cX) (some 96) rfl rfl (by kernel_rfl) (by kernel_rfl) (by kernel_rfl) (fun _ _ _ h => h) (Or.inl ⟨by rfl, by rintro w' -; go_simp⟩) hS131 ?_
  simp only [Act.put, List.setIfInBounds_toArray, List.set_cons_zero, List.set_cons_succ]
  refine takeD (i := 6) (v := .slice A0 n0 c0) (some 99) rfl rfl (by kernel_rfl) (by kernel_rfl) (by kernel_rfl) (fun _ _ _ h => h) (Or.inl ⟨by rfl, by rintro w' -; go_simp⟩) hS131 ?_
  simp only [Act.put, List.setIfInBounds_toArray, List.set_cons_zero, List.set_cons_succ]
  refine takeD (i := 7) (v := .slice A0 n0 c0) (some 100) rfl rfl (by kernel_rfl) (by kernel_rfl) (by kernel_rfl) (fun _ _ _ h => h) (Or.inl ⟨by rfl, by rintro w' -; go_simp⟩) hS131 ?_
  simp only [Act.put, List.setIfInBounds_toArray, List.set_cons_zero, List.set_cons_succ]
  refine takeD (i := 8) (v := .int .i64 (n0 : Int)) (some 101) rfl rfl (by kernel_rfl) (by kernel_rfl) (by kernel_rfl) (fun _ _ _ h => h) (Or.inl ⟨by rfl, by rintro w' -; go_simp⟩) hS131 ?_
  simp only [Act.put, List.setIfInBounds_toArray, List.set_cons_zero, List.set_cons_succ]
  refine takeD (i := 9) (v := .pointer (some ⟨S3, 0, none⟩)) (some 102) rfl rfl (by kernel_rfl) (by kernel_rfl) (by kernel_rfl) (fun _ _ _ h => h) (Or.inl ⟨by rfl, by rintro w' -; go_simp⟩) hS131 ?_
  simp only [Act.put, List.setIfInBounds_toArray, List.set_cons_zero, List.set_cons_succ]
  refine wpAnyH_ready (rs := [4]) (by kernel_rfl) (by simp) ?_
  refine AllReadyH.cons rfl (fun K132 hK132 => ?_) AllReadyH.nil
  have HK132 := Lib.hid hK132
  clear hK132
  rw [if_pos (by rfl)]
  go_simp
  refine (BA.out _ _ BX_126.out).mono ?_
  rintro e x133 ⟨v97, rfl, hn135, hb134⟩
  have F0_136 := Lib.hid (Bs.below F0_122.out (hb134))
  have P1_137 := Lib.hid (RdP.below P1_123.out (hb134))
  have P2_138 := Lib.hid (RdP.below P2_124.out (hb134))
  have P3_139 := Lib.hid (RdP.below P3_125.out (hb134))
  have BX_140 := Lib.hid (Bs.below BX_126.out (hb134))
  have fa63_141 := Lib.hid (Bs.below fa63_127.out (hb134))
  have fa80_142 := Lib.hid (Bs.below fa80_128.out (hb134))
  have hl143 := hb134
  have HT_144 : Hid (Below w1.heap.size w1 x133) := Lib.hid (HT_130.out.trans ((hl143).mono HT_130.out.size))
  have fc97_145 := Lib.hid ((hn135).bs)
  clear hb134 hn135
  have hb147 : Below wz120.heap.size wz120 x133 := hl143
  have hS146 : (fun w' : World => Below wz120.heap.size wz120 w') x133 := hb147
  refine HK132.out _ _ hS146 fun _ => ?_
  try simp only [Act.put, List.setIfInBounds_toArray, List.set_cons_zero, List.set_cons_succ]
  refine wpAnyH_up (S' := (fun w' : World => Below x133.heap.size x133 w')) (fun w' h => hb147.trans (h.mono hb147.size)) ?_
  have hS148 : (fun w' : World => Below x133.heap.size x133 w') x133 := Below.refl _ _
  refine takeD (i := 5) (v := .string (strOf y)) (some 98) rfl rfl (by kernel_rfl) (by kernel_rfl) (by kernel_rfl) (fun _ _ _ h => h) (Or.inl ⟨by rfl, by rintro w' h; have hc := conv_bs 22 5 9 Try.underlying22 Try.underlying5 Try.underlying9 ((fc97_145.out).below h); go_simp⟩) hS148 ?_
  simp only [Act.put, List.setIfInBounds_toArray, List.set_cons_zero, List.set_cons_succ]
  refine wpAnyH_ready (rs := [10]) (by kernel_rfl) (by simp) ?_
  refine AllReadyH.cons rfl (fun K149 hK149 => ?_) AllReadyH.nil
  have HK149 := Lib.hid hK149
  clear hK149
  rw [if_pos (by rfl)]
  go_simp
  refine (pleft_any S3 ds false o3 _ P3_139.out (by have := LS2.out; have := LB.out; have := HR2.out; omega)).mono ?_
  rintro e x150 ⟨rfl, hb151⟩
  have F0_152 := Lib.hid (Bs.below F0_136.out (hb151))
  have P1_153 := Lib.hid (RdP.below P1_137.out (hb151))
  have P2_154 := Lib.hid (RdP.below P2_138.out (hb151))
  have P3_155 := Lib.hid (RdP.below P3_139.out (hb151))
  have BX_156 := Lib.hid (Bs.below BX_140.out (hb151))
  have fa63_157 := Lib.hid (Bs.below fa63_141.out (hb151))
  have fa80_158 := Lib.hid (Bs.below fa80_142.out (hb151))
  have fc97_159 := Lib.hid (Bs.below fc97_145.out (hb151))
  have hl160 := hb151
  have HT_161 : Hid (Below w1.heap.size w1 x150) := Lib.hid (HT_144.out.trans ((hl160).mono HT_144.out.size))
  clear hb151 
  try rw [HR2.out]
  have hb163 : Below x133.heap.size x133 x150 := hl160
  have hS162 : (fun w' : World => Below x133.heap.size x133 w') x150 := hb163
  refine HK149.out _ _ hS162 fun _ => ?_
  try simp only [Act.put, List.setIfInBounds_toArray, List.set_cons_zero, List.set_cons_succ]
  refine wpAnyH_up (S' := (fun w' : World => Below x150.heap.size x150 w')) (fun w' h => hb163.trans (h.mono hb163.size)) ?_
  have hS164 : (fun w' : World => Below x150.heap.size x150 w') x150 := Below.refl _ _
  refine takeD (i := 11) (v := .int .i64 (M2 : Int)) (some 104) rfl rfl (by kernel_rfl) (by kernel_rfl) (by kernel_rfl) (fun _ _ _ h => h) (Or.inl ⟨by rfl, by rintro w' -; go_simp⟩) hS164 ?_
  simp only [Act.put, List.setIfInBounds_toArray, List.set_cons_zero, List.set_cons_succ]
  refine takeD (i := 12) (v := .slice A0 M2 c0) (some 105) rfl rfl (by kernel_rfl) (by kernel_rfl) (by kernel_rfl) (fun _ _ _ h => h) (Or.inl ⟨by rfl, by rintro w' -; go_simp⟩) hS164 ?_
  simp only [Act.put, List.setIfInBounds_toArray, List.set_cons_zero, List.set_cons_succ]
  refine takeD (i := 13) (v := .string (strOf y)) (some 106) rfl rfl (by kernel_rfl) (by kernel_rfl) (by kernel_rfl) (fun _ _ _ h => h) (Or.inl ⟨by rfl, by rintro w' h; have hc := conv_bs 22 5 9 Try.underlying22 Try.underlying5 Try.underlying9 (show Bs w' (.slice A0 M2 c0) y by rw [← T2.out]; exact bs_take ((F0_152.out).below h) (by have := LS.out; have := LS2.out; have := LB.out; omega)); go_simp⟩) hS164 ?_
  simp only [Act.put, List.setIfInBounds_toArray, List.set_cons_zero, List.set_cons_succ]
  refine takeD (i := 14) (v := .bool true) (some 107) rfl rfl (by kernel_rfl) (by kernel_rfl) (by kernel_rfl) (fun _ _ _ h => h) (Or.inl ⟨by rfl, by rintro w' -; go_simp⟩) hS164 ?_
  simp only [Act.put, List.setIfInBounds_toArray, List.set_cons_zero, List.set_cons_succ]
  refine takeD (i := 15) (v := .bool true) (some 108) rfl rfl (by kernel_rfl) (by kernel_rfl) (by kernel_rfl) (fun _ _ _ h => h) (Or.inl ⟨by rfl, by rintro w' -; go_simp⟩) hS164 ?_
  simp only [Act.put, List.setIfInBounds_toArray, List.set_cons_zero, List.set_cons_succ]
  refine takeD (i := 16) (v := .bool true) (some 2) rfl rfl (by kernel_rfl) (by kernel_rfl) (by kernel_rfl) (fun _ _ _ h => h) (Or.inl ⟨by rfl, by rintro w' -; go_simp⟩) hS164 ?_
  simp only [Act.put, List.setIfInBounds_toArray, List.set_cons_zero, List.set_cons_succ]
  refine wpAnyH_done (by kernel_rfl) ?_ _
  go_wp2_with fail
  go_ret
  exact ⟨rfl, BW.out.trans (HT_161.out.mono BW.out.size)⟩
set_option maxHeartbeats 1000000 in
set_option maxRecDepth 100000 in
theorem uniq_early (v : Value) (b : List Nat) (w : World) (h0 : Bs w v b) (hno : 60 < b.length) : Calls Try.prog 6 #[v] w (lawPost w) := by
  have m0 := h0.len
  obtain ⟨A0, c0, rfl⟩ := h0.form
  clear h0
  unfold maxLen at m0
  generalize b.length = n0 at *
  have g0 : (60 : Int) < (n0 : Int) := by omega
  go_enter Try.func6, Try.ntmps6
  go_wp2_with fail
  refine (awake9 w).mono ?_
  rintro e w1 ⟨rfl, hbel⟩
  have B1 := Lib.hid hbel
  clear hbel
  go_wp2_with fail
  go_ret
  exact ⟨rfl, B1.out⟩
theorem uniqlaw_walk (v : Value) (b : List Nat) (w : World) (h0 : Bs w v b) : Calls Try.prog 6 #[v] w (lawPost w) := by
  by_cases h : 60 < b.length
  · exact uniq_early v b w h0 h
  rcases Cod.dec_cases b h0.lt with hd | ⟨n, r, hd, -, -⟩
  · exact uniq_none v b w h0 (by omega) hd
  · by_cases hr : n ≤ r.length
    · exact uniq_ok v b w h0 (by omega) n r hd hr
    · exact uniq_bad v b w h0 (by omega) n r hd (by omega)
end Go.Proofs.Ytajeboigkpelgaa
