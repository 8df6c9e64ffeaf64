/- The walk of the law ParityUpdates. WRITTEN BY gen_Qe.py. -/
import Derived.Test.YtfhgalfdlkdliaaPq
import Derived.Test.YtfhgalfdlkdliaaOpen
namespace Go.Proofs.Ytfhgalfdlkdliaa
open Go Go.RowKit
set_option linter.unusedVariables false
set_option linter.unusedSimpArgs false

set_option maxHeartbeats 4000000 in
set_option maxRecDepth 100000 in
theorem plup_lo (v : Value) (D : List (List Nat)) (i : Int) (nb : Blk) (w : World) (h : Bl w v D) (hs : D.length < 1) : Calls Try.prog 6 #[v, .int .i64 i, .agg (bcs nb.1)] w (lawPost w) := by
  obtain ⟨A, c, rfl⟩ := h.form
  have HV := Lib.hid h
  have hm : D.length ≤ maxLen := by obtain ⟨_, _, _, hm, _⟩ := h; omega
  obtain ⟨n, hn⟩ : ∃ n, D.length = n := ⟨_, rfl⟩
  have N := Lib.hid hn
  rw [hn] at hm hs HV ⊢
  clear h hn
  have g1 : decide ((n : Int) < 1) = true := by simp; omega
  have SN := Lib.hid (size8 nb.2.1)
  go_enter Try.func6, Try.ntmps6
  go_wp2_with fail
  obtain ⟨W0, hW0⟩ : ∃ W0, w.alloc (.cells (bcs nb.1) 44) = W0 := ⟨_, rfl⟩
  have HB0 : Hid (Below w.heap.size w W0) := Lib.hid (by rw [← hW0]; exact (Below.refl w.heap.size w).alloc (Nat.le_refl _) _)
  have HX0 : Hid (At8 W0 w.heap.size 0 nb.1) := Lib.hid (by rw [← hW0]; exact (row_new w _ 44).at8)
  have HV0 : Hid (Bl W0 _ D) := Lib.hid (HV.out.to HB0.out)
  rw [hW0]
  clear hW0
  refine (pawake_any _).mono ?_
  rintro e x2 ⟨rfl, hb1⟩
  have hq3 : Below W0.heap.size W0 x2 := hb1
  have D_4 := Lib.hid (Bl.to HV0.out hq3)
  have X_5 := Lib.hid (rangeTo HX0.out hq3)
  have HB_6 : Hid (Below w.heap.size w x2) := Lib.hid (HB0.out.trans (hq3.mono HB0.out.size))
  clear hq3
  clear hb1
  go_wp2_with fail
  go_ret
  exact ⟨by first | rfl | simp, HB_6.out⟩
set_option maxHeartbeats 4000000 in
set_option maxRecDepth 100000 in
theorem plup_hi (v : Value) (D : List (List Nat)) (i : Int) (nb : Blk) (w : World) (h : Bl w v D) (hs : ¬ D.length < 1 ∧ 13 < D.length) : Calls Try.prog 6 #[v, .int .i64 i, .agg (bcs nb.1)] w (lawPost w) := by
  obtain ⟨A, c, rfl⟩ := h.form
  have HV := Lib.hid h
  have hm : D.length ≤ maxLen := by obtain ⟨_, _, _, hm, _⟩ := h; omega
  obtain ⟨n, hn⟩ : ∃ n, D.length = n := ⟨_, rfl⟩
  have N := Lib.hid hn
  rw [hn] at hm hs HV ⊢
  clear h hn
  have g1 : decide ((n : Int) < 1) = false := by simp; omega
  have g2 : decide ((13 : Int) < (n : Int)) = true := by simp; omega
  have SN := Lib.hid (size8 nb.2.1)
  go_enter Try.func6, Try.ntmps6
  go_wp2_with fail
  obtain ⟨W0, hW0⟩ : ∃ W0, w.alloc (.cells (bcs nb.1) 44) = W0 := ⟨_, rfl⟩
  have HB0 : Hid (Below w.heap.size w W0) := Lib.hid (by rw [← hW0]; exact (Below.refl w.heap.size w).alloc (Nat.le_refl _) _)
  have HX0 : Hid (At8 W0 w.heap.size 0 nb.1) := Lib.hid (by rw [← hW0]; exact (row_new w _ 44).at8)
  have HV0 : Hid (Bl W0 _ D) := Lib.hid (HV.out.to HB0.out)
  rw [hW0]
  clear hW0
  refine (pawake_any _).mono ?_
  rintro e x2 ⟨rfl, hb1⟩
  have hq3 : Below W0.heap.size W0 x2 := hb1
  have D_4 := Lib.hid (Bl.to HV0.out hq3)
  have X_5 := Lib.hid (rangeTo HX0.out hq3)
  have HB_6 : Hid (Below w.heap.size w x2) := Lib.hid (HB0.out.trans (hq3.mono HB0.out.size))
  clear hq3
  clear hb1
  go_wp2_with fail
  go_ret
  exact ⟨by first | rfl | simp, HB_6.out⟩
set_option maxHeartbeats 4000000 in
set_option maxRecDepth 100000 in
theorem plup_neg (v : Value) (D : List (List Nat)) (i : Int) (nb : Blk) (w : World) (h : Bl w v D) (hs : 1 ≤ D.length ∧ D.length ≤ 13) (hi : i < 0) : Calls Try.prog 6 #[v, .int .i64 i, .agg (bcs nb.1)] w (lawPost w) := by
  obtain ⟨bd, od, c, rfl, -, -, -⟩ := h.at_ (by omega)
  have HV := Lib.hid h
  have hm : D.length ≤ maxLen := by obtain ⟨_, _, _, hm, _⟩ := h; omega
  obtain ⟨n, hn⟩ : ∃ n, D.length = n := ⟨_, rfl⟩
  have N := Lib.hid hn
  have HS : Hid (1 ≤ D.length ∧ D.length ≤ 13) := Lib.hid (by omega)
  obtain ⟨P, hP⟩ : ∃ P, parL D = P := ⟨_, rfl⟩
  have PL : Hid (P.length = 3) := Lib.hid (by rw [← hP]; rfl)
  have L1 : Hid (([] : List (List Nat)).length + P.length ≤ 1000) := Lib.hid (by rw [← hP]; simp [parL])
  have PP := Lib.hid hP
  clear hP
  rw [hn] at hm hs HV ⊢
  clear h hn
  have g1 : decide ((n : Int) < 1) = false := by simp; omega
  have g2 : decide ((13 : Int) < (n : Int)) = false := by simp; omega
  have g3 : decide (i < 0) = true := decide_eq_true hi
  have SN := Lib.hid (size8 nb.2.1)
  go_enter Try.func6, Try.ntmps6
  go_wp2_with fail
  obtain ⟨W0, hW0⟩ : ∃ W0, w.alloc (.cells (bcs nb.1) 44) = W0 := ⟨_, rfl⟩
  have HB0 : Hid (Below w.heap.size w W0) := Lib.hid (by rw [← hW0]; exact (Below.refl w.heap.size w).alloc (Nat.le_refl _) _)
  have HX0 : Hid (At8 W0 w.heap.size 0 nb.1) := Lib.hid (by rw [← hW0]; exact (row_new w _ 44).at8)
  have HV0 : Hid (Bl W0 _ D) := Lib.hid (HV.out.to HB0.out)
  rw [hW0]
  clear hW0
  refine (pawake_any _).mono ?_
  rintro e x2 ⟨rfl, hb1⟩
  have hq3 : Below W0.heap.size W0 x2 := hb1
  have D_4 := Lib.hid (Bl.to HV0.out hq3)
  have X_5 := Lib.hid (rangeTo HX0.out hq3)
  have HB_6 : Hid (Below w.heap.size w x2) := Lib.hid (HB0.out.trans (hq3.mono HB0.out.size))
  clear hq3
  clear hb1
  go_wp2_with fail
  refine (rparity_b _ D P _ D_4.out (by have := HS.out; omega) PP.out).mono ?_
  rintro e x8 ⟨gb, rfl, hn9, hb7⟩
  have hq10 : Below x2.heap.size x2 x8 := hb7
  have D_11 := Lib.hid (Bl.to D_4.out hq10)
  have X_12 := Lib.hid (rangeTo X_5.out hq10)
  have HB_13 : Hid (Below w.heap.size w x8) := Lib.hid (HB_6.out.trans (hq10.mono HB_6.out.size))
  clear hq10
  have Q_14 := Lib.hid hn9
  clear hb7 hn9
  go_wp2_with (first | (at_builtin; refine wpList_append_bl rfl (.tmp 28) (.tmp 29) rfl x8.heap.size (.slice (some ⟨x8.heap.size, 0, none⟩) 0 0) (.slice (some ⟨gb, 0, none⟩) 3 3) [] P rfl (OwnB.new (Nat.le_refl _)) rfl (Q_14.out.alloc _) L1.out (by simp) ?_; intro v15 x16 ho hg; have HO17 := Lib.hid ho; have HG18 := Lib.hid hg; clear ho hg; have HXI := Lib.hid (rangeTo X_12.out (((Below.refl x8.heap.size x8).alloc (Nat.le_refl _) _).grown HG18.out (by simp) (fun k e => by cases e; exact Nat.le_refl _)))) | (refine wpList_load8 rfl _ _ rfl _ 0 rfl _ _ HXI.out Try.underlying44 rfl SN.out ?_))
  have hq19 : Below x8.heap.size x8 x16 := ((Below.refl x8.heap.size x8).alloc (Nat.le_refl _) _).grown HG18.out (by simp) (fun k e => by cases e; exact Nat.le_refl _)
  have D_20 := Lib.hid (Bl.to D_11.out hq19)
  have X_21 := Lib.hid (rangeTo X_12.out hq19)
  have Q_22 := Lib.hid (Bl.to Q_14.out hq19)
  have HB_23 : Hid (Below w.heap.size w x16) := Lib.hid (HB_13.out.trans (hq19.mono HB_13.out.size))
  clear hq19
  obtain ⟨gp, cp, ep, -, -⟩ := HO17.out.form (by rw [List.nil_append, PL.out]; decide)
  rw [List.nil_append, PL.out] at ep
  subst ep
  have PP24 := HO17.out.bl
  rw [List.nil_append] at PP24
  have PP24h := Lib.hid PP24
  clear PP24
  have cp1 := Bl.cap PP24h.out
  have cp2 : (2 : Int) ≤ (cp : Int) := by omega
  have cp3 : ¬ ((cp : Int) < 2) := by omega
  refine (update_e _ P zeroB nb i _ PP24h.out (by omega)).mono ?_
  rintro e x26 ⟨rfl, hb25⟩
  have hq27 : Below x16.heap.size x16 x26 := hb25
  have D_28 := Lib.hid (Bl.to D_20.out hq27)
  have X_29 := Lib.hid (rangeTo X_21.out hq27)
  have Q_30 := Lib.hid (Bl.to Q_22.out hq27)
  have P_31 := Lib.hid (Bl.to PP24h.out hq27)
  have HB_32 : Hid (Below w.heap.size w x26) := Lib.hid (HB_23.out.trans (hq27.mono HB_23.out.size))
  clear hq27
  clear hb25
  go_wp2_with fail
  refine wp_region_held (S := (fun w' : World => At8 w' w.heap.size 0 nb.1)) rfl ?_
  change wpAnyH _ _ _ _ _ _ _ _ x26.drew
  have hz34 : Below x26.heap.size x26 x26.drew := (Below.refl x26.heap.size x26).drew
  generalize x26.drew = wz33 at hz34 ⊢
  have hq35 : Below x26.heap.size x26 wz33 := hz34
  have D_36 := Lib.hid (Bl.to D_28.out hq35)
  have X_37 := Lib.hid (rangeTo X_29.out hq35)
  have Q_38 := Lib.hid (Bl.to Q_30.out hq35)
  have P_39 := Lib.hid (Bl.to P_31.out hq35)
  have HB_40 : Hid (Below w.heap.size w wz33) := Lib.hid (HB_32.out.trans (hq35.mono HB_32.out.size))
  clear hq35
  clear hz34
  have hS41 : (fun w' : World => At8 w' w.heap.size 0 nb.1) wz33 := X_37.out
  refine takeD (i := 0) (v := .slice (some ⟨gp, 0, none⟩) 3 cp) (some 48) rfl rfl (by kernel_rfl) (by kernel_rfl) (by kernel_rfl) (fun _ _ _ h => h) (Or.inl ⟨by rfl, by rintro w' -; go_simp⟩) hS41 ?_
  simp only [Act.put, List.setIfInBounds_toArray, List.set_cons_zero, List.set_cons_succ]
  refine takeD (i := 1) (v := .slice (some ⟨gp, 0, none⟩) 2 cp) (some 49) rfl rfl (by kernel_rfl) (by kernel_rfl) (by kernel_rfl) (fun _ _ _ h => h) (Or.inl ⟨by rfl, by rintro w' -; go_simp⟩) hS41 ?_
  simp only [Act.put, List.setIfInBounds_toArray, List.set_cons_zero, List.set_cons_succ]
  refine takeD (i := 2) (v := .agg #[.int .u8 0, .int .u8 0, .int .u8 0, .int .u8 0, .int .u8 0, .int .u8 0, .int .u8 0, .int .u8 0]) (some 50) rfl rfl (by kernel_rfl) (by kernel_rfl) (by kernel_rfl) (fun _ _ _ h => h) (Or.inl ⟨by rfl, by rintro w' -; go_simp⟩) hS41 ?_
  simp only [Act.put, List.setIfInBounds_toArray, List.set_cons_zero, List.set_cons_succ]
  refine takeD (i := 3) (v := .agg (bcs nb.1)) (some 51) rfl rfl (by kernel_rfl) (by kernel_rfl) (by kernel_rfl) (fun _ _ _ h => h) (yieldsIf_load8 (by rfl) _ _ rfl _ _ rfl nb.1 _ (fun w' h => h) Try.underlying44 rfl (size8 nb.2.1)) hS41 ?_
  simp only [Act.put, List.setIfInBounds_toArray, List.set_cons_zero, List.set_cons_succ]
  refine wpAnyH_ready (rs := [4]) (by kernel_rfl) (by simp) ?_
  refine AllReadyH.cons rfl (fun K42 hK42 => ?_) AllReadyH.nil
  have HK42 := Lib.hid hK42
  clear hK42
  rw [if_pos (by rfl)]
  go_simp
  go_at_call 23
  refine (update_e _ (P.take 2) zeroB nb 0 _ (take_own P_39.out PL.out (by decide) (by decide)) (Or.inl (by rw [List.length_take, PL.out]; decide))).mono ?_
  rintro e x43 ⟨rfl, hb⟩
  have hq44 : Below wz33.heap.size wz33 x43 := hb
  have D_45 := Lib.hid (Bl.to D_36.out hq44)
  have X_46 := Lib.hid (rangeTo X_37.out hq44)
  have Q_47 := Lib.hid (Bl.to Q_38.out hq44)
  have P_48 := Lib.hid (Bl.to P_39.out hq44)
  have HB_49 : Hid (Below w.heap.size w x43) := Lib.hid (HB_40.out.trans (hq44.mono HB_40.out.size))
  clear hq44
  clear hb
  have hS50 : (fun w' : World => At8 w' w.heap.size 0 nb.1) x43 := X_46.out
  refine HK42.out _ _ hS50 fun _ => ?_
  try simp only [Act.put, List.setIfInBounds_toArray, List.set_cons_zero, List.set_cons_succ]
  refine takeD (i := 5) (v := .tuple #[.slice none 0 0, .int .i64 1]) (some 47) rfl rfl (by kernel_rfl) (by kernel_rfl) (by kernel_rfl) (fun _ _ _ h => h) (Or.inl ⟨by rfl, by rintro w' -; go_simp⟩) hS50 ?_
  simp only [Act.put, List.setIfInBounds_toArray, List.set_cons_zero, List.set_cons_succ]
  refine takeD (i := 6) (v := .slice none 0 0) (some 53) rfl rfl (by kernel_rfl) (by kernel_rfl) (by kernel_rfl) (fun _ _ _ h => h) (Or.inl ⟨by rfl, by rintro w' -; go_simp⟩) hS50 ?_
  simp only [Act.put, List.setIfInBounds_toArray, List.set_cons_zero, List.set_cons_succ]
  refine takeD (i := 7) (v := .int .i64 1) (some 54) rfl rfl (by kernel_rfl) (by kernel_rfl) (by kernel_rfl) (fun _ _ _ h => h) (Or.inl ⟨by rfl, by rintro w' -; go_simp⟩) hS50 ?_
  simp only [Act.put, List.setIfInBounds_toArray, List.set_cons_zero, List.set_cons_succ]
  refine takeD (i := 8) (v := .slice none 0 0) (some 11) rfl rfl (by kernel_rfl) (by kernel_rfl) (by kernel_rfl) (fun _ _ _ h => h) (Or.inl ⟨by rfl, by rintro w' -; go_simp⟩) hS50 ?_
  simp only [Act.put, List.setIfInBounds_toArray, List.set_cons_zero, List.set_cons_succ]
  refine takeD (i := 9) (v := .int .i64 1) (some 12) rfl rfl (by kernel_rfl) (by kernel_rfl) (by kernel_rfl) (fun _ _ _ h => h) (Or.inl ⟨by rfl, by rintro w' -; go_simp⟩) hS50 ?_
  simp only [Act.put, List.setIfInBounds_toArray, List.set_cons_zero, List.set_cons_succ]
  refine wpAnyH_done (by kernel_rfl) ?_ _
  go_wp2_with fail
  go_ret
  exact ⟨by first | rfl | simp, HB_49.out⟩
set_option maxHeartbeats 4000000 in
set_option maxRecDepth 100000 in
theorem plup_big (v : Value) (D : List (List Nat)) (i : Int) (nb : Blk) (w : World) (h : Bl w v D) (hs : 1 ≤ D.length ∧ D.length ≤ 13) (hi : 12 < i) : Calls Try.prog 6 #[v, .int .i64 i, .agg (bcs nb.1)] w (lawPost w) := by
  obtain ⟨bd, od, c, rfl, -, -, -⟩ := h.at_ (by omega)
  have HV := Lib.hid h
  have hm : D.length ≤ maxLen := by obtain ⟨_, _, _, hm, _⟩ := h; omega
  obtain ⟨n, hn⟩ : ∃ n, D.length = n := ⟨_, rfl⟩
  have N := Lib.hid hn
  have HS : Hid (1 ≤ D.length ∧ D.length ≤ 13) := Lib.hid (by omega)
  obtain ⟨P, hP⟩ : ∃ P, parL D = P := ⟨_, rfl⟩
  have PL : Hid (P.length = 3) := Lib.hid (by rw [← hP]; rfl)
  have L1 : Hid (([] : List (List Nat)).length + P.length ≤ 1000) := Lib.hid (by rw [← hP]; simp [parL])
  have PP := Lib.hid hP
  clear hP
  rw [hn] at hm hs HV ⊢
  clear h hn
  have g1 : decide ((n : Int) < 1) = false := by simp; omega
  have g2 : decide ((13 : Int) < (n : Int)) = false := by simp; omega
  have g3 : decide (i < 0) = false := decide_eq_false (by omega)
  have g4 : decide ((n : Int) ≤ i) = true := decide_eq_true (by omega)
  have g5 : decide (12 < i) = true := decide_eq_true hi
  have SN := Lib.hid (size8 nb.2.1)
  go_enter Try.func6, Try.ntmps6
  go_wp2_with fail
  obtain ⟨W0, hW0⟩ : ∃ W0, w.alloc (.cells (bcs nb.1) 44) = W0 := ⟨_, rfl⟩
  have HB0 : Hid (Below w.heap.size w W0) := Lib.hid (by rw [← hW0]; exact (Below.refl w.heap.size w).alloc (Nat.le_refl _) _)
  have HX0 : Hid (At8 W0 w.heap.size 0 nb.1) := Lib.hid (by rw [← hW0]; exact (row_new w _ 44).at8)
  have HV0 : Hid (Bl W0 _ D) := Lib.hid (HV.out.to HB0.out)
  rw [hW0]
  clear hW0
  refine (pawake_any _).mono ?_
  rintro e x2 ⟨rfl, hb1⟩
  have hq3 : Below W0.heap.size W0 x2 := hb1
  have D_4 := Lib.hid (Bl.to HV0.out hq3)
  have X_5 := Lib.hid (rangeTo HX0.out hq3)
  have HB_6 : Hid (Below w.heap.size w x2) := Lib.hid (HB0.out.trans (hq3.mono HB0.out.size))
  clear hq3
  clear hb1
  go_wp2_with fail
  refine (rparity_b _ D P _ D_4.out (by have := HS.out; omega) PP.out).mono ?_
  rintro e x8 ⟨gb, rfl, hn9, hb7⟩
  have hq10 : Below x2.heap.size x2 x8 := hb7
  have D_11 := Lib.hid (Bl.to D_4.out hq10)
  have X_12 := Lib.hid (rangeTo X_5.out hq10)
  have HB_13 : Hid (Below w.heap.size w x8) := Lib.hid (HB_6.out.trans (hq10.mono HB_6.out.size))
  clear hq10
  have Q_14 := Lib.hid hn9
  clear hb7 hn9
  go_wp2_with (first | (at_builtin; refine wpList_append_bl rfl (.tmp 28) (.tmp 29) rfl x8.heap.size (.slice (some ⟨x8.heap.size, 0, none⟩) 0 0) (.slice (some ⟨gb, 0, none⟩) 3 3) [] P rfl (OwnB.new (Nat.le_refl _)) rfl (Q_14.out.alloc _) L1.out (by simp) ?_; intro v15 x16 ho hg; have HO17 := Lib.hid ho; have HG18 := Lib.hid hg; clear ho hg; have HXI := Lib.hid (rangeTo X_12.out (((Below.refl x8.heap.size x8).alloc (Nat.le_refl _) _).grown HG18.out (by simp) (fun k e => by cases e; exact Nat.le_refl _)))) | (refine wpList_load8 rfl _ _ rfl _ 0 rfl _ _ HXI.out Try.underlying44 rfl SN.out ?_))
  have hq19 : Below x8.heap.size x8 x16 := ((Below.refl x8.heap.size x8).alloc (Nat.le_refl _) _).grown HG18.out (by simp) (fun k e => by cases e; exact Nat.le_refl _)
  have D_20 := Lib.hid (Bl.to D_11.out hq19)
  have X_21 := Lib.hid (rangeTo X_12.out hq19)
  have Q_22 := Lib.hid (Bl.to Q_14.out hq19)
  have HB_23 : Hid (Below w.heap.size w x16) := Lib.hid (HB_13.out.trans (hq19.mono HB_13.out.size))
  clear hq19
  obtain ⟨gp, cp, ep, -, -⟩ := HO17.out.form (by rw [List.nil_append, PL.out]; decide)
  rw [List.nil_append, PL.out] at ep
  subst ep
  have PP24 := HO17.out.bl
  rw [List.nil_append] at PP24
  have PP24h := Lib.hid PP24
  clear PP24
  have cp1 := Bl.cap PP24h.out
  have cp2 : (2 : Int) ≤ (cp : Int) := by omega
  have cp3 : ¬ ((cp : Int) < 2) := by omega
  refine (update_e _ P zeroB nb i _ PP24h.out (by omega)).mono ?_
  rintro e x26 ⟨rfl, hb25⟩
  have hq27 : Below x16.heap.size x16 x26 := hb25
  have D_28 := Lib.hid (Bl.to D_20.out hq27)
  have X_29 := Lib.hid (rangeTo X_21.out hq27)
  have Q_30 := Lib.hid (Bl.to Q_22.out hq27)
  have P_31 := Lib.hid (Bl.to PP24h.out hq27)
  have HB_32 : Hid (Below w.heap.size w x26) := Lib.hid (HB_23.out.trans (hq27.mono HB_23.out.size))
  clear hq27
  clear hb25
  go_wp2_with fail
  refine wp_region_held (S := (fun w' : World => At8 w' w.heap.size 0 nb.1)) rfl ?_
  change wpAnyH _ _ _ _ _ _ _ _ x26.drew
  have hz34 : Below x26.heap.size x26 x26.drew := (Below.refl x26.heap.size x26).drew
  generalize x26.drew = wz33 at hz34 ⊢
  have hq35 : Below x26.heap.size x26 wz33 := hz34
  have D_36 := Lib.hid (Bl.to D_28.out hq35)
  have X_37 := Lib.hid (rangeTo X_29.out hq35)
  have Q_38 := Lib.hid (Bl.to Q_30.out hq35)
  have P_39 := Lib.hid (Bl.to P_31.out hq35)
  have HB_40 : Hid (Below w.heap.size w wz33) := Lib.hid (HB_32.out.trans (hq35.mono HB_32.out.size))
  clear hq35
  clear hz34
  have hS41 : (fun w' : World => At8 w' w.heap.size 0 nb.1) wz33 := X_37.out
  refine takeD (i := 0) (v := .slice (some ⟨gp, 0, none⟩) 3 cp) (some 48) rfl rfl (by kernel_rfl) (by kernel_rfl) (by kernel_rfl) (fun _ _ _ h => h) (Or.inl ⟨by rfl, by rintro w' -; go_simp⟩) hS41 ?_
  simp only [Act.put, List.setIfInBounds_toArray, List.set_cons_zero, List.set_cons_succ]
  refine takeD (i := 1) (v := .slice (some ⟨gp, 0, none⟩) 2 cp) (some 49) rfl rfl (by kernel_rfl) (by kernel_rfl) (by kernel_rfl) (fun _ _ _ h => h) (Or.inl ⟨by rfl, by rintro w' -; go_simp⟩) hS41 ?_
  simp only [Act.put, List.setIfInBounds_toArray, List.set_cons_zero, List.set_cons_succ]
  refine takeD (i := 2) (v := .agg #[.int .u8 0, .int .u8 0, .int .u8 0, .int .u8 0, .int .u8 0, .int .u8 0, .int .u8 0, .int .u8 0]) (some 50) rfl rfl (by kernel_rfl) (by kernel_rfl) (by kernel_rfl) (fun _ _ _ h => h) (Or.inl ⟨by rfl, by rintro w' -; go_simp⟩) hS41 ?_
  simp only [Act.put, List.setIfInBounds_toArray, List.set_cons_zero, List.set_cons_succ]
  refine takeD (i := 3) (v := .agg (bcs nb.1)) (some 51) rfl rfl (by kernel_rfl) (by kernel_rfl) (by kernel_rfl) (fun _ _ _ h => h) (yieldsIf_load8 (by rfl) _ _ rfl _ _ rfl nb.1 _ (fun w' h => h) Try.underlying44 rfl (size8 nb.2.1)) hS41 ?_
  simp only [Act.put, List.setIfInBounds_toArray, List.set_cons_zero, List.set_cons_succ]
  refine wpAnyH_ready (rs := [4]) (by kernel_rfl) (by simp) ?_
  refine AllReadyH.cons rfl (fun K42 hK42 => ?_) AllReadyH.nil
  have HK42 := Lib.hid hK42
  clear hK42
  rw [if_pos (by rfl)]
  go_simp
  go_at_call 23
  refine (update_e _ (P.take 2) zeroB nb 0 _ (take_own P_39.out PL.out (by decide) (by decide)) (Or.inl (by rw [List.length_take, PL.out]; decide))).mono ?_
  rintro e x43 ⟨rfl, hb⟩
  have hq44 : Below wz33.heap.size wz33 x43 := hb
  have D_45 := Lib.hid (Bl.to D_36.out hq44)
  have X_46 := Lib.hid (rangeTo X_37.out hq44)
  have Q_47 := Lib.hid (Bl.to Q_38.out hq44)
  have P_48 := Lib.hid (Bl.to P_39.out hq44)
  have HB_49 : Hid (Below w.heap.size w x43) := Lib.hid (HB_40.out.trans (hq44.mono HB_40.out.size))
  clear hq44
  clear hb
  have hS50 : (fun w' : World => At8 w' w.heap.size 0 nb.1) x43 := X_46.out
  refine HK42.out _ _ hS50 fun _ => ?_
  try simp only [Act.put, List.setIfInBounds_toArray, List.set_cons_zero, List.set_cons_succ]
  refine takeD (i := 5) (v := .tuple #[.slice none 0 0, .int .i64 1]) (some 47) rfl rfl (by kernel_rfl) (by kernel_rfl) (by kernel_rfl) (fun _ _ _ h => h) (Or.inl ⟨by rfl, by rintro w' -; go_simp⟩) hS50 ?_
  simp only [Act.put, List.setIfInBounds_toArray, List.set_cons_zero, List.set_cons_succ]
  refine takeD (i := 6) (v := .slice none 0 0) (some 53) rfl rfl (by kernel_rfl) (by kernel_rfl) (by kernel_rfl) (fun _ _ _ h => h) (Or.inl ⟨by rfl, by rintro w' -; go_simp⟩) hS50 ?_
  simp only [Act.put, List.setIfInBounds_toArray, List.set_cons_zero, List.set_cons_succ]
  refine takeD (i := 7) (v := .int .i64 1) (some 54) rfl rfl (by kernel_rfl) (by kernel_rfl) (by kernel_rfl) (fun _ _ _ h => h) (Or.inl ⟨by rfl, by rintro w' -; go_simp⟩) hS50 ?_
  simp only [Act.put, List.setIfInBounds_toArray, List.set_cons_zero, List.set_cons_succ]
  refine takeD (i := 8) (v := .slice none 0 0) (some 11) rfl rfl (by kernel_rfl) (by kernel_rfl) (by kernel_rfl) (fun _ _ _ h => h) (Or.inl ⟨by rfl, by rintro w' -; go_simp⟩) hS50 ?_
  simp only [Act.put, List.setIfInBounds_toArray, List.set_cons_zero, List.set_cons_succ]
  refine takeD (i := 9) (v := .int .i64 1) (some 12) rfl rfl (by kernel_rfl) (by kernel_rfl) (by kernel_rfl) (fun _ _ _ h => h) (Or.inl ⟨by rfl, by rintro w' -; go_simp⟩) hS50 ?_
  simp only [Act.put, List.setIfInBounds_toArray, List.set_cons_zero, List.set_cons_succ]
  refine wpAnyH_done (by kernel_rfl) ?_ _
  go_wp2_with fail
  go_ret
  exact ⟨by first | rfl | simp, HB_49.out⟩
set_option maxHeartbeats 4000000 in
set_option maxRecDepth 100000 in
theorem plup_mid (v : Value) (D : List (List Nat)) (i : Nat) (nb : Blk) (w : World) (h : Bl w v D) (hs : 1 ≤ D.length ∧ D.length ≤ 13 ∧ D.length ≤ i) (hi : i ≤ 12) : Calls Try.prog 6 #[v, .int .i64 (i : Int), .agg (bcs nb.1)] w (lawPost w) := by
  obtain ⟨bd, od, c, rfl, -, -, -⟩ := h.at_ (by omega)
  have HV := Lib.hid h
  have hm : D.length ≤ maxLen := by obtain ⟨_, _, _, hm, _⟩ := h; omega
  obtain ⟨n, hn⟩ : ∃ n, D.length = n := ⟨_, rfl⟩
  have N := Lib.hid hn
  have HS : Hid (1 ≤ D.length ∧ D.length ≤ 13) := Lib.hid (by omega)
  obtain ⟨P, hP⟩ : ∃ P, parL D = P := ⟨_, rfl⟩
  have PL : Hid (P.length = 3) := Lib.hid (by rw [← hP]; rfl)
  have L1 : Hid (([] : List (List Nat)).length + P.length ≤ 1000) := Lib.hid (by rw [← hP]; simp [parL])
  have PP := Lib.hid hP
  clear hP
  rw [hn] at hm hs HV ⊢
  clear h hn
  have g1 : decide ((n : Int) < 1) = false := by simp; omega
  have g2 : decide ((13 : Int) < (n : Int)) = false := by simp; omega
  have g3 : decide ((i : Int) < 0) = false := decide_eq_false (by omega)
  have g4 : decide ((n : Int) ≤ (i : Int)) = true := decide_eq_true (by omega)
  have g5 : decide ((12 : Int) < (i : Int)) = false := decide_eq_false (by omega)
  have SN := Lib.hid (size8 nb.2.1)
  go_enter Try.func6, Try.ntmps6
  go_wp2_with fail
  obtain ⟨W0, hW0⟩ : ∃ W0, w.alloc (.cells (bcs nb.1) 44) = W0 := ⟨_, rfl⟩
  have HB0 : Hid (Below w.heap.size w W0) := Lib.hid (by rw [← hW0]; exact (Below.refl w.heap.size w).alloc (Nat.le_refl _) _)
  have HX0 : Hid (At8 W0 w.heap.size 0 nb.1) := Lib.hid (by rw [← hW0]; exact (row_new w _ 44).at8)
  have HV0 : Hid (Bl W0 _ D) := Lib.hid (HV.out.to HB0.out)
  rw [hW0]
  clear hW0
  refine (pawake_any _).mono ?_
  rintro e x2 ⟨rfl, hb1⟩
  have hq3 : Below W0.heap.size W0 x2 := hb1
  have D_4 := Lib.hid (Bl.to HV0.out hq3)
  have X_5 := Lib.hid (rangeTo HX0.out hq3)
  have HB_6 : Hid (Below w.heap.size w x2) := Lib.hid (HB0.out.trans (hq3.mono HB0.out.size))
  clear hq3
  clear hb1
  go_wp2_with fail
  refine (rparity_b _ D P _ D_4.out (by have := HS.out; omega) PP.out).mono ?_
  rintro e x8 ⟨gb, rfl, hn9, hb7⟩
  have hq10 : Below x2.heap.size x2 x8 := hb7
  have D_11 := Lib.hid (Bl.to D_4.out hq10)
  have X_12 := Lib.hid (rangeTo X_5.out hq10)
  have HB_13 : Hid (Below w.heap.size w x8) := Lib.hid (HB_6.out.trans (hq10.mono HB_6.out.size))
  clear hq10
  have Q_14 := Lib.hid hn9
  clear hb7 hn9
  go_wp2_with (first | (at_builtin; refine wpList_append_bl rfl (.tmp 28) (.tmp 29) rfl x8.heap.size (.slice (some ⟨x8.heap.size, 0, none⟩) 0 0) (.slice (some ⟨gb, 0, none⟩) 3 3) [] P rfl (OwnB.new (Nat.le_refl _)) rfl (Q_14.out.alloc _) L1.out (by simp) ?_; intro v15 x16 ho hg; have HO17 := Lib.hid ho; have HG18 := Lib.hid hg; clear ho hg; have HXI := Lib.hid (rangeTo X_12.out (((Below.refl x8.heap.size x8).alloc (Nat.le_refl _) _).grown HG18.out (by simp) (fun k e => by cases e; exact Nat.le_refl _)))) | (refine wpList_load8 rfl _ _ rfl _ 0 rfl _ _ HXI.out Try.underlying44 rfl SN.out ?_))
  have hq19 : Below x8.heap.size x8 x16 := ((Below.refl x8.heap.size x8).alloc (Nat.le_refl _) _).grown HG18.out (by simp) (fun k e => by cases e; exact Nat.le_refl _)
  have D_20 := Lib.hid (Bl.to D_11.out hq19)
  have X_21 := Lib.hid (rangeTo X_12.out hq19)
  have Q_22 := Lib.hid (Bl.to Q_14.out hq19)
  have HB_23 : Hid (Below w.heap.size w x16) := Lib.hid (HB_13.out.trans (hq19.mono HB_13.out.size))
  clear hq19
  obtain ⟨gp, cp, ep, -, -⟩ := HO17.out.form (by rw [List.nil_append, PL.out]; decide)
  rw [List.nil_append, PL.out] at ep
  subst ep
  have PP24 := HO17.out.bl
  rw [List.nil_append] at PP24
  have PP24h := Lib.hid PP24
  clear PP24
  have cp1 := Bl.cap PP24h.out
  have cp2 : (2 : Int) ≤ (cp : Int) := by omega
  have cp3 : ¬ ((cp : Int) < 2) := by omega
  refine (update_any _ P zeroB nb i _ PP24h.out PL.out (by omega)).mono ?_
  rintro e x26 ⟨gx, rfl, hb25⟩
  have hq27 : Below x16.heap.size x16 x26 := hb25
  have D_28 := Lib.hid (Bl.to D_20.out hq27)
  have X_29 := Lib.hid (rangeTo X_21.out hq27)
  have Q_30 := Lib.hid (Bl.to Q_22.out hq27)
  have P_31 := Lib.hid (Bl.to PP24h.out hq27)
  have HB_32 : Hid (Below w.heap.size w x26) := Lib.hid (HB_23.out.trans (hq27.mono HB_23.out.size))
  clear hq27
  clear hb25 
  go_wp2_with fail
  refine wp_region_held (S := (fun w' : World => At8 w' w.heap.size 0 nb.1)) rfl ?_
  change wpAnyH _ _ _ _ _ _ _ _ x26.drew
  have hz34 : Below x26.heap.size x26 x26.drew := (Below.refl x26.heap.size x26).drew
  generalize x26.drew = wz33 at hz34 ⊢
  have hq35 : Below x26.heap.size x26 wz33 := hz34
  have D_36 := Lib.hid (Bl.to D_28.out hq35)
  have X_37 := Lib.hid (rangeTo X_29.out hq35)
  have Q_38 := Lib.hid (Bl.to Q_30.out hq35)
  have P_39 := Lib.hid (Bl.to P_31.out hq35)
  have HB_40 : Hid (Below w.heap.size w wz33) := Lib.hid (HB_32.out.trans (hq35.mono HB_32.out.size))
  clear hq35
  clear hz34
  have hS41 : (fun w' : World => At8 w' w.heap.size 0 nb.1) wz33 := X_37.out
  refine takeD (i := 0) (v := .slice (some ⟨gp, 0, none⟩) 3 cp) (some 48) rfl rfl (by kernel_rfl) (by kernel_rfl) (by kernel_rfl) (fun _ _ _ h => h) (Or.inl ⟨by rfl, by rintro w' -; go_simp⟩) hS41 ?_
  simp only [Act.put, List.setIfInBounds_toArray, List.set_cons_zero, List.set_cons_succ]
  refine takeD (i := 1) (v := .slice (some ⟨gp, 0, none⟩) 2 cp) (some 49) rfl rfl (by kernel_rfl) (by kernel_rfl) (by kernel_rfl) (fun _ _ _ h => h) (Or.inl ⟨by rfl, by rintro w' -; go_simp⟩) hS41 ?_
  simp only [Act.put, List.setIfInBounds_toArray, List.set_cons_zero, List.set_cons_succ]
  refine takeD (i := 2) (v := .agg #[.int .u8 0, .int .u8 0, .int .u8 0, .int .u8 0, .int .u8 0, .int .u8 0, .int .u8 0, .int .u8 0]) (some 50) rfl rfl (by kernel_rfl) (by kernel_rfl) (by kernel_rfl) (fun _ _ _ h => h) (Or.inl ⟨by rfl, by rintro w' -; go_simp⟩) hS41 ?_
  simp only [Act.put, List.setIfInBounds_toArray, List.set_cons_zero, List.set_cons_succ]
  refine takeD (i := 3) (v := .agg (bcs nb.1)) (some 51) rfl rfl (by kernel_rfl) (by kernel_rfl) (by kernel_rfl) (fun _ _ _ h => h) (yieldsIf_load8 (by rfl) _ _ rfl _ _ rfl nb.1 _ (fun w' h => h) Try.underlying44 rfl (size8 nb.2.1)) hS41 ?_
  simp only [Act.put, List.setIfInBounds_toArray, List.set_cons_zero, List.set_cons_succ]
  refine wpAnyH_ready (rs := [4]) (by kernel_rfl) (by simp) ?_
  refine AllReadyH.cons rfl (fun K42 hK42 => ?_) AllReadyH.nil
  have HK42 := Lib.hid hK42
  clear hK42
  rw [if_pos (by rfl)]
  go_simp
  go_at_call 23
  refine (update_e _ (P.take 2) zeroB nb 0 _ (take_own P_39.out PL.out (by decide) (by decide)) (Or.inl (by rw [List.length_take, PL.out]; decide))).mono ?_
  rintro e x43 ⟨rfl, hb⟩
  have hq44 : Below wz33.heap.size wz33 x43 := hb
  have D_45 := Lib.hid (Bl.to D_36.out hq44)
  have X_46 := Lib.hid (rangeTo X_37.out hq44)
  have Q_47 := Lib.hid (Bl.to Q_38.out hq44)
  have P_48 := Lib.hid (Bl.to P_39.out hq44)
  have HB_49 : Hid (Below w.heap.size w x43) := Lib.hid (HB_40.out.trans (hq44.mono HB_40.out.size))
  clear hq44
  clear hb
  have hS50 : (fun w' : World => At8 w' w.heap.size 0 nb.1) x43 := X_46.out
  refine HK42.out _ _ hS50 fun _ => ?_
  try simp only [Act.put, List.setIfInBounds_toArray, List.set_cons_zero, List.set_cons_succ]
  refine takeD (i := 5) (v := .tuple #[.slice none 0 0, .int .i64 1]) (some 47) rfl rfl (by kernel_rfl) (by kernel_rfl) (by kernel_rfl) (fun _ _ _ h => h) (Or.inl ⟨by rfl, by rintro w' -; go_simp⟩) hS50 ?_
  simp only [Act.put, List.setIfInBounds_toArray, List.set_cons_zero, List.set_cons_succ]
  refine takeD (i := 6) (v := .slice none 0 0) (some 53) rfl rfl (by kernel_rfl) (by kernel_rfl) (by kernel_rfl) (fun _ _ _ h => h) (Or.inl ⟨by rfl, by rintro w' -; go_simp⟩) hS50 ?_
  simp only [Act.put, List.setIfInBounds_toArray, List.set_cons_zero, List.set_cons_succ]
  refine takeD (i := 7) (v := .int .i64 1) (some 54) rfl rfl (by kernel_rfl) (by kernel_rfl) (by kernel_rfl) (fun _ _ _ h => h) (Or.inl ⟨by rfl, by rintro w' -; go_simp⟩) hS50 ?_
  simp only [Act.put, List.setIfInBounds_toArray, List.set_cons_zero, List.set_cons_succ]
  refine takeD (i := 8) (v := .slice none 0 0) (some 11) rfl rfl (by kernel_rfl) (by kernel_rfl) (by kernel_rfl) (fun _ _ _ h => h) (Or.inl ⟨by rfl, by rintro w' -; go_simp⟩) hS50 ?_
  simp only [Act.put, List.setIfInBounds_toArray, List.set_cons_zero, List.set_cons_succ]
  refine takeD (i := 9) (v := .int .i64 1) (some 12) rfl rfl (by kernel_rfl) (by kernel_rfl) (by kernel_rfl) (fun _ _ _ h => h) (Or.inl ⟨by rfl, by rintro w' -; go_simp⟩) hS50 ?_
  simp only [Act.put, List.setIfInBounds_toArray, List.set_cons_zero, List.set_cons_succ]
  refine wpAnyH_done (by kernel_rfl) ?_ _
  go_wp2_with fail
  go_ret
  exact ⟨by first | rfl | simp, HB_49.out⟩
set_option maxHeartbeats 4000000 in
set_option maxRecDepth 100000 in
theorem plup_in (v : Value) (D : List (List Nat)) (i : Nat) (nb : Blk) (w : World) (h : Bl w v D) (hs : 1 ≤ D.length ∧ D.length ≤ 13 ∧ i < D.length) : Calls Try.prog 6 #[v, .int .i64 (i : Int), .agg (bcs nb.1)] w (lawPost w) := by
  obtain ⟨bd, od, c, rfl, -, -, -⟩ := h.at_ (by omega)
  have HV := Lib.hid h
  have hm : D.length ≤ maxLen := by obtain ⟨_, _, _, hm, _⟩ := h; omega
  obtain ⟨n, hn⟩ : ∃ n, D.length = n := ⟨_, rfl⟩
  have N := Lib.hid hn
  have HS : Hid (1 ≤ D.length ∧ D.length ≤ 13) := Lib.hid (by omega)
  obtain ⟨P, hP⟩ : ∃ P, parL D = P := ⟨_, rfl⟩
  have PL : Hid (P.length = 3) := Lib.hid (by rw [← hP]; rfl)
  have L1 : Hid (([] : List (List Nat)).length + P.length ≤ 1000) := Lib.hid (by rw [← hP]; simp [parL])
  have PP := Lib.hid hP
  clear hP
  have OK := Lib.hid h.ok
  obtain ⟨a, ha⟩ : ∃ a : Blk, a = nth D h.ok i := ⟨_, rfl⟩
  have AE : Hid (a.1 = D.getD i []) := Lib.hid (by rw [ha]; show D.getD i zeroB.1 = _; rw [getD_in hs.2.2, getD_in hs.2.2])
  obtain ⟨Q, hQ⟩ : ∃ Q, parL (D.set i nb.1) = Q := ⟨_, rfl⟩
  have QE := Lib.hid hQ
  have HI : Hid (i < D.length) := Lib.hid hs.2.2
  have L2 : Hid (([] : List (List Nat)).length + D.length ≤ 1000) := Lib.hid (by simp; omega)
  clear hQ ha
  rw [hn] at hm hs HV ⊢
  clear h hn
  have g1 : decide ((n : Int) < 1) = false := by simp; omega
  have g2 : decide ((13 : Int) < (n : Int)) = false := by simp; omega
  have iI : (i : Int) < (n : Int) := by omega
  have g3 : decide ((i : Int) < 0) = false := decide_eq_false (by omega)
  have g4 : decide ((n : Int) ≤ (i : Int)) = false := decide_eq_false (by omega)
  have SN := Lib.hid (size8 nb.2.1)
  go_enter Try.func6, Try.ntmps6
  go_wp2_with fail
  obtain ⟨W0, hW0⟩ : ∃ W0, w.alloc (.cells (bcs nb.1) 44) = W0 := ⟨_, rfl⟩
  have HB0 : Hid (Below w.heap.size w W0) := Lib.hid (by rw [← hW0]; exact (Below.refl w.heap.size w).alloc (Nat.le_refl _) _)
  have HX0 : Hid (At8 W0 w.heap.size 0 nb.1) := Lib.hid (by rw [← hW0]; exact (row_new w _ 44).at8)
  have HV0 : Hid (Bl W0 _ D) := Lib.hid (HV.out.to HB0.out)
  rw [hW0]
  clear hW0
  refine (pawake_any _).mono ?_
  rintro e x2 ⟨rfl, hb1⟩
  have hq3 : Below W0.heap.size W0 x2 := hb1
  have D_4 := Lib.hid (Bl.to HV0.out hq3)
  have X_5 := Lib.hid (rangeTo HX0.out hq3)
  have HB_6 : Hid (Below w.heap.size w x2) := Lib.hid (HB0.out.trans (hq3.mono HB0.out.size))
  clear hq3
  clear hb1
  go_wp2_with fail
  refine (rparity_b _ D P _ D_4.out (by have := HS.out; omega) PP.out).mono ?_
  rintro e x8 ⟨gb, rfl, hn9, hb7⟩
  have hq10 : Below x2.heap.size x2 x8 := hb7
  have D_11 := Lib.hid (Bl.to D_4.out hq10)
  have X_12 := Lib.hid (rangeTo X_5.out hq10)
  have HB_13 : Hid (Below w.heap.size w x8) := Lib.hid (HB_6.out.trans (hq10.mono HB_6.out.size))
  clear hq10
  have Q_14 := Lib.hid hn9
  clear hb7 hn9
  go_wp2_with (first | (at_builtin; refine wpList_append_bl rfl (.tmp 28) (.tmp 29) rfl x8.heap.size (.slice (some ⟨x8.heap.size, 0, none⟩) 0 0) (.slice (some ⟨gb, 0, none⟩) 3 3) [] P rfl (OwnB.new (Nat.le_refl _)) rfl (Q_14.out.alloc _) L1.out (by simp) ?_; intro v15 x16 ho hg; have HO17 := Lib.hid ho; have HG18 := Lib.hid hg; clear ho hg; have HXI := Lib.hid (rangeTo X_12.out (((Below.refl x8.heap.size x8).alloc (Nat.le_refl _) _).grown HG18.out (by simp) (fun k e => by cases e; exact Nat.le_refl _)))) | (refine wpList_load8 rfl _ _ rfl _ 0 rfl _ _ HXI.out Try.underlying44 rfl SN.out ?_))
  have hq19 : Below x8.heap.size x8 x16 := ((Below.refl x8.heap.size x8).alloc (Nat.le_refl _) _).grown HG18.out (by simp) (fun k e => by cases e; exact Nat.le_refl _)
  have D_20 := Lib.hid (Bl.to D_11.out hq19)
  have X_21 := Lib.hid (rangeTo X_12.out hq19)
  have Q_22 := Lib.hid (Bl.to Q_14.out hq19)
  have HB_23 : Hid (Below w.heap.size w x16) := Lib.hid (HB_13.out.trans (hq19.mono HB_13.out.size))
  clear hq19
  obtain ⟨gp, cp, ep, -, -⟩ := HO17.out.form (by rw [List.nil_append, PL.out]; decide)
  rw [List.nil_append, PL.out] at ep
  subst ep
  have PP24 := HO17.out.bl
  rw [List.nil_append] at PP24
  have PP24h := Lib.hid PP24
  clear PP24
  have cp1 := Bl.cap PP24h.out
  have cp2 : (2 : Int) ≤ (cp : Int) := by omega
  have cp3 : ¬ ((cp : Int) < 2) := by omega
  refine wp_region_held (S := (fun w' : World => At8 w' w.heap.size 0 nb.1 ∧ Bl w' (.slice (some ⟨bd, od, none⟩) n c) D)) rfl ?_
  change wpAnyH _ _ _ _ _ _ _ _ x16.drew
  have hz26 : Below x16.heap.size x16 x16.drew := (Below.refl x16.heap.size x16).drew
  generalize x16.drew = wz25 at hz26 ⊢
  have hq27 : Below x16.heap.size x16 wz25 := hz26
  have D_28 := Lib.hid (Bl.to D_20.out hq27)
  have X_29 := Lib.hid (rangeTo X_21.out hq27)
  have Q_30 := Lib.hid (Bl.to Q_22.out hq27)
  have P_31 := Lib.hid (Bl.to PP24h.out hq27)
  have HB_32 : Hid (Below w.heap.size w wz25) := Lib.hid (HB_23.out.trans (hq27.mono HB_23.out.size))
  clear hq27
  clear hz26
  have hS33 : (fun w' : World => At8 w' w.heap.size 0 nb.1 ∧ Bl w' (.slice (some ⟨bd, od, none⟩) n c) D) wz25 := ⟨X_29.out, D_28.out⟩
  refine takeD (i := 0) (v := .slice (some ⟨gp, 0, none⟩) 3 cp) (some 81) rfl rfl (by kernel_rfl) (by kernel_rfl) (by kernel_rfl) (fun _ _ _ h => h) (Or.inl ⟨by rfl, by rintro w' -; go_simp⟩) hS33 ?_
  simp only [Act.put, List.setIfInBounds_toArray, List.set_cons_zero, List.set_cons_succ]
  refine takeD (i := 1) (v := .int .i64 (i : Int)) (some 82) rfl rfl (by kernel_rfl) (by kernel_rfl) (by kernel_rfl) (fun _ _ _ h => h) (Or.inl ⟨by rfl, by rintro w' -; go_simp⟩) hS33 ?_
  simp only [Act.put, List.setIfInBounds_toArray, List.set_cons_zero, List.set_cons_succ]
  refine takeD (i := 2) (v := .slice (some ⟨bd, od, none⟩) n c) (some 83) rfl rfl (by kernel_rfl) (by kernel_rfl) (by kernel_rfl) (fun _ _ _ h => h) (Or.inl ⟨by rfl, by rintro w' -; go_simp⟩) hS33 ?_
  simp only [Act.put, List.setIfInBounds_toArray, List.set_cons_zero, List.set_cons_succ]
  refine takeD (i := 3) (v := .int .i64 (i : Int)) (some 84) rfl rfl (by kernel_rfl) (by kernel_rfl) (by kernel_rfl) (fun _ _ _ h => h) (Or.inl ⟨by rfl, by rintro w' -; go_simp⟩) hS33 ?_
  simp only [Act.put, List.setIfInBounds_toArray, List.set_cons_zero, List.set_cons_succ]
  refine takeD (i := 4) (v := .pointer (some ⟨bd, od + i * 8, none⟩)) (some 85) rfl rfl (by kernel_rfl) (by kernel_rfl) (by kernel_rfl) (fun _ _ _ h => h) (Or.inl ⟨by rfl, by rintro w' -; go_simp⟩) hS33 ?_
  simp only [Act.put, List.setIfInBounds_toArray, List.set_cons_zero, List.set_cons_succ]
  refine takeD (i := 5) (v := .agg (bcs a.1)) (some 86) rfl rfl (by kernel_rfl) (by kernel_rfl) (by kernel_rfl) (fun _ _ _ h => h) (yieldsIf_load8 (by rfl) _ _ rfl _ _ rfl a.1 _ (fun w' h => by rw [AE.out]; exact Bl.at8 h.2 HI.out) Try.underlying44 rfl (size8 a.2.1)) hS33 ?_
  simp only [Act.put, List.setIfInBounds_toArray, List.set_cons_zero, List.set_cons_succ]
  refine takeD (i := 6) (v := .agg (bcs nb.1)) (some 87) rfl rfl (by kernel_rfl) (by kernel_rfl) (by kernel_rfl) (fun _ _ _ h => h) (yieldsIf_load8 (by rfl) _ _ rfl _ _ rfl nb.1 _ (fun w' h => h.1) Try.underlying44 rfl (size8 nb.2.1)) hS33 ?_
  simp only [Act.put, List.setIfInBounds_toArray, List.set_cons_zero, List.set_cons_succ]
  refine wpAnyH_ready (rs := [7]) (by kernel_rfl) (by simp) ?_
  refine AllReadyH.cons rfl (fun K34 hK34 => ?_) AllReadyH.nil
  have HK34 := Lib.hid hK34
  clear hK34
  rw [if_pos (by rfl)]
  go_simp
  go_at_call 23
  refine (update_b _ D P Q OK.out a nb i _ P_31.out PP.out HI.out (by omega) AE.out QE.out).mono ?_
  rintro e x35 ⟨gx, rfl, -, hx, hb⟩
  have hq36 : Below wz25.heap.size wz25 x35 := hb
  have D_37 := Lib.hid (Bl.to D_28.out hq36)
  have X_38 := Lib.hid (rangeTo X_29.out hq36)
  have Q_39 := Lib.hid (Bl.to Q_30.out hq36)
  have P_40 := Lib.hid (Bl.to P_31.out hq36)
  have HB_41 : Hid (Below w.heap.size w x35) := Lib.hid (HB_32.out.trans (hq36.mono HB_32.out.size))
  clear hq36
  have HXX := Lib.hid hx
  clear hb hx
  have hS42 : (fun w' : World => At8 w' w.heap.size 0 nb.1 ∧ Bl w' (.slice (some ⟨bd, od, none⟩) n c) D) x35 := ⟨X_38.out, D_37.out⟩
  refine HK34.out _ _ hS42 fun _ => ?_
  try simp only [Act.put, List.setIfInBounds_toArray, List.set_cons_zero, List.set_cons_succ]
  refine takeD (i := 8) (v := .tuple #[.slice (some ⟨gx, 0, none⟩) 3 3, .int .i64 0]) (some 80) rfl rfl (by kernel_rfl) (by kernel_rfl) (by kernel_rfl) (fun _ _ _ h => h) (Or.inl ⟨by rfl, by rintro w' -; go_simp⟩) hS42 ?_
  simp only [Act.put, List.setIfInBounds_toArray, List.set_cons_zero, List.set_cons_succ]
  refine takeD (i := 9) (v := .slice (some ⟨gx, 0, none⟩) 3 3) (some 89) rfl rfl (by kernel_rfl) (by kernel_rfl) (by kernel_rfl) (fun _ _ _ h => h) (Or.inl ⟨by rfl, by rintro w' -; go_simp⟩) hS42 ?_
  simp only [Act.put, List.setIfInBounds_toArray, List.set_cons_zero, List.set_cons_succ]
  refine takeD (i := 10) (v := .int .i64 0) (some 90) rfl rfl (by kernel_rfl) (by kernel_rfl) (by kernel_rfl) (fun _ _ _ h => h) (Or.inl ⟨by rfl, by rintro w' -; go_simp⟩) hS42 ?_
  simp only [Act.put, List.setIfInBounds_toArray, List.set_cons_zero, List.set_cons_succ]
  refine takeD (i := 11) (v := .slice (some ⟨gx, 0, none⟩) 3 3) (some 13) rfl rfl (by kernel_rfl) (by kernel_rfl) (by kernel_rfl) (fun _ _ _ h => h) (Or.inl ⟨by rfl, by rintro w' -; go_simp⟩) hS42 ?_
  simp only [Act.put, List.setIfInBounds_toArray, List.set_cons_zero, List.set_cons_succ]
  refine takeD (i := 12) (v := .int .i64 0) (some 14) rfl rfl (by kernel_rfl) (by kernel_rfl) (by kernel_rfl) (fun _ _ _ h => h) (Or.inl ⟨by rfl, by rintro w' -; go_simp⟩) hS42 ?_
  simp only [Act.put, List.setIfInBounds_toArray, List.set_cons_zero, List.set_cons_succ]
  refine wpAnyH_done (by kernel_rfl) ?_ _
  go_wp2_with (first | (at_builtin; refine wpList_append_bl rfl (.tmp 91) (.tmp 92) rfl x35.heap.size (.slice (some ⟨x35.heap.size, 0, none⟩) 0 0) (.slice (some ⟨bd, od, none⟩) n c) [] D rfl (OwnB.new (Nat.le_refl _)) rfl (D_37.out.alloc _) L2.out (by simp) ?_; intro v43 x44 ho hg; have HO45 := Lib.hid ho; have HG46 := Lib.hid hg; clear ho hg; have HXI2 := Lib.hid (rangeTo X_38.out (((Below.refl x35.heap.size x35).alloc (Nat.le_refl _) _).grown HG46.out (by simp) (fun k e => by cases e; exact Nat.le_refl _))); obtain ⟨ga, ca, ea, hga, -⟩ := HO45.out.form (by rw [List.nil_append]; have := HI.out; omega); rw [List.nil_append, N.out] at ea; subst ea; have OO := HO45.out; rw [List.nil_append] at OO; have HOF := Lib.hid OO; clear OO; have TH : Hid (x44.there ga (i * 8) (bcs nb.1).size) := Lib.hid (by rw [bcs_size, nb.2.1]; exact HOF.out.there HI.out); have HO2 := Lib.hid (HOF.out.set HI.out nb.2); have HBC : Hid (Below x35.heap.size x35 (x44.setCells ga (i * 8) (nb.1.map bv))) := Lib.hid (below_setCells (((Below.refl x35.heap.size x35).alloc (Nat.le_refl _) _).grown HG46.out (by simp) (fun k e => by cases e; exact Nat.le_refl _)) _ _ _ hga)) | (refine wpList_load8 rfl _ _ rfl _ 0 rfl _ _ HXI2.out Try.underlying44 rfl SN.out ?_) | (refine wpList_store8 rfl _ _ _ rfl _ _ nb.1 rfl rfl TH.out SN.out ?_))
  have hq47 : Below x35.heap.size x35 x44 := ((Below.refl x35.heap.size x35).alloc (Nat.le_refl _) _).grown HG46.out (by simp) (fun k e => by cases e; exact Nat.le_refl _)
  have D_48 := Lib.hid (Bl.to D_37.out hq47)
  have X_49 := Lib.hid (rangeTo X_38.out hq47)
  have Q_50 := Lib.hid (Bl.to Q_39.out hq47)
  have P_51 := Lib.hid (Bl.to P_40.out hq47)
  have R_52 := Lib.hid (Bl.to HXX.out hq47)
  have HB_53 : Hid (Below w.heap.size w x44) := Lib.hid (HB_41.out.trans (hq47.mono HB_41.out.size))
  clear hq47
  obtain ⟨xs, hxs⟩ : ∃ xs, x44.setCells ga (i * 8) (nb.1.map bv) = xs := ⟨_, rfl⟩
  rw [hxs] at HO2 HBC ⊢
  clear hxs TH
  have hq54 : Below x35.heap.size x35 xs := HBC.out
  have D_55 := Lib.hid (Bl.to D_37.out hq54)
  have X_56 := Lib.hid (rangeTo X_38.out hq54)
  have Q_57 := Lib.hid (Bl.to Q_39.out hq54)
  have P_58 := Lib.hid (Bl.to P_40.out hq54)
  have R_59 := Lib.hid (Bl.to HXX.out hq54)
  have HB_60 : Hid (Below w.heap.size w xs) := Lib.hid (HB_41.out.trans (hq54.mono HB_41.out.size))
  clear hq54
  refine (same_b _ _ P P true _ P_58.out Q_57.out (by simp)).mono ?_
  rintro e x62 ⟨rfl, hb61⟩
  have hq63 : Below xs.heap.size xs x62 := hb61
  have D_64 := Lib.hid (Bl.to D_55.out hq63)
  have X_65 := Lib.hid (rangeTo X_56.out hq63)
  have Q_66 := Lib.hid (Bl.to Q_57.out hq63)
  have P_67 := Lib.hid (Bl.to P_58.out hq63)
  have R_68 := Lib.hid (Bl.to R_59.out hq63)
  have O_69 := Lib.hid (OwnB.to HO2.out hq63)
  have HB_70 : Hid (Below w.heap.size w x62) := Lib.hid (HB_60.out.trans (hq63.mono HB_60.out.size))
  clear hq63
  clear hb61
  go_wp2_with fail
  refine (rparity_b _ (D.set i nb.1) Q _ O_69.out.bl (by have := HS.out; rw [List.length_set]; omega) QE.out).mono ?_
  rintro e x72 ⟨gq, rfl, hn73, hb71⟩
  have hq74 : Below x62.heap.size x62 x72 := hb71
  have D_75 := Lib.hid (Bl.to D_64.out hq74)
  have X_76 := Lib.hid (rangeTo X_65.out hq74)
  have Q_77 := Lib.hid (Bl.to Q_66.out hq74)
  have P_78 := Lib.hid (Bl.to P_67.out hq74)
  have R_79 := Lib.hid (Bl.to R_68.out hq74)
  have O_80 := Lib.hid (OwnB.to O_69.out hq74)
  have HB_81 : Hid (Below w.heap.size w x72) := Lib.hid (HB_70.out.trans (hq74.mono HB_70.out.size))
  clear hq74
  have Z_82 := Lib.hid hn73
  clear hb71 hn73
  go_wp2_with fail
  refine (same_b _ _ Q Q true _ R_79.out Z_82.out (by simp)).mono ?_
  rintro e x84 ⟨rfl, hb83⟩
  have hq85 : Below x72.heap.size x72 x84 := hb83
  have D_86 := Lib.hid (Bl.to D_75.out hq85)
  have X_87 := Lib.hid (rangeTo X_76.out hq85)
  have Q_88 := Lib.hid (Bl.to Q_77.out hq85)
  have P_89 := Lib.hid (Bl.to P_78.out hq85)
  have R_90 := Lib.hid (Bl.to R_79.out hq85)
  have O_91 := Lib.hid (OwnB.to O_80.out hq85)
  have Z_92 := Lib.hid (Bl.to Z_82.out hq85)
  have HB_93 : Hid (Below w.heap.size w x84) := Lib.hid (HB_81.out.trans (hq85.mono HB_81.out.size))
  clear hq85
  clear hb83
  go_wp2_with fail
  go_ret
  exact ⟨by first | rfl | simp, HB_93.out⟩
theorem plup_walk (v : Value) (D : List (List Nat)) (i : Int) (nb : Blk) (w : World) (h : Bl w v D) : Calls Try.prog 6 #[v, .int .i64 i, .agg (bcs nb.1)] w (lawPost w) := by
  by_cases h1 : D.length < 1
  · exact plup_lo v D i nb w h h1
  · by_cases h2 : 13 < D.length
    · exact plup_hi v D i nb w h ⟨h1, h2⟩
    · by_cases h3 : i < 0
      · exact plup_neg v D i nb w h ⟨by omega, by omega⟩ h3
      · by_cases h4 : 12 < i
        · exact plup_big v D i nb w h ⟨by omega, by omega⟩ h4
        · obtain ⟨k, rfl⟩ : ∃ k : Nat, i = k := ⟨i.toNat, by omega⟩
          by_cases h5 : D.length ≤ k
          · exact plup_mid v D k nb w h ⟨by omega, by omega, h5⟩ (by omega)
          · exact plup_in v D k nb w h ⟨by omega, by omega, by omega⟩
end Go.Proofs.Ytfhgalfdlkdliaa
