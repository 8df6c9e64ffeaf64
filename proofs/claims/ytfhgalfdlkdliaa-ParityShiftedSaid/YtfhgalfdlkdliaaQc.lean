/- The walk of the law ParityShifted. WRITTEN BY gen_Qc.py. -/
import Derived.Test.YtfhgalfdlkdliaaPo
import Derived.Test.YtfhgalfdlkdliaaOpen
namespace Go.Proofs.Ytfhgalfdlkdliaa
open Go Go.RowKit
set_option linter.unusedVariables false

set_option maxHeartbeats 4000000 in
set_option maxRecDepth 100000 in
theorem plsh_lo (v : Value) (D : List (List Nat)) (w : World) (h : Bl w v D) (hs : D.length < 1) : Calls Try.prog 11 #[v] w (lawPost w) := by
  have HV := Lib.hid h
  have hm : D.length ≤ maxLen := by obtain ⟨_, _, _, hm, _⟩ := h; omega
  obtain ⟨A, c, rfl⟩ := h.form
  obtain ⟨n, hn⟩ : ∃ n, D.length = n := ⟨_, rfl⟩
  have N := Lib.hid hn
  rw [hn] at hm hs HV ⊢
  clear h hn
  have g1 : decide ((n : Int) < 1) = true := by simp; omega
  go_enter Try.func11, Try.ntmps11
  go_wp2_with fail
  refine (pawake_any _).mono ?_
  rintro e x2 ⟨rfl, hb1⟩
  have hq3 : Below w.heap.size w x2 := hb1
  have HB_4 : Hid (Below w.heap.size w x2) := Lib.hid (hq3)
  clear hq3
  clear hb1
  go_wp2_with fail
  go_ret
  exact ⟨by first | rfl | simp, HB_4.out⟩
set_option maxHeartbeats 4000000 in
set_option maxRecDepth 100000 in
theorem plsh_hi (v : Value) (D : List (List Nat)) (w : World) (h : Bl w v D) (hs : ¬ D.length < 1 ∧ 12 < D.length) : Calls Try.prog 11 #[v] w (lawPost w) := by
  have HV := Lib.hid h
  have hm : D.length ≤ maxLen := by obtain ⟨_, _, _, hm, _⟩ := h; omega
  obtain ⟨A, c, rfl⟩ := h.form
  obtain ⟨n, hn⟩ : ∃ n, D.length = n := ⟨_, rfl⟩
  have N := Lib.hid hn
  rw [hn] at hm hs HV ⊢
  clear h hn
  have g1 : decide ((n : Int) < 1) = false := by simp; omega
  have g2 : decide ((12 : Int) < (n : Int)) = true := by simp; omega
  go_enter Try.func11, Try.ntmps11
  go_wp2_with fail
  refine (pawake_any _).mono ?_
  rintro e x2 ⟨rfl, hb1⟩
  have hq3 : Below w.heap.size w x2 := hb1
  have HB_4 : Hid (Below w.heap.size w x2) := Lib.hid (hq3)
  clear hq3
  clear hb1
  go_wp2_with fail
  go_ret
  exact ⟨by first | rfl | simp, HB_4.out⟩
set_option maxHeartbeats 4000000 in
set_option maxRecDepth 100000 in
theorem plsh_ok (v : Value) (D : List (List Nat)) (w : World) (h : Bl w v D) (hs : 1 ≤ D.length ∧ D.length ≤ 12) : Calls Try.prog 11 #[v] w (lawPost w) := by
  have HV := Lib.hid h
  have hm : D.length ≤ maxLen := by obtain ⟨_, _, _, hm, _⟩ := h; omega
  obtain ⟨A, c, rfl⟩ := h.form
  obtain ⟨n, hn⟩ : ∃ n, D.length = n := ⟨_, rfl⟩
  have N := Lib.hid hn
  have HD : Hid (∀ d ∈ D, B8 d) := Lib.hid h.ok
  have L1 : Hid ([zeroB.1].length + D.length ≤ 1000) := Lib.hid (by simp; omega)
  have L2 : Hid (([] : List (List Nat)).length + D.length ≤ 1000) := Lib.hid (by simp; omega)
  have L3 : Hid (([] ++ D : List (List Nat)).length + [zeroB.1].length ≤ 1000) := Lib.hid (by simp; omega)
  have HS : Hid (1 ≤ D.length ∧ D.length ≤ 12) := Lib.hid hs
  obtain ⟨p0, hp0⟩ : ∃ p, parB D 0 = p := ⟨_, rfl⟩
  obtain ⟨p1, hp1⟩ : ∃ p, parB D 1 = p := ⟨_, rfl⟩
  obtain ⟨p2, hp2⟩ : ∃ p, parB D 2 = p := ⟨_, rfl⟩
  obtain ⟨s1, hs1⟩ : ∃ s, sclB 2 p1 = s := ⟨_, rfl⟩
  obtain ⟨s2, hs2⟩ : ∃ s, sclB 4 p2 = s := ⟨_, rfl⟩
  have b0 : B8 p0 := hp0 ▸ parB_ok D 0
  have b1 : B8 p1 := hp1 ▸ parB_ok D 1
  have b2 : B8 p2 := hp2 ▸ parB_ok D 2
  have c1 : B8 s1 := hs1 ▸ sclB_ok (by decide) b1
  have c2 : B8 s2 := hs2 ▸ sclB_ok (by decide) b2
  have P1 : Hid (parL D = [p0, p1, p2]) := Lib.hid (by rw [← hp0, ← hp1, ← hp2]; rfl)
  have P2 : Hid (parL ([zeroB.1] ++ D) = [p0, s1, s2]) := Lib.hid (by rw [← hp0, ← hs1, ← hs2, ← hp1, ← hp2]; exact parL_shift D h.ok)
  have P3 : Hid (parL ([] ++ D ++ [zeroB.1]) = [p0, p1, p2]) := Lib.hid (by rw [← hp0, ← hp1, ← hp2]; exact parL_tail D)
  have S1 := Lib.hid hs1
  have S2 := Lib.hid hs2
  have E0 := fun w' => eql8 p0 p0 b0 b0 w'
  have E1 := fun w' => eql8 s1 s1 c1 c1 w'
  have E2 := fun w' => eql8 s2 s2 c2 c2 w'
  simp only [decide_true] at E0 E1 E2
  clear hp0 hp1 hp2 hs1 hs2
  rw [hn] at hm hs HV ⊢
  clear h hn
  have g1 : decide ((n : Int) < 1) = false := by simp; omega
  have g2 : decide ((12 : Int) < (n : Int)) = false := by simp; omega
  go_enter Try.func11, Try.ntmps11
  go_wp2_with fail
  refine (pawake_any _).mono ?_
  rintro e x2 ⟨rfl, hb1⟩
  have hq3 : Below w.heap.size w x2 := hb1
  have D_4 := Lib.hid (Bl.to HV.out hq3)
  have HB_5 : Hid (Below w.heap.size w x2) := Lib.hid (hq3)
  clear hq3
  clear hb1
  go_wp2_with fail
  refine (encode_b _ D _ _ D_4.out HS.out.1 (by have := HS.out; omega) P1.out).mono ?_
  rintro e x7 ⟨gp, rfl, -, hn8, hb6⟩
  have hq9 : Below x2.heap.size x2 x7 := hb6
  have D_10 := Lib.hid (Bl.to D_4.out hq9)
  have HB_11 : Hid (Below w.heap.size w x7) := Lib.hid (HB_5.out.trans (hq9.mono HB_5.out.size))
  clear hq9
  have P_12 := Lib.hid hn8
  clear hb6 hn8
  go_wp2_with (at_builtin; refine wpList_append_bl rfl (.tmp 26) (.tmp 27) rfl x7.heap.size (.slice (some ⟨x7.heap.size, 0, none⟩) 1 1) (.slice A n c) [zeroB.1] D rfl (own_lit (Nat.le_refl _) _ rfl) rfl (D_10.out.alloc _) L1.out (by simp) ?_; intro v1 y1 ho hg; have HO1 := Lib.hid ho; have HG1 := Lib.hid hg; clear ho hg)
  have hq13 : Below x7.heap.size x7 y1 := ((Below.refl x7.heap.size x7).alloc (Nat.le_refl _) _).grown HG1.out (by simp) (fun k e => by cases e; exact Nat.le_refl _)
  have D_14 := Lib.hid (Bl.to D_10.out hq13)
  have P_15 := Lib.hid (Bl.to P_12.out hq13)
  have HB_16 : Hid (Below w.heap.size w y1) := Lib.hid (HB_11.out.trans (hq13.mono HB_11.out.size))
  clear hq13
  refine (encode_b _ ([zeroB.1] ++ D) _ _ HO1.out.bl (by simp) (by have := HS.out; simp; omega) P2.out).mono ?_
  rintro e x18 ⟨gq, rfl, -, hn19, hb17⟩
  have hq20 : Below y1.heap.size y1 x18 := hb17
  have D_21 := Lib.hid (Bl.to D_14.out hq20)
  have P_22 := Lib.hid (Bl.to P_15.out hq20)
  have E_23 := Lib.hid (OwnB.to HO1.out hq20)
  have HB_24 : Hid (Below w.heap.size w x18) := Lib.hid (HB_16.out.trans (hq20.mono HB_16.out.size))
  clear hq20
  have Q_25 := Lib.hid hn19
  clear hb17 hn19
  go_wp2_with (first | (at_builtin; refine wpList_append_bl rfl (.tmp 33) (.tmp 34) rfl x18.heap.size (.slice (some ⟨x18.heap.size, 0, none⟩) 0 0) (.slice A n c) [] D rfl (OwnB.new (Nat.le_refl _)) rfl (D_21.out.alloc _) L2.out (by simp) ?_; intro v2 y2 ho hg; have HO2 := Lib.hid ho; have HK2 : Hid (Below x18.heap.size x18 y2) := Lib.hid (((Below.refl x18.heap.size x18).alloc (Nat.le_refl _) _).grown hg (by simp) (fun k e => by cases e; exact Nat.le_refl _)); clear ho hg) | (at_builtin; refine wpList_append_bl rfl (.tmp 35) (.tmp 37) rfl x18.heap.size v2 (.slice (some ⟨y2.heap.size, 0, none⟩) 1 1) ([] ++ D) [zeroB.1] rfl (HO2.out.to ((Below.refl y2.heap.size y2).alloc (Nat.le_refl _) _)) rfl (own_lit (base := y2.heap.size) (Nat.le_refl _) _ rfl).bl L3.out (HK2.out.alloc HK2.out.size _).size ?_; intro v3 y3 ho hg; have HO3 := Lib.hid ho; have HG3 := Lib.hid hg; clear ho hg))
  have hq26 : Below x18.heap.size x18 y3 := (HK2.out.alloc HK2.out.size _).grown HG3.out (HK2.out.alloc HK2.out.size _).size (fun k e => (HO2.out.lt k e).1)
  have D_27 := Lib.hid (Bl.to D_21.out hq26)
  have P_28 := Lib.hid (Bl.to P_22.out hq26)
  have E_29 := Lib.hid (OwnB.to E_23.out hq26)
  have Q_30 := Lib.hid (Bl.to Q_25.out hq26)
  have HB_31 : Hid (Below w.heap.size w y3) := Lib.hid (HB_24.out.trans (hq26.mono HB_24.out.size))
  clear hq26
  refine (encode_b _ ([] ++ D ++ [zeroB.1]) _ _ HO3.out.bl (by have := HS.out; simp) (by have := HS.out; simp; omega) P3.out).mono ?_
  rintro e x33 ⟨gr, rfl, -, hn34, hb32⟩
  have hq35 : Below y3.heap.size y3 x33 := hb32
  have D_36 := Lib.hid (Bl.to D_27.out hq35)
  have P_37 := Lib.hid (Bl.to P_28.out hq35)
  have E_38 := Lib.hid (OwnB.to E_29.out hq35)
  have Q_39 := Lib.hid (Bl.to Q_30.out hq35)
  have F_40 := Lib.hid (OwnB.to HO3.out hq35)
  have HB_41 : Hid (Below w.heap.size w x33) := Lib.hid (HB_31.out.trans (hq35.mono HB_31.out.size))
  clear hq35
  have R_42 := Lib.hid hn34
  clear hb32 hn34
  go_wp2_with fail
  refine wp_region_held (S := (fun w' : World => Bl w' (.slice (some ⟨gp, 0, none⟩) 3 3) [p0, p1, p2] ∧ Bl w' (.slice (some ⟨gq, 0, none⟩) 3 3) [p0, s1, s2])) rfl ?_
  change wpAnyH _ _ _ _ _ _ _ _ x33.drew
  have hz44 : Below x33.heap.size x33 x33.drew := (Below.refl x33.heap.size x33).drew
  generalize x33.drew = wz43 at hz44 ⊢
  have hq45 : Below x33.heap.size x33 wz43 := hz44
  have D_46 := Lib.hid (Bl.to D_36.out hq45)
  have P_47 := Lib.hid (Bl.to P_37.out hq45)
  have E_48 := Lib.hid (OwnB.to E_38.out hq45)
  have Q_49 := Lib.hid (Bl.to Q_39.out hq45)
  have F_50 := Lib.hid (OwnB.to F_40.out hq45)
  have R_51 := Lib.hid (Bl.to R_42.out hq45)
  have HB_52 : Hid (Below w.heap.size w wz43) := Lib.hid (HB_41.out.trans (hq45.mono HB_41.out.size))
  clear hq45
  clear hz44
  have hS53 : (fun w' : World => Bl w' (.slice (some ⟨gp, 0, none⟩) 3 3) [p0, p1, p2] ∧ Bl w' (.slice (some ⟨gq, 0, none⟩) 3 3) [p0, s1, s2]) wz43 := ⟨P_47.out, Q_49.out⟩
  refine takeD (i := 0) (v := .slice (some ⟨gq, 0, none⟩) 3 3) (some 62) rfl rfl (by kernel_rfl) (by kernel_rfl) (by kernel_rfl) (fun _ _ _ h => h) (Or.inl ⟨by rfl, by rintro w' -; go_simp⟩) hS53 ?_
  simp only [Act.put, List.setIfInBounds_toArray, List.set_cons_zero, List.set_cons_succ]
  refine takeD (i := 1) (v := .pointer (some ⟨gq, 0, none⟩)) (some 63) rfl rfl (by kernel_rfl) (by kernel_rfl) (by kernel_rfl) (fun _ _ _ h => h) (Or.inl ⟨by rfl, by rintro w' -; go_simp⟩) hS53 ?_
  simp only [Act.put, List.setIfInBounds_toArray, List.set_cons_zero, List.set_cons_succ]
  refine takeD (i := 2) (v := .agg (bcs p0)) (some 64) rfl rfl (by kernel_rfl) (by kernel_rfl) (by kernel_rfl) (fun _ _ _ h => h) (yieldsIf_load8 (by rfl) _ _ rfl _ _ rfl p0 _ (fun w' h => Bl.at8 h.2 (i := 0) (by simp)) Try.underlying44 rfl (size8 b0.1)) hS53 ?_
  simp only [Act.put, List.setIfInBounds_toArray, List.set_cons_zero, List.set_cons_succ]
  refine takeD (i := 3) (v := .slice (some ⟨gp, 0, none⟩) 3 3) (some 65) rfl rfl (by kernel_rfl) (by kernel_rfl) (by kernel_rfl) (fun _ _ _ h => h) (Or.inl ⟨by rfl, by rintro w' -; go_simp⟩) hS53 ?_
  simp only [Act.put, List.setIfInBounds_toArray, List.set_cons_zero, List.set_cons_succ]
  refine takeD (i := 4) (v := .pointer (some ⟨gp, 0, none⟩)) (some 66) rfl rfl (by kernel_rfl) (by kernel_rfl) (by kernel_rfl) (fun _ _ _ h => h) (Or.inl ⟨by rfl, by rintro w' -; go_simp⟩) hS53 ?_
  simp only [Act.put, List.setIfInBounds_toArray, List.set_cons_zero, List.set_cons_succ]
  refine takeD (i := 5) (v := .agg (bcs p0)) (some 67) rfl rfl (by kernel_rfl) (by kernel_rfl) (by kernel_rfl) (fun _ _ _ h => h) (yieldsIf_load8 (by rfl) _ _ rfl _ _ rfl p0 _ (fun w' h => Bl.at8 h.1 (i := 0) (by simp)) Try.underlying44 rfl (size8 b0.1)) hS53 ?_
  simp only [Act.put, List.setIfInBounds_toArray, List.set_cons_zero, List.set_cons_succ]
  refine takeD (i := 6) (v := .bool true) (some 68) rfl rfl (by kernel_rfl) (by kernel_rfl) (by kernel_rfl) (fun _ _ _ h => h) (Or.inl ⟨by rfl, by rintro w' -; go_simp⟩) hS53 ?_
  simp only [Act.put, List.setIfInBounds_toArray, List.set_cons_zero, List.set_cons_succ]
  refine takeD (i := 7) (v := .bool true) (some 69) rfl rfl (by kernel_rfl) (by kernel_rfl) (by kernel_rfl) (fun _ _ _ h => h) (Or.inl ⟨by rfl, by rintro w' -; go_simp⟩) hS53 ?_
  simp only [Act.put, List.setIfInBounds_toArray, List.set_cons_zero, List.set_cons_succ]
  refine takeD (i := 8) (v := .slice (some ⟨gq, 0, none⟩) 3 3) (some 70) rfl rfl (by kernel_rfl) (by kernel_rfl) (by kernel_rfl) (fun _ _ _ h => h) (Or.inl ⟨by rfl, by rintro w' -; go_simp⟩) hS53 ?_
  simp only [Act.put, List.setIfInBounds_toArray, List.set_cons_zero, List.set_cons_succ]
  refine takeD (i := 9) (v := .pointer (some ⟨gq, 8, none⟩)) (some 71) rfl rfl (by kernel_rfl) (by kernel_rfl) (by kernel_rfl) (fun _ _ _ h => h) (Or.inl ⟨by rfl, by rintro w' -; go_simp⟩) hS53 ?_
  simp only [Act.put, List.setIfInBounds_toArray, List.set_cons_zero, List.set_cons_succ]
  refine takeD (i := 10) (v := .agg (bcs s1)) (some 72) rfl rfl (by kernel_rfl) (by kernel_rfl) (by kernel_rfl) (fun _ _ _ h => h) (yieldsIf_load8 (by rfl) _ _ rfl _ _ rfl s1 _ (fun w' h => Bl.at8 h.2 (i := 1) (by simp)) Try.underlying44 rfl (size8 c1.1)) hS53 ?_
  simp only [Act.put, List.setIfInBounds_toArray, List.set_cons_zero, List.set_cons_succ]
  refine takeD (i := 11) (v := .slice (some ⟨gp, 0, none⟩) 3 3) (some 73) rfl rfl (by kernel_rfl) (by kernel_rfl) (by kernel_rfl) (fun _ _ _ h => h) (Or.inl ⟨by rfl, by rintro w' -; go_simp⟩) hS53 ?_
  simp only [Act.put, List.setIfInBounds_toArray, List.set_cons_zero, List.set_cons_succ]
  refine takeD (i := 12) (v := .pointer (some ⟨gp, 8, none⟩)) (some 74) rfl rfl (by kernel_rfl) (by kernel_rfl) (by kernel_rfl) (fun _ _ _ h => h) (Or.inl ⟨by rfl, by rintro w' -; go_simp⟩) hS53 ?_
  simp only [Act.put, List.setIfInBounds_toArray, List.set_cons_zero, List.set_cons_succ]
  refine takeD (i := 13) (v := .agg (bcs p1)) (some 75) rfl rfl (by kernel_rfl) (by kernel_rfl) (by kernel_rfl) (fun _ _ _ h => h) (yieldsIf_load8 (by rfl) _ _ rfl _ _ rfl p1 _ (fun w' h => Bl.at8 h.1 (i := 1) (by simp)) Try.underlying44 rfl (size8 b1.1)) hS53 ?_
  simp only [Act.put, List.setIfInBounds_toArray, List.set_cons_zero, List.set_cons_succ]
  refine wpAnyH_ready (rs := [14]) (by kernel_rfl) (by simp) ?_
  refine AllReadyH.cons rfl (fun K54 hK54 => ?_) AllReadyH.nil
  have HK54 := Lib.hid hK54
  clear hK54
  rw [if_pos (by rfl)]
  go_simp
  go_at_call 27
  refine (scl_b 2 p1 s1 _ (by decide) b1 S1.out).mono ?_
  rintro e x55 ⟨rfl, hb⟩
  have hq56 : Below wz43.heap.size wz43 x55 := hb
  have D_57 := Lib.hid (Bl.to D_46.out hq56)
  have P_58 := Lib.hid (Bl.to P_47.out hq56)
  have E_59 := Lib.hid (OwnB.to E_48.out hq56)
  have Q_60 := Lib.hid (Bl.to Q_49.out hq56)
  have F_61 := Lib.hid (OwnB.to F_50.out hq56)
  have R_62 := Lib.hid (Bl.to R_51.out hq56)
  have HB_63 : Hid (Below w.heap.size w x55) := Lib.hid (HB_52.out.trans (hq56.mono HB_52.out.size))
  clear hq56
  clear hb
  have hS64 : (fun w' : World => Bl w' (.slice (some ⟨gp, 0, none⟩) 3 3) [p0, p1, p2] ∧ Bl w' (.slice (some ⟨gq, 0, none⟩) 3 3) [p0, s1, s2]) x55 := ⟨P_58.out, Q_60.out⟩
  refine HK54.out _ _ hS64 fun _ => ?_
  try simp only [Act.put, List.setIfInBounds_toArray, List.set_cons_zero, List.set_cons_succ]
  refine takeD (i := 15) (v := .bool true) (some 77) rfl rfl (by kernel_rfl) (by kernel_rfl) (by kernel_rfl) (fun _ _ _ h => h) (Or.inl ⟨by rfl, by rintro w' -; go_simp⟩) hS64 ?_
  simp only [Act.put, List.setIfInBounds_toArray, List.set_cons_zero, List.set_cons_succ]
  refine takeD (i := 16) (v := .bool true) (some 78) rfl rfl (by kernel_rfl) (by kernel_rfl) (by kernel_rfl) (fun _ _ _ h => h) (Or.inl ⟨by rfl, by rintro w' -; go_simp⟩) hS64 ?_
  simp only [Act.put, List.setIfInBounds_toArray, List.set_cons_zero, List.set_cons_succ]
  refine takeD (i := 17) (v := .bool true) (some 79) rfl rfl (by kernel_rfl) (by kernel_rfl) (by kernel_rfl) (fun _ _ _ h => h) (Or.inl ⟨by rfl, by rintro w' -; go_simp⟩) hS64 ?_
  simp only [Act.put, List.setIfInBounds_toArray, List.set_cons_zero, List.set_cons_succ]
  refine takeD (i := 18) (v := .slice (some ⟨gq, 0, none⟩) 3 3) (some 80) rfl rfl (by kernel_rfl) (by kernel_rfl) (by kernel_rfl) (fun _ _ _ h => h) (Or.inl ⟨by rfl, by rintro w' -; go_simp⟩) hS64 ?_
  simp only [Act.put, List.setIfInBounds_toArray, List.set_cons_zero, List.set_cons_succ]
  refine takeD (i := 19) (v := .pointer (some ⟨gq, 16, none⟩)) (some 81) rfl rfl (by kernel_rfl) (by kernel_rfl) (by kernel_rfl) (fun _ _ _ h => h) (Or.inl ⟨by rfl, by rintro w' -; go_simp⟩) hS64 ?_
  simp only [Act.put, List.setIfInBounds_toArray, List.set_cons_zero, List.set_cons_succ]
  refine takeD (i := 20) (v := .agg (bcs s2)) (some 82) rfl rfl (by kernel_rfl) (by kernel_rfl) (by kernel_rfl) (fun _ _ _ h => h) (yieldsIf_load8 (by rfl) _ _ rfl _ _ rfl s2 _ (fun w' h => Bl.at8 h.2 (i := 2) (by simp)) Try.underlying44 rfl (size8 c2.1)) hS64 ?_
  simp only [Act.put, List.setIfInBounds_toArray, List.set_cons_zero, List.set_cons_succ]
  refine takeD (i := 21) (v := .slice (some ⟨gp, 0, none⟩) 3 3) (some 83) rfl rfl (by kernel_rfl) (by kernel_rfl) (by kernel_rfl) (fun _ _ _ h => h) (Or.inl ⟨by rfl, by rintro w' -; go_simp⟩) hS64 ?_
  simp only [Act.put, List.setIfInBounds_toArray, List.set_cons_zero, List.set_cons_succ]
  refine takeD (i := 22) (v := .pointer (some ⟨gp, 16, none⟩)) (some 84) rfl rfl (by kernel_rfl) (by kernel_rfl) (by kernel_rfl) (fun _ _ _ h => h) (Or.inl ⟨by rfl, by rintro w' -; go_simp⟩) hS64 ?_
  simp only [Act.put, List.setIfInBounds_toArray, List.set_cons_zero, List.set_cons_succ]
  refine takeD (i := 23) (v := .agg (bcs p2)) (some 85) rfl rfl (by kernel_rfl) (by kernel_rfl) (by kernel_rfl) (fun _ _ _ h => h) (yieldsIf_load8 (by rfl) _ _ rfl _ _ rfl p2 _ (fun w' h => Bl.at8 h.1 (i := 2) (by simp)) Try.underlying44 rfl (size8 b2.1)) hS64 ?_
  simp only [Act.put, List.setIfInBounds_toArray, List.set_cons_zero, List.set_cons_succ]
  refine wpAnyH_ready (rs := [24]) (by kernel_rfl) (by simp) ?_
  refine AllReadyH.cons rfl (fun K65 hK65 => ?_) AllReadyH.nil
  have HK65 := Lib.hid hK65
  clear hK65
  rw [if_pos (by rfl)]
  go_simp
  go_at_call 27
  refine (scl_b 4 p2 s2 _ (by decide) b2 S2.out).mono ?_
  rintro e x66 ⟨rfl, hb⟩
  have hq67 : Below x55.heap.size x55 x66 := hb
  have D_68 := Lib.hid (Bl.to D_57.out hq67)
  have P_69 := Lib.hid (Bl.to P_58.out hq67)
  have E_70 := Lib.hid (OwnB.to E_59.out hq67)
  have Q_71 := Lib.hid (Bl.to Q_60.out hq67)
  have F_72 := Lib.hid (OwnB.to F_61.out hq67)
  have R_73 := Lib.hid (Bl.to R_62.out hq67)
  have HB_74 : Hid (Below w.heap.size w x66) := Lib.hid (HB_63.out.trans (hq67.mono HB_63.out.size))
  clear hq67
  clear hb
  have hS75 : (fun w' : World => Bl w' (.slice (some ⟨gp, 0, none⟩) 3 3) [p0, p1, p2] ∧ Bl w' (.slice (some ⟨gq, 0, none⟩) 3 3) [p0, s1, s2]) x66 := ⟨P_69.out, Q_71.out⟩
  refine HK65.out _ _ hS75 fun _ => ?_
  try simp only [Act.put, List.setIfInBounds_toArray, List.set_cons_zero, List.set_cons_succ]
  refine takeD (i := 25) (v := .bool true) (some 87) rfl rfl (by kernel_rfl) (by kernel_rfl) (by kernel_rfl) (fun _ _ _ h => h) (Or.inl ⟨by rfl, by rintro w' -; go_simp⟩) hS75 ?_
  simp only [Act.put, List.setIfInBounds_toArray, List.set_cons_zero, List.set_cons_succ]
  refine takeD (i := 26) (v := .bool true) (some 88) rfl rfl (by kernel_rfl) (by kernel_rfl) (by kernel_rfl) (fun _ _ _ h => h) (Or.inl ⟨by rfl, by rintro w' -; go_simp⟩) hS75 ?_
  simp only [Act.put, List.setIfInBounds_toArray, List.set_cons_zero, List.set_cons_succ]
  refine takeD (i := 27) (v := .bool true) (some 89) rfl rfl (by kernel_rfl) (by kernel_rfl) (by kernel_rfl) (fun _ _ _ h => h) (Or.inl ⟨by rfl, by rintro w' -; go_simp⟩) hS75 ?_
  simp only [Act.put, List.setIfInBounds_toArray, List.set_cons_zero, List.set_cons_succ]
  refine takeD (i := 28) (v := .slice (some ⟨gr, 0, none⟩) 3 3) (some 90) rfl rfl (by kernel_rfl) (by kernel_rfl) (by kernel_rfl) (fun _ _ _ h => h) (Or.inl ⟨by rfl, by rintro w' -; go_simp⟩) hS75 ?_
  simp only [Act.put, List.setIfInBounds_toArray, List.set_cons_zero, List.set_cons_succ]
  refine takeD (i := 29) (v := .slice (some ⟨gp, 0, none⟩) 3 3) (some 91) rfl rfl (by kernel_rfl) (by kernel_rfl) (by kernel_rfl) (fun _ _ _ h => h) (Or.inl ⟨by rfl, by rintro w' -; go_simp⟩) hS75 ?_
  simp only [Act.put, List.setIfInBounds_toArray, List.set_cons_zero, List.set_cons_succ]
  refine wpAnyH_ready (rs := [30]) (by kernel_rfl) (by simp) ?_
  refine AllReadyH.cons rfl (fun K76 hK76 => ?_) AllReadyH.nil
  have HK76 := Lib.hid hK76
  clear hK76
  rw [if_pos (by rfl)]
  go_simp
  go_at_call 21
  refine (same_b _ _ [p0, p1, p2] [p0, p1, p2] true _ R_73.out P_69.out (by simp)).mono ?_
  rintro e x77 ⟨rfl, hb⟩
  have hq78 : Below x66.heap.size x66 x77 := hb
  have D_79 := Lib.hid (Bl.to D_68.out hq78)
  have P_80 := Lib.hid (Bl.to P_69.out hq78)
  have E_81 := Lib.hid (OwnB.to E_70.out hq78)
  have Q_82 := Lib.hid (Bl.to Q_71.out hq78)
  have F_83 := Lib.hid (OwnB.to F_72.out hq78)
  have R_84 := Lib.hid (Bl.to R_73.out hq78)
  have HB_85 : Hid (Below w.heap.size w x77) := Lib.hid (HB_74.out.trans (hq78.mono HB_74.out.size))
  clear hq78
  clear hb
  have hS86 : (fun w' : World => Bl w' (.slice (some ⟨gp, 0, none⟩) 3 3) [p0, p1, p2] ∧ Bl w' (.slice (some ⟨gq, 0, none⟩) 3 3) [p0, s1, s2]) x77 := ⟨P_80.out, Q_82.out⟩
  refine HK76.out _ _ hS86 fun _ => ?_
  try simp only [Act.put, List.setIfInBounds_toArray, List.set_cons_zero, List.set_cons_succ]
  refine takeD (i := 31) (v := .bool true) (some 93) rfl rfl (by kernel_rfl) (by kernel_rfl) (by kernel_rfl) (fun _ _ _ h => h) (Or.inl ⟨by rfl, by rintro w' -; go_simp⟩) hS86 ?_
  simp only [Act.put, List.setIfInBounds_toArray, List.set_cons_zero, List.set_cons_succ]
  refine wpAnyH_ready (rs := [32]) (by kernel_rfl) (by simp) ?_
  refine AllReadyH.cons rfl (fun K87 hK87 => ?_) AllReadyH.nil
  have HK87 := Lib.hid hK87
  clear hK87
  rw [if_pos (by rfl)]
  go_simp
  refine HK87.out _ _ hS86 fun _ => ?_
  refine wpAnyH_done (by kernel_rfl) ?_ _
  go_wp2_with fail
  go_ret
  exact ⟨by first | rfl | simp, HB_85.out⟩
theorem plsh_walk (v : Value) (D : List (List Nat)) (w : World) (h : Bl w v D) : Calls Try.prog 11 #[v] w (lawPost w) := by
  by_cases h1 : D.length < 1
  · exact plsh_lo v D w h h1
  · by_cases h2 : 12 < D.length
    · exact plsh_hi v D w h ⟨h1, h2⟩
    · exact plsh_ok v D w h ⟨by omega, by omega⟩
end Go.Proofs.Ytfhgalfdlkdliaa
