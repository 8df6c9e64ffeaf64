/- The walks of the laws ParityEncodes, ParityChecks. WRITTEN BY gen_Qa.py. -/
import Derived.Test.YtfhgalfdlkdliaaPl
import Derived.Test.YtfhgalfdlkdliaaOpen
namespace Go.Proofs.Ytfhgalfdlkdliaa
open Go Go.RowKit
set_option linter.unusedVariables false

set_option maxHeartbeats 4000000 in
set_option maxRecDepth 100000 in
theorem plchecks_long (v : Value) (D : List (List Nat)) (w : World) (h : Bl w v D) (hs : 40 < D.length) : Calls Try.prog 8 #[v] w (lawPost w) := by
  have HV := Lib.hid h
  have hm : D.length ≤ maxLen := by obtain ⟨_, _, _, hm, _⟩ := h; omega
  obtain ⟨A, c, rfl⟩ := h.form
  obtain ⟨n, hn⟩ : ∃ n, D.length = n := ⟨_, rfl⟩
  have N := Lib.hid hn
  rw [hn] at hm hs HV ⊢
  clear h hn
  have g : decide ((40 : Int) < (n : Int)) = true := by simp; omega
  go_enter Try.func8, Try.ntmps8
  go_wp2_with fail
  refine (pawake_any _).mono ?_
  rintro e x2 ⟨rfl, hb1⟩
  have hq3 : Below w.heap.size w x2 := hb1
  have HB_4 : Hid (Below w.heap.size w x2) := Lib.hid (hq3)
  clear hq3
  clear hb1
  go_wp2_with fail
  go_ret
  exact ⟨by first | rfl | simp, HB_4.out⟩
set_option maxHeartbeats 4000000 in
set_option maxRecDepth 100000 in
theorem plenc_long (v : Value) (D : List (List Nat)) (w : World) (h : Bl w v D) (hs : 40 < D.length) : Calls Try.prog 5 #[v] w (lawPost w) := by
  have HV := Lib.hid h
  have hm : D.length ≤ maxLen := by obtain ⟨_, _, _, hm, _⟩ := h; omega
  obtain ⟨A, c, rfl⟩ := h.form
  obtain ⟨n, hn⟩ : ∃ n, D.length = n := ⟨_, rfl⟩
  have N := Lib.hid hn
  rw [hn] at hm hs HV ⊢
  clear h hn
  have g : decide ((40 : Int) < (n : Int)) = true := by simp; omega
  go_enter Try.func5, Try.ntmps5
  go_wp2_with fail
  refine (pawake_any _).mono ?_
  rintro e x2 ⟨rfl, hb1⟩
  have hq3 : Below w.heap.size w x2 := hb1
  have HB_4 : Hid (Below w.heap.size w x2) := Lib.hid (hq3)
  clear hq3
  clear hb1
  go_wp2_with fail
  go_ret
  exact ⟨by first | rfl | simp, HB_4.out⟩
set_option maxHeartbeats 4000000 in
set_option maxRecDepth 100000 in
theorem plchecks_ok (v : Value) (D : List (List Nat)) (w : World) (h : Bl w v D) (hs : D.length ≤ 40) : Calls Try.prog 8 #[v] w (lawPost w) := by
  have HV := Lib.hid h
  have hm : D.length ≤ maxLen := by obtain ⟨_, _, _, hm, _⟩ := h; omega
  obtain ⟨A, c, rfl⟩ := h.form
  obtain ⟨n, hn⟩ : ∃ n, D.length = n := ⟨_, rfl⟩
  have N := Lib.hid hn
  rw [hn] at hm hs HV ⊢
  clear h hn
  have g : decide ((40 : Int) < (n : Int)) = false := by simp; omega
  obtain ⟨t, ht⟩ : ∃ t, chk D = t := ⟨_, rfl⟩
  have T := Lib.hid ht
  clear ht
  go_enter Try.func8, Try.ntmps8
  go_wp2_with fail
  refine (pawake_any _).mono ?_
  rintro e x2 ⟨rfl, hb1⟩
  have hq3 : Below w.heap.size w x2 := hb1
  have D_4 := Lib.hid (Bl.to HV.out hq3)
  have HB_5 : Hid (Below w.heap.size w x2) := Lib.hid (hq3)
  clear hq3
  clear hb1
  go_wp2_with fail
  refine (check_b _ D t _ D_4.out T.out).mono ?_
  rintro e x7 ⟨rfl, hb6⟩
  have hq8 : Below x2.heap.size x2 x7 := hb6
  have D_9 := Lib.hid (Bl.to D_4.out hq8)
  have HB_10 : Hid (Below w.heap.size w x7) := Lib.hid (HB_5.out.trans (hq8.mono HB_5.out.size))
  clear hq8
  clear hb6
  go_wp2_with fail
  refine (rcheck_b _ D t _ D_9.out T.out).mono ?_
  rintro e x12 ⟨rfl, hb11⟩
  have hq13 : Below x7.heap.size x7 x12 := hb11
  have D_14 := Lib.hid (Bl.to D_9.out hq13)
  have HB_15 : Hid (Below w.heap.size w x12) := Lib.hid (HB_10.out.trans (hq13.mono HB_10.out.size))
  clear hq13
  clear hb11
  go_wp2_with fail
  go_ret
  exact ⟨by first | rfl | simp, HB_15.out⟩
set_option maxHeartbeats 4000000 in
set_option maxRecDepth 100000 in
theorem plenc_ok (v : Value) (D : List (List Nat)) (w : World) (h : Bl w v D) (hs : 1 ≤ D.length ∧ D.length ≤ 13) : Calls Try.prog 5 #[v] w (lawPost w) := by
  have HV := Lib.hid h
  have hm : D.length ≤ maxLen := by obtain ⟨_, _, _, hm, _⟩ := h; omega
  obtain ⟨A, c, rfl⟩ := h.form
  obtain ⟨n, hn⟩ : ∃ n, D.length = n := ⟨_, rfl⟩
  have N := Lib.hid hn
  have L1 : Hid (([] : List (List Nat)).length + D.length ≤ 1000) := Lib.hid (by simp; omega)
  obtain ⟨P, hP⟩ : ∃ P, parL D = P := ⟨_, rfl⟩
  have PP := Lib.hid hP
  clear hP
  have HS : Hid (1 ≤ D.length ∧ D.length ≤ 13) := Lib.hid hs
  rw [hn] at hm hs HV ⊢
  clear h hn
  have g : decide ((40 : Int) < (n : Int)) = false := by simp; omega
  have g1 : decide ((n : Int) < 1) = false := by simp; omega
  have g2 : decide ((13 : Int) < (n : Int)) = false := by simp; omega
  go_enter Try.func5, Try.ntmps5
  go_wp2_with fail
  refine (pawake_any _).mono ?_
  rintro e x2 ⟨rfl, hb1⟩
  have hq3 : Below w.heap.size w x2 := hb1
  have D_4 := Lib.hid (Bl.to HV.out hq3)
  have HB_5 : Hid (Below w.heap.size w x2) := Lib.hid (hq3)
  clear hq3
  clear hb1
  go_wp2_with (at_builtin; refine wpList_append_bl rfl (.tmp 11) (.tmp 12) rfl x2.heap.size (.slice (some ⟨x2.heap.size, 0, none⟩) 0 0) (.slice A n c) [] D rfl (OwnB.new (Nat.le_refl _)) rfl (D_4.out.alloc _) L1.out (by simp) ?_; intro v6 x7 ho hg; have HO8 := Lib.hid ho; have HG9 := Lib.hid hg; clear ho hg)
  have hq10 : Below x2.heap.size x2 x7 := ((Below.refl x2.heap.size x2).alloc (Nat.le_refl _) _).grown HG9.out (by simp) (fun k e => by cases e; exact Nat.le_refl _)
  have D_11 := Lib.hid (Bl.to D_4.out hq10)
  have HB_12 : Hid (Below w.heap.size w x7) := Lib.hid (HB_5.out.trans (hq10.mono HB_5.out.size))
  clear hq10
  go_wp2_with fail
  refine (encode_b _ D P _ HO8.out.bl HS.out.1 HS.out.2 PP.out).mono ?_
  rintro e x14 ⟨g1', rfl, -, hn15, hb13⟩
  have hq16 : Below x7.heap.size x7 x14 := hb13
  have D_17 := Lib.hid (Bl.to D_11.out hq16)
  have E_18 := Lib.hid (OwnB.to HO8.out hq16)
  have HB_19 : Hid (Below w.heap.size w x14) := Lib.hid (HB_12.out.trans (hq16.mono HB_12.out.size))
  clear hq16
  have P_20 := Lib.hid hn15
  clear hb13 hn15
  go_wp2_with fail
  refine (same_b _ _ D D true _ E_18.out.bl D_17.out (by simp)).mono ?_
  rintro e x22 ⟨rfl, hb21⟩
  have hq23 : Below x14.heap.size x14 x22 := hb21
  have D_24 := Lib.hid (Bl.to D_17.out hq23)
  have E_25 := Lib.hid (OwnB.to E_18.out hq23)
  have P_26 := Lib.hid (Bl.to P_20.out hq23)
  have HB_27 : Hid (Below w.heap.size w x22) := Lib.hid (HB_19.out.trans (hq23.mono HB_19.out.size))
  clear hq23
  clear hb21
  go_wp2_with fail
  refine (rparity_any _ D _ D_24.out (by have := HS.out; omega)).mono ?_
  rintro e x29 ⟨rfl, hn30, hb28⟩
  have hq31 : Below x22.heap.size x22 x29 := hb28
  have D_32 := Lib.hid (Bl.to D_24.out hq31)
  have E_33 := Lib.hid (OwnB.to E_25.out hq31)
  have P_34 := Lib.hid (Bl.to P_26.out hq31)
  have HB_35 : Hid (Below w.heap.size w x29) := Lib.hid (HB_27.out.trans (hq31.mono HB_27.out.size))
  clear hq31
  have R_36 := Lib.hid hn30
  clear hb28 hn30
  go_wp2_with fail
  have RR := Lib.hid (Bl.par R_36.out)
  rw [PP.out] at RR
  refine (same_b _ _ P P true _ P_34.out RR.out (by simp)).mono ?_
  rintro e x38 ⟨rfl, hb37⟩
  have hq39 : Below x29.heap.size x29 x38 := hb37
  have D_40 := Lib.hid (Bl.to D_32.out hq39)
  have E_41 := Lib.hid (OwnB.to E_33.out hq39)
  have P_42 := Lib.hid (Bl.to P_34.out hq39)
  have R_43 := Lib.hid (Bl.to RR.out hq39)
  have HB_44 : Hid (Below w.heap.size w x38) := Lib.hid (HB_35.out.trans (hq39.mono HB_35.out.size))
  clear hq39
  clear hb37
  go_wp2_with fail
  go_ret
  exact ⟨by first | rfl | simp, HB_44.out⟩
set_option maxHeartbeats 4000000 in
set_option maxRecDepth 100000 in
theorem plenc_lo (v : Value) (D : List (List Nat)) (w : World) (h : Bl w v D) (hs : D.length ≤ 40 ∧ (D.length < 1 ∨ 13 < D.length)) (h1 : D.length < 1) : Calls Try.prog 5 #[v] w (lawPost w) := by
  have HV := Lib.hid h
  have hm : D.length ≤ maxLen := by obtain ⟨_, _, _, hm, _⟩ := h; omega
  obtain ⟨A, c, rfl⟩ := h.form
  obtain ⟨n, hn⟩ : ∃ n, D.length = n := ⟨_, rfl⟩
  have N := Lib.hid hn
  have L1 : Hid (([] : List (List Nat)).length + D.length ≤ 1000) := Lib.hid (by simp; omega)
  have HS : Hid (D.length ≤ 40 ∧ (D.length < 1 ∨ 13 < D.length)) := Lib.hid hs
  rw [hn] at hm hs h1 HV ⊢
  clear h hn
  have g1 : decide ((n : Int) < 1) = true := by simp; omega
  have g : decide ((40 : Int) < (n : Int)) = false := by simp; omega
  go_enter Try.func5, Try.ntmps5
  go_wp2_with fail
  refine (pawake_any _).mono ?_
  rintro e x2 ⟨rfl, hb1⟩
  have hq3 : Below w.heap.size w x2 := hb1
  have D_4 := Lib.hid (Bl.to HV.out hq3)
  have HB_5 : Hid (Below w.heap.size w x2) := Lib.hid (hq3)
  clear hq3
  clear hb1
  go_wp2_with (at_builtin; refine wpList_append_bl rfl (.tmp 11) (.tmp 12) rfl x2.heap.size (.slice (some ⟨x2.heap.size, 0, none⟩) 0 0) (.slice A n c) [] D rfl (OwnB.new (Nat.le_refl _)) rfl (D_4.out.alloc _) L1.out (by simp) ?_; intro v6 x7 ho hg; have HO8 := Lib.hid ho; have HG9 := Lib.hid hg; clear ho hg)
  have hq10 : Below x2.heap.size x2 x7 := ((Below.refl x2.heap.size x2).alloc (Nat.le_refl _) _).grown HG9.out (by simp) (fun k e => by cases e; exact Nat.le_refl _)
  have D_11 := Lib.hid (Bl.to D_4.out hq10)
  have HB_12 : Hid (Below w.heap.size w x7) := Lib.hid (HB_5.out.trans (hq10.mono HB_5.out.size))
  clear hq10
  go_wp2_with fail
  refine (encode_err _ D _ HO8.out.bl HS.out.2).mono ?_
  rintro e w' ⟨rfl, rfl⟩
  go_wp2_with fail
  refine (same_b _ _ D D true _ HO8.out.bl D_11.out (by simp)).mono ?_
  rintro e x14 ⟨rfl, hb13⟩
  have hq15 : Below x7.heap.size x7 x14 := hb13
  have D_16 := Lib.hid (Bl.to D_11.out hq15)
  have E_17 := Lib.hid (OwnB.to HO8.out hq15)
  have HB_18 : Hid (Below w.heap.size w x14) := Lib.hid (HB_12.out.trans (hq15.mono HB_12.out.size))
  clear hq15
  clear hb13
  go_wp2_with fail
  go_ret
  exact ⟨by first | rfl | simp, HB_18.out⟩
set_option maxHeartbeats 4000000 in
set_option maxRecDepth 100000 in
theorem plenc_hi (v : Value) (D : List (List Nat)) (w : World) (h : Bl w v D) (hs : D.length ≤ 40 ∧ (D.length < 1 ∨ 13 < D.length)) (h1 : ¬ D.length < 1) : Calls Try.prog 5 #[v] w (lawPost w) := by
  have HV := Lib.hid h
  have hm : D.length ≤ maxLen := by obtain ⟨_, _, _, hm, _⟩ := h; omega
  obtain ⟨A, c, rfl⟩ := h.form
  obtain ⟨n, hn⟩ : ∃ n, D.length = n := ⟨_, rfl⟩
  have N := Lib.hid hn
  have L1 : Hid (([] : List (List Nat)).length + D.length ≤ 1000) := Lib.hid (by simp; omega)
  have HS : Hid (D.length ≤ 40 ∧ (D.length < 1 ∨ 13 < D.length)) := Lib.hid hs
  rw [hn] at hm hs h1 HV ⊢
  clear h hn
  have g1 : decide ((n : Int) < 1) = false := by simp; omega
  have g2 : decide ((13 : Int) < (n : Int)) = true := by simp; omega
  have g : decide ((40 : Int) < (n : Int)) = false := by simp; omega
  go_enter Try.func5, Try.ntmps5
  go_wp2_with fail
  refine (pawake_any _).mono ?_
  rintro e x2 ⟨rfl, hb1⟩
  have hq3 : Below w.heap.size w x2 := hb1
  have D_4 := Lib.hid (Bl.to HV.out hq3)
  have HB_5 : Hid (Below w.heap.size w x2) := Lib.hid (hq3)
  clear hq3
  clear hb1
  go_wp2_with (at_builtin; refine wpList_append_bl rfl (.tmp 11) (.tmp 12) rfl x2.heap.size (.slice (some ⟨x2.heap.size, 0, none⟩) 0 0) (.slice A n c) [] D rfl (OwnB.new (Nat.le_refl _)) rfl (D_4.out.alloc _) L1.out (by simp) ?_; intro v6 x7 ho hg; have HO8 := Lib.hid ho; have HG9 := Lib.hid hg; clear ho hg)
  have hq10 : Below x2.heap.size x2 x7 := ((Below.refl x2.heap.size x2).alloc (Nat.le_refl _) _).grown HG9.out (by simp) (fun k e => by cases e; exact Nat.le_refl _)
  have D_11 := Lib.hid (Bl.to D_4.out hq10)
  have HB_12 : Hid (Below w.heap.size w x7) := Lib.hid (HB_5.out.trans (hq10.mono HB_5.out.size))
  clear hq10
  go_wp2_with fail
  refine (encode_err _ D _ HO8.out.bl HS.out.2).mono ?_
  rintro e w' ⟨rfl, rfl⟩
  go_wp2_with fail
  refine (same_b _ _ D D true _ HO8.out.bl D_11.out (by simp)).mono ?_
  rintro e x14 ⟨rfl, hb13⟩
  have hq15 : Below x7.heap.size x7 x14 := hb13
  have D_16 := Lib.hid (Bl.to D_11.out hq15)
  have E_17 := Lib.hid (OwnB.to HO8.out hq15)
  have HB_18 : Hid (Below w.heap.size w x14) := Lib.hid (HB_12.out.trans (hq15.mono HB_12.out.size))
  clear hq15
  clear hb13
  go_wp2_with fail
  go_ret
  exact ⟨by first | rfl | simp, HB_18.out⟩
theorem plchecks_walk (v : Value) (D : List (List Nat)) (w : World) (h : Bl w v D) : Calls Try.prog 8 #[v] w (lawPost w) := by
  by_cases hs : 40 < D.length
  · exact plchecks_long v D w h hs
  · exact plchecks_ok v D w h (by omega)
theorem plenc_walk (v : Value) (D : List (List Nat)) (w : World) (h : Bl w v D) : Calls Try.prog 5 #[v] w (lawPost w) := by
  by_cases hs : 40 < D.length
  · exact plenc_long v D w h hs
  · by_cases h1 : D.length < 1
    · exact plenc_lo v D w h ⟨by omega, Or.inl h1⟩ h1
    · by_cases h2 : 13 < D.length
      · exact plenc_hi v D w h ⟨by omega, Or.inr h2⟩ h1
      · exact plenc_ok v D w h ⟨by omega, by omega⟩
end Go.Proofs.Ytfhgalfdlkdliaa
