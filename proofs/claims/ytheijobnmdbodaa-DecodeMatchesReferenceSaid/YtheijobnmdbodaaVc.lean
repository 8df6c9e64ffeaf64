/- The walk of the law DecodeMatchesReference. WRITTEN BY gen_Vc.py. -/
import Derived.Test.YtheijobnmdbodaaDo
import Derived.Test.YtheijobnmdbodaaDh
import Derived.Test.YtheijobnmdbodaaGJ
namespace Go.Proofs.Ytheijobnmdbodaa
open Go Go.RowKit Lin
set_option linter.unusedVariables false
set_option linter.unusedSimpArgs false

set_option maxHeartbeats 4000000 in
set_option maxRecDepth 100000 in
theorem ml_long (v vb : Value) (P : List (List Nat)) (bad : List Bool) (w : World) (h : Bl w v P) (hb : Bos w vb bad) (hs : 20 < P.length ∨ 20 < bad.length) : Calls Try.prog 6 #[v, vb] w (lawPost w) := by
  have HP := Lib.hid h
  have HBd := Lib.hid hb
  have hm : P.length ≤ maxLen := by obtain ⟨_, _, _, hm, _⟩ := h; omega
  have hm2 := hb.len
  obtain ⟨A, c, rfl⟩ := h.form
  obtain ⟨A2, c2, rfl⟩ := hb.form
  obtain ⟨N, hN⟩ : ∃ N, P.length = N := ⟨_, rfl⟩
  obtain ⟨L, hL⟩ : ∃ L, bad.length = L := ⟨_, rfl⟩
  have NN := Lib.hid hN
  have LL := Lib.hid hL
  rw [hN] at hm HP hs ⊢
  rw [hL] at hm2 HBd hs ⊢
  have hmI : (N : Int) ≤ 9223372036854775807 := by unfold maxLen at hm; omega
  have hmI2 : (L : Int) ≤ 9223372036854775807 := by unfold maxLen at hm2; omega
  clear h hb hN hL hm hm2
  have hcase : decide ((20 : Int) < (N : Int)) = true ∨ (decide ((20 : Int) < (N : Int)) = false ∧ decide ((20 : Int) < (L : Int)) = true) := by
    by_cases h : 20 < N
    · exact Or.inl (by simp; omega)
    · exact Or.inr ⟨by simp; omega, by simp; omega⟩
  clear hs
  rcases hcase with g0 | ⟨g0, g1⟩
  all_goals
    go_enter Try.func6, Try.ntmps6
    go_wp2_with fail
    refine (dawake_any _).mono ?_
    rintro e x2 ⟨rfl, hb1⟩
    have hq3 : Below w.heap.size w x2 := hb1
    have HB_4 : Hid (Below w.heap.size w x2) := Lib.hid (hq3)
    clear hq3
    clear hb1
    go_wp2_with fail
    go_ret
    exact ⟨by first | rfl | simp, HB_4.out⟩
set_option maxHeartbeats 4000000 in
set_option maxRecDepth 100000 in
theorem ml_width (v vb : Value) (P : List (List Nat)) (bad : List Bool) (w : World) (h : Bl w v P) (hb : Bos w vb bad) (hs : P.length ≤ 20 ∧ bad.length ≤ 20) (hc : P.length < 4 ∨ 16 < P.length) : Calls Try.prog 6 #[v, vb] w (lawPost w) := by
  have DC : Hid (∀ w v vb, Bl w v P → Bos w vb bad → Calls Try.prog 20 #[v, vb] w (decErr 1 w)) := Lib.hid fun w v vb h hb => dec_width v vb P bad w h hb hc
  have RC : Hid (∀ w v vb, Bl w v P → Bos w vb bad → Calls Try.prog 22 #[v, vb] w (decErr 1 w)) := Lib.hid fun w v vb h hb => rdec_arg v vb P bad w h hb (by omega)
  clear hc
  have HP := Lib.hid h
  have HBd := Lib.hid hb
  have hm : P.length ≤ maxLen := by obtain ⟨_, _, _, hm, _⟩ := h; omega
  have hm2 := hb.len
  obtain ⟨A, c, rfl⟩ := h.form
  obtain ⟨A2, c2, rfl⟩ := hb.form
  obtain ⟨N, hN⟩ : ∃ N, P.length = N := ⟨_, rfl⟩
  obtain ⟨L, hL⟩ : ∃ L, bad.length = L := ⟨_, rfl⟩
  have NN := Lib.hid hN
  have LL := Lib.hid hL
  rw [hN] at hm HP hs ⊢
  rw [hL] at hm2 HBd hs ⊢
  have hmI : (N : Int) ≤ 9223372036854775807 := by unfold maxLen at hm; omega
  have hmI2 : (L : Int) ≤ 9223372036854775807 := by unfold maxLen at hm2; omega
  clear h hb hN hL hm hm2
  have g0 : decide ((20 : Int) < (N : Int)) = false := by simp; omega
  have g1 : decide ((20 : Int) < (L : Int)) = false := by simp; omega
  have L1 : Hid (([] : List (List Nat)).length + P.length ≤ 1000) := Lib.hid (by simp; have := NN.out; omega)
  clear hs
  go_enter Try.func6, Try.ntmps6
  go_wp2_with fail
  refine (dawake_any _).mono ?_
  rintro e x2 ⟨rfl, hb1⟩
  have hq3 : Below w.heap.size w x2 := hb1
  have P_4 := Lib.hid (Bl.to HP.out hq3)
  have Y_5 := Lib.hid (Bos.to HBd.out hq3)
  have HB_6 : Hid (Below w.heap.size w x2) := Lib.hid (hq3)
  clear hq3
  clear hb1
  go_wp2_with (at_builtin; refine wpList_append_bl rfl (.tmp 20) (.tmp 21) rfl x2.heap.size (.slice (some ⟨x2.heap.size, 0, none⟩) 0 0) (.slice A N c) [] P rfl (OwnB.new (Nat.le_refl _)) rfl (P_4.out.alloc _) L1.out (by simp) ?_; intro v7 x8 ho hg; have HO9 := Lib.hid ho; have HG10 := Lib.hid hg; clear ho hg)
  have hq11 : Below x2.heap.size x2 x8 := ((Below.refl x2.heap.size x2).alloc (Nat.le_refl _) _).grown HG10.out (by simp) (fun k e => by cases e; exact Nat.le_refl _)
  have P_12 := Lib.hid (Bl.to P_4.out hq11)
  have Y_13 := Lib.hid (Bos.to Y_5.out hq11)
  have HB_14 : Hid (Below w.heap.size w x8) := Lib.hid (HB_6.out.trans (hq11.mono HB_6.out.size))
  clear hq11
  have OB := HO9.out.bl
  rw [List.nil_append] at OB
  have OBH := Lib.hid OB
  clear OB
  go_wp2_with fail
  refine (DC.out _ _ _ OBH.out Y_13.out).mono ?_
  rintro e x16 ⟨rfl, hb15⟩
  have hq17 : Below x8.heap.size x8 x16 := hb15
  have P_18 := Lib.hid (Bl.to P_12.out hq17)
  have Y_19 := Lib.hid (Bos.to Y_13.out hq17)
  have O_20 := Lib.hid (Bl.to OBH.out hq17)
  have HB_21 : Hid (Below w.heap.size w x16) := Lib.hid (HB_14.out.trans (hq17.mono HB_14.out.size))
  clear hq17
  clear hb15
  go_wp2_with fail
  refine (same_b _ _ P P true _ O_20.out P_18.out (by simp)).mono ?_
  rintro e x23 ⟨rfl, hb22⟩
  have hq24 : Below x16.heap.size x16 x23 := hb22
  have P_25 := Lib.hid (Bl.to P_18.out hq24)
  have Y_26 := Lib.hid (Bos.to Y_19.out hq24)
  have O_27 := Lib.hid (Bl.to O_20.out hq24)
  have HB_28 : Hid (Below w.heap.size w x23) := Lib.hid (HB_21.out.trans (hq24.mono HB_21.out.size))
  clear hq24
  clear hb22
  go_wp2_with fail
  refine (RC.out _ _ _ P_25.out Y_26.out).mono ?_
  rintro e x30 ⟨rfl, hb29⟩
  have hq31 : Below x23.heap.size x23 x30 := hb29
  have P_32 := Lib.hid (Bl.to P_25.out hq31)
  have Y_33 := Lib.hid (Bos.to Y_26.out hq31)
  have O_34 := Lib.hid (Bl.to O_27.out hq31)
  have HB_35 : Hid (Below w.heap.size w x30) := Lib.hid (HB_28.out.trans (hq31.mono HB_28.out.size))
  clear hq31
  clear hb29
  go_wp2_with fail
  refine (same_b _ _ [] [] true _ (Bl.nil_ _) (Bl.nil_ _) (by decide)).mono ?_
  rintro e x37 ⟨rfl, hb36⟩
  have hq38 : Below x30.heap.size x30 x37 := hb36
  have P_39 := Lib.hid (Bl.to P_32.out hq38)
  have Y_40 := Lib.hid (Bos.to Y_33.out hq38)
  have O_41 := Lib.hid (Bl.to O_34.out hq38)
  have HB_42 : Hid (Below w.heap.size w x37) := Lib.hid (HB_35.out.trans (hq38.mono HB_35.out.size))
  clear hq38
  clear hb36
  go_wp2_with fail
  go_ret
  exact ⟨by first | rfl | simp, HB_42.out⟩
set_option maxHeartbeats 4000000 in
set_option maxRecDepth 100000 in
theorem ml_len (v vb : Value) (P : List (List Nat)) (bad : List Bool) (w : World) (h : Bl w v P) (hb : Bos w vb bad) (hs : P.length ≤ 20 ∧ bad.length ≤ 20) (hc : 4 ≤ P.length ∧ P.length ≤ 16 ∧ bad.length ≠ P.length) : Calls Try.prog 6 #[v, vb] w (lawPost w) := by
  have DC : Hid (∀ w v vb, Bl w v P → Bos w vb bad → Calls Try.prog 20 #[v, vb] w (decErr 1 w)) := Lib.hid fun w v vb h hb => dec_len v vb P bad w h hb hc
  have RC : Hid (∀ w v vb, Bl w v P → Bos w vb bad → Calls Try.prog 22 #[v, vb] w (decErr 1 w)) := Lib.hid fun w v vb h hb => rdec_arg v vb P bad w h hb (by omega)
  clear hc
  have HP := Lib.hid h
  have HBd := Lib.hid hb
  have hm : P.length ≤ maxLen := by obtain ⟨_, _, _, hm, _⟩ := h; omega
  have hm2 := hb.len
  obtain ⟨A, c, rfl⟩ := h.form
  obtain ⟨A2, c2, rfl⟩ := hb.form
  obtain ⟨N, hN⟩ : ∃ N, P.length = N := ⟨_, rfl⟩
  obtain ⟨L, hL⟩ : ∃ L, bad.length = L := ⟨_, rfl⟩
  have NN := Lib.hid hN
  have LL := Lib.hid hL
  rw [hN] at hm HP hs ⊢
  rw [hL] at hm2 HBd hs ⊢
  have hmI : (N : Int) ≤ 9223372036854775807 := by unfold maxLen at hm; omega
  have hmI2 : (L : Int) ≤ 9223372036854775807 := by unfold maxLen at hm2; omega
  clear h hb hN hL hm hm2
  have g0 : decide ((20 : Int) < (N : Int)) = false := by simp; omega
  have g1 : decide ((20 : Int) < (L : Int)) = false := by simp; omega
  have L1 : Hid (([] : List (List Nat)).length + P.length ≤ 1000) := Lib.hid (by simp; have := NN.out; omega)
  clear hs
  go_enter Try.func6, Try.ntmps6
  go_wp2_with fail
  refine (dawake_any _).mono ?_
  rintro e x2 ⟨rfl, hb1⟩
  have hq3 : Below w.heap.size w x2 := hb1
  have P_4 := Lib.hid (Bl.to HP.out hq3)
  have Y_5 := Lib.hid (Bos.to HBd.out hq3)
  have HB_6 : Hid (Below w.heap.size w x2) := Lib.hid (hq3)
  clear hq3
  clear hb1
  go_wp2_with (at_builtin; refine wpList_append_bl rfl (.tmp 20) (.tmp 21) rfl x2.heap.size (.slice (some ⟨x2.heap.size, 0, none⟩) 0 0) (.slice A N c) [] P rfl (OwnB.new (Nat.le_refl _)) rfl (P_4.out.alloc _) L1.out (by simp) ?_; intro v7 x8 ho hg; have HO9 := Lib.hid ho; have HG10 := Lib.hid hg; clear ho hg)
  have hq11 : Below x2.heap.size x2 x8 := ((Below.refl x2.heap.size x2).alloc (Nat.le_refl _) _).grown HG10.out (by simp) (fun k e => by cases e; exact Nat.le_refl _)
  have P_12 := Lib.hid (Bl.to P_4.out hq11)
  have Y_13 := Lib.hid (Bos.to Y_5.out hq11)
  have HB_14 : Hid (Below w.heap.size w x8) := Lib.hid (HB_6.out.trans (hq11.mono HB_6.out.size))
  clear hq11
  have OB := HO9.out.bl
  rw [List.nil_append] at OB
  have OBH := Lib.hid OB
  clear OB
  go_wp2_with fail
  refine (DC.out _ _ _ OBH.out Y_13.out).mono ?_
  rintro e x16 ⟨rfl, hb15⟩
  have hq17 : Below x8.heap.size x8 x16 := hb15
  have P_18 := Lib.hid (Bl.to P_12.out hq17)
  have Y_19 := Lib.hid (Bos.to Y_13.out hq17)
  have O_20 := Lib.hid (Bl.to OBH.out hq17)
  have HB_21 : Hid (Below w.heap.size w x16) := Lib.hid (HB_14.out.trans (hq17.mono HB_14.out.size))
  clear hq17
  clear hb15
  go_wp2_with fail
  refine (same_b _ _ P P true _ O_20.out P_18.out (by simp)).mono ?_
  rintro e x23 ⟨rfl, hb22⟩
  have hq24 : Below x16.heap.size x16 x23 := hb22
  have P_25 := Lib.hid (Bl.to P_18.out hq24)
  have Y_26 := Lib.hid (Bos.to Y_19.out hq24)
  have O_27 := Lib.hid (Bl.to O_20.out hq24)
  have HB_28 : Hid (Below w.heap.size w x23) := Lib.hid (HB_21.out.trans (hq24.mono HB_21.out.size))
  clear hq24
  clear hb22
  go_wp2_with fail
  refine (RC.out _ _ _ P_25.out Y_26.out).mono ?_
  rintro e x30 ⟨rfl, hb29⟩
  have hq31 : Below x23.heap.size x23 x30 := hb29
  have P_32 := Lib.hid (Bl.to P_25.out hq31)
  have Y_33 := Lib.hid (Bos.to Y_26.out hq31)
  have O_34 := Lib.hid (Bl.to O_27.out hq31)
  have HB_35 : Hid (Below w.heap.size w x30) := Lib.hid (HB_28.out.trans (hq31.mono HB_28.out.size))
  clear hq31
  clear hb29
  go_wp2_with fail
  refine (same_b _ _ [] [] true _ (Bl.nil_ _) (Bl.nil_ _) (by decide)).mono ?_
  rintro e x37 ⟨rfl, hb36⟩
  have hq38 : Below x30.heap.size x30 x37 := hb36
  have P_39 := Lib.hid (Bl.to P_32.out hq38)
  have Y_40 := Lib.hid (Bos.to Y_33.out hq38)
  have O_41 := Lib.hid (Bl.to O_34.out hq38)
  have HB_42 : Hid (Below w.heap.size w x37) := Lib.hid (HB_35.out.trans (hq38.mono HB_35.out.size))
  clear hq38
  clear hb36
  go_wp2_with fail
  go_ret
  exact ⟨by first | rfl | simp, HB_42.out⟩
set_option maxHeartbeats 4000000 in
set_option maxRecDepth 100000 in
theorem ml_lost (v vb : Value) (P : List (List Nat)) (bad : List Bool) (w : World) (h : Bl w v P) (hb : Bos w vb bad) (hs : P.length ≤ 20 ∧ bad.length ≤ 20) (hc : 4 ≤ P.length ∧ P.length ≤ 16 ∧ bad.length = P.length ∧ 3 < cntL bad P.length) : Calls Try.prog 6 #[v, vb] w (lawPost w) := by
  have DC : Hid (∀ w v vb, Bl w v P → Bos w vb bad → Calls Try.prog 20 #[v, vb] w (decErr 12 w)) := Lib.hid fun w v vb h hb => dec_lost v vb P bad w h hb hc
  have RC : Hid (∀ w v vb, Bl w v P → Bos w vb bad → Calls Try.prog 22 #[v, vb] w (decErr 12 w)) := Lib.hid fun w v vb h hb => rdec_lost v vb P bad w h hb hc
  clear hc
  have HP := Lib.hid h
  have HBd := Lib.hid hb
  have hm : P.length ≤ maxLen := by obtain ⟨_, _, _, hm, _⟩ := h; omega
  have hm2 := hb.len
  obtain ⟨A, c, rfl⟩ := h.form
  obtain ⟨A2, c2, rfl⟩ := hb.form
  obtain ⟨N, hN⟩ : ∃ N, P.length = N := ⟨_, rfl⟩
  obtain ⟨L, hL⟩ : ∃ L, bad.length = L := ⟨_, rfl⟩
  have NN := Lib.hid hN
  have LL := Lib.hid hL
  rw [hN] at hm HP hs ⊢
  rw [hL] at hm2 HBd hs ⊢
  have hmI : (N : Int) ≤ 9223372036854775807 := by unfold maxLen at hm; omega
  have hmI2 : (L : Int) ≤ 9223372036854775807 := by unfold maxLen at hm2; omega
  clear h hb hN hL hm hm2
  have g0 : decide ((20 : Int) < (N : Int)) = false := by simp; omega
  have g1 : decide ((20 : Int) < (L : Int)) = false := by simp; omega
  have L1 : Hid (([] : List (List Nat)).length + P.length ≤ 1000) := Lib.hid (by simp; have := NN.out; omega)
  clear hs
  go_enter Try.func6, Try.ntmps6
  go_wp2_with fail
  refine (dawake_any _).mono ?_
  rintro e x2 ⟨rfl, hb1⟩
  have hq3 : Below w.heap.size w x2 := hb1
  have P_4 := Lib.hid (Bl.to HP.out hq3)
  have Y_5 := Lib.hid (Bos.to HBd.out hq3)
  have HB_6 : Hid (Below w.heap.size w x2) := Lib.hid (hq3)
  clear hq3
  clear hb1
  go_wp2_with (at_builtin; refine wpList_append_bl rfl (.tmp 20) (.tmp 21) rfl x2.heap.size (.slice (some ⟨x2.heap.size, 0, none⟩) 0 0) (.slice A N c) [] P rfl (OwnB.new (Nat.le_refl _)) rfl (P_4.out.alloc _) L1.out (by simp) ?_; intro v7 x8 ho hg; have HO9 := Lib.hid ho; have HG10 := Lib.hid hg; clear ho hg)
  have hq11 : Below x2.heap.size x2 x8 := ((Below.refl x2.heap.size x2).alloc (Nat.le_refl _) _).grown HG10.out (by simp) (fun k e => by cases e; exact Nat.le_refl _)
  have P_12 := Lib.hid (Bl.to P_4.out hq11)
  have Y_13 := Lib.hid (Bos.to Y_5.out hq11)
  have HB_14 : Hid (Below w.heap.size w x8) := Lib.hid (HB_6.out.trans (hq11.mono HB_6.out.size))
  clear hq11
  have OB := HO9.out.bl
  rw [List.nil_append] at OB
  have OBH := Lib.hid OB
  clear OB
  go_wp2_with fail
  refine (DC.out _ _ _ OBH.out Y_13.out).mono ?_
  rintro e x16 ⟨rfl, hb15⟩
  have hq17 : Below x8.heap.size x8 x16 := hb15
  have P_18 := Lib.hid (Bl.to P_12.out hq17)
  have Y_19 := Lib.hid (Bos.to Y_13.out hq17)
  have O_20 := Lib.hid (Bl.to OBH.out hq17)
  have HB_21 : Hid (Below w.heap.size w x16) := Lib.hid (HB_14.out.trans (hq17.mono HB_14.out.size))
  clear hq17
  clear hb15
  go_wp2_with fail
  refine (same_b _ _ P P true _ O_20.out P_18.out (by simp)).mono ?_
  rintro e x23 ⟨rfl, hb22⟩
  have hq24 : Below x16.heap.size x16 x23 := hb22
  have P_25 := Lib.hid (Bl.to P_18.out hq24)
  have Y_26 := Lib.hid (Bos.to Y_19.out hq24)
  have O_27 := Lib.hid (Bl.to O_20.out hq24)
  have HB_28 : Hid (Below w.heap.size w x23) := Lib.hid (HB_21.out.trans (hq24.mono HB_21.out.size))
  clear hq24
  clear hb22
  go_wp2_with fail
  refine (RC.out _ _ _ P_25.out Y_26.out).mono ?_
  rintro e x30 ⟨rfl, hb29⟩
  have hq31 : Below x23.heap.size x23 x30 := hb29
  have P_32 := Lib.hid (Bl.to P_25.out hq31)
  have Y_33 := Lib.hid (Bos.to Y_26.out hq31)
  have O_34 := Lib.hid (Bl.to O_27.out hq31)
  have HB_35 : Hid (Below w.heap.size w x30) := Lib.hid (HB_28.out.trans (hq31.mono HB_28.out.size))
  clear hq31
  clear hb29
  go_wp2_with fail
  refine (same_b _ _ [] [] true _ (Bl.nil_ _) (Bl.nil_ _) (by decide)).mono ?_
  rintro e x37 ⟨rfl, hb36⟩
  have hq38 : Below x30.heap.size x30 x37 := hb36
  have P_39 := Lib.hid (Bl.to P_32.out hq38)
  have Y_40 := Lib.hid (Bos.to Y_33.out hq38)
  have O_41 := Lib.hid (Bl.to O_34.out hq38)
  have HB_42 : Hid (Below w.heap.size w x37) := Lib.hid (HB_35.out.trans (hq38.mono HB_35.out.size))
  clear hq38
  clear hb36
  go_wp2_with fail
  go_ret
  exact ⟨by first | rfl | simp, HB_42.out⟩
set_option maxHeartbeats 4000000 in
set_option maxRecDepth 100000 in
theorem ml_ok (v vb : Value) (P : List (List Nat)) (bad : List Bool) (w : World) (h : Bl w v P) (hb : Bos w vb bad) (hs : P.length ≤ 20 ∧ bad.length ≤ 20) (hc : 4 ≤ P.length ∧ P.length ≤ 16 ∧ bad.length = P.length ∧ cntL bad P.length ≤ 3) : Calls Try.prog 6 #[v, vb] w (lawPost w) := by
  have DC : Hid (∀ w v vb, Bl w v P → Bos w vb bad → Calls Try.prog 20 #[v, vb] w (decPost (decL P bad) P.length w)) := Lib.hid fun w v vb h hb => dec_ok v vb P bad w h hb hc
  have RC : Hid (∀ w v vb, Bl w v P → Bos w vb bad → Calls Try.prog 22 #[v, vb] w (decPost (decL P bad) P.length w)) := Lib.hid fun w v vb h hb => rdec_ok v vb P bad w h hb hc
  clear hc
  have HP := Lib.hid h
  have HBd := Lib.hid hb
  have hm : P.length ≤ maxLen := by obtain ⟨_, _, _, hm, _⟩ := h; omega
  have hm2 := hb.len
  obtain ⟨A, c, rfl⟩ := h.form
  obtain ⟨A2, c2, rfl⟩ := hb.form
  obtain ⟨N, hN⟩ : ∃ N, P.length = N := ⟨_, rfl⟩
  obtain ⟨L, hL⟩ : ∃ L, bad.length = L := ⟨_, rfl⟩
  have NN := Lib.hid hN
  have LL := Lib.hid hL
  rw [hN] at hm HP hs ⊢
  rw [hL] at hm2 HBd hs ⊢
  have hmI : (N : Int) ≤ 9223372036854775807 := by unfold maxLen at hm; omega
  have hmI2 : (L : Int) ≤ 9223372036854775807 := by unfold maxLen at hm2; omega
  clear h hb hN hL hm hm2
  rw [NN.out] at DC RC
  obtain ⟨X, hX⟩ : ∃ X, decL P bad = X := ⟨_, rfl⟩
  rw [hX] at DC RC
  clear hX
  have g0 : decide ((20 : Int) < (N : Int)) = false := by simp; omega
  have g1 : decide ((20 : Int) < (L : Int)) = false := by simp; omega
  have L1 : Hid (([] : List (List Nat)).length + P.length ≤ 1000) := Lib.hid (by simp; have := NN.out; omega)
  clear hs
  go_enter Try.func6, Try.ntmps6
  go_wp2_with fail
  refine (dawake_any _).mono ?_
  rintro e x2 ⟨rfl, hb1⟩
  have hq3 : Below w.heap.size w x2 := hb1
  have P_4 := Lib.hid (Bl.to HP.out hq3)
  have Y_5 := Lib.hid (Bos.to HBd.out hq3)
  have HB_6 : Hid (Below w.heap.size w x2) := Lib.hid (hq3)
  clear hq3
  clear hb1
  go_wp2_with (at_builtin; refine wpList_append_bl rfl (.tmp 20) (.tmp 21) rfl x2.heap.size (.slice (some ⟨x2.heap.size, 0, none⟩) 0 0) (.slice A N c) [] P rfl (OwnB.new (Nat.le_refl _)) rfl (P_4.out.alloc _) L1.out (by simp) ?_; intro v7 x8 ho hg; have HO9 := Lib.hid ho; have HG10 := Lib.hid hg; clear ho hg)
  have hq11 : Below x2.heap.size x2 x8 := ((Below.refl x2.heap.size x2).alloc (Nat.le_refl _) _).grown HG10.out (by simp) (fun k e => by cases e; exact Nat.le_refl _)
  have P_12 := Lib.hid (Bl.to P_4.out hq11)
  have Y_13 := Lib.hid (Bos.to Y_5.out hq11)
  have HB_14 : Hid (Below w.heap.size w x8) := Lib.hid (HB_6.out.trans (hq11.mono HB_6.out.size))
  clear hq11
  have OB := HO9.out.bl
  rw [List.nil_append] at OB
  have OBH := Lib.hid OB
  clear OB
  go_wp2_with fail
  refine (DC.out _ _ _ OBH.out Y_13.out).mono ?_
  rintro e x16 ⟨gl, cl, rfl, hn17, hb15⟩
  have hq18 : Below x8.heap.size x8 x16 := hb15
  have P_19 := Lib.hid (Bl.to P_12.out hq18)
  have Y_20 := Lib.hid (Bos.to Y_13.out hq18)
  have O_21 := Lib.hid (Bl.to OBH.out hq18)
  have HB_22 : Hid (Below w.heap.size w x16) := Lib.hid (HB_14.out.trans (hq18.mono HB_14.out.size))
  clear hq18
  have X_23 := Lib.hid hn17
  clear hb15 hn17
  go_wp2_with fail
  refine (same_b _ _ P P true _ O_21.out P_19.out (by simp)).mono ?_
  rintro e x25 ⟨rfl, hb24⟩
  have hq26 : Below x16.heap.size x16 x25 := hb24
  have P_27 := Lib.hid (Bl.to P_19.out hq26)
  have Y_28 := Lib.hid (Bos.to Y_20.out hq26)
  have O_29 := Lib.hid (Bl.to O_21.out hq26)
  have X_30 := Lib.hid (Bl.to X_23.out hq26)
  have HB_31 : Hid (Below w.heap.size w x25) := Lib.hid (HB_22.out.trans (hq26.mono HB_22.out.size))
  clear hq26
  clear hb24
  go_wp2_with fail
  refine (RC.out _ _ _ P_27.out Y_28.out).mono ?_
  rintro e x33 ⟨gr, cr, rfl, hn34, hb32⟩
  have hq35 : Below x25.heap.size x25 x33 := hb32
  have P_36 := Lib.hid (Bl.to P_27.out hq35)
  have Y_37 := Lib.hid (Bos.to Y_28.out hq35)
  have O_38 := Lib.hid (Bl.to O_29.out hq35)
  have X_39 := Lib.hid (Bl.to X_30.out hq35)
  have HB_40 : Hid (Below w.heap.size w x33) := Lib.hid (HB_31.out.trans (hq35.mono HB_31.out.size))
  clear hq35
  have Z_41 := Lib.hid hn34
  clear hb32 hn34
  go_wp2_with fail
  refine (same_b _ _ X X true _ X_39.out Z_41.out (by simp)).mono ?_
  rintro e x43 ⟨rfl, hb42⟩
  have hq44 : Below x33.heap.size x33 x43 := hb42
  have P_45 := Lib.hid (Bl.to P_36.out hq44)
  have Y_46 := Lib.hid (Bos.to Y_37.out hq44)
  have O_47 := Lib.hid (Bl.to O_38.out hq44)
  have X_48 := Lib.hid (Bl.to X_39.out hq44)
  have Z_49 := Lib.hid (Bl.to Z_41.out hq44)
  have HB_50 : Hid (Below w.heap.size w x43) := Lib.hid (HB_40.out.trans (hq44.mono HB_40.out.size))
  clear hq44
  clear hb42
  go_wp2_with fail
  go_ret
  exact ⟨by first | rfl | simp, HB_50.out⟩
theorem matcheslaw (v vb : Value) (P : List (List Nat)) (bad : List Bool) (w : World) (h : Bl w v P) (hb : Bos w vb bad) : Calls Try.prog 6 #[v, vb] w (lawPost w) := by
  by_cases hs : 20 < P.length ∨ 20 < bad.length
  · exact ml_long v vb P bad w h hb hs
  · have hs : P.length ≤ 20 ∧ bad.length ≤ 20 := by omega
    by_cases h1 : P.length < 4 ∨ 16 < P.length
    · exact ml_width v vb P bad w h hb hs h1
    · by_cases h2 : bad.length = P.length
      · by_cases h3 : cntL bad P.length ≤ 3
        · exact ml_ok v vb P bad w h hb hs ⟨by omega, by omega, h2, h3⟩
        · exact ml_lost v vb P bad w h hb hs ⟨by omega, by omega, h2, by omega⟩
      · exact ml_len v vb P bad w h hb hs ⟨by omega, by omega, h2⟩
end Go.Proofs.Ytheijobnmdbodaa
