/- The walk of the law DecodeSyndromes. WRITTEN BY gen_Vg.py. -/
import Derived.Test.YtheijobnmdbodaaVd
namespace Go.Proofs.Ytheijobnmdbodaa
open Go Go.RowKit Lin
set_option linter.unusedVariables false
set_option linter.unusedSimpArgs false

theorem sum_ok {P Q : List (List Nat)} (hP : ∀ d ∈ P, B8 d) (hQ : ∀ d ∈ Q, B8 d) (hl : Q.length = P.length) : ∀ d ∈ upto (sumF P Q) P.length, B8 d := by
  intro d hd
  obtain ⟨i, hi, rfl⟩ := List.mem_map.1 hd
  have hi := List.mem_range.1 hi
  exact xorB_ok (by rw [getD_in hi]; exact hP _ (List.getElem_mem _)) (by rw [getD_in (by omega)]; exact hQ _ (List.getElem_mem _))
/-- The syndromes of a sum are the sums of the syndromes. -/
theorem syn_sum {P Q : List (List Nat)} (hP : ∀ d ∈ P, B8 d) (hQ : ∀ d ∈ Q, B8 d) (h4 : 4 ≤ P.length) (h16 : P.length ≤ 16) (hl : Q.length = P.length) {j : Nat} (hj : j < 3) : xorB (synB P j) (synB Q j) = synB (upto (sumF P Q) P.length) j := by
  have hS := sum_ok hP hQ hl
  have len : (upto (sumF P Q) P.length).length = P.length := upto_length _ _
  refine (xorB_ok (synB_ok hP (by omega) hj) (synB_ok hQ (by omega) hj)).ext (synB_ok hS (by omega) hj) fun k hk => ?_
  rw [xorB, blk_at _ hk, synB_at hS (by omega) (by omega) hj hk, synB_at hP h4 h16 hj hk, synB_at hQ (by omega) (by omega) hj hk, len, hl, ← syn_xor]
  unfold syn
  refine xs_congr _ _ _ fun i hi => ?_
  have e : el (upto (sumF P Q) P.length) i k = el P i k ^^^ el Q i k := by rw [el_upto (by omega), sumF, xorB, blk_at _ hk]; rfl
  simp only [e]
theorem synL_at (P : List (List Nat)) {j : Nat} (hj : j < 3) : (synL P).getD j [] = synB P j := by
  match j, hj with
  | 0, _ => rfl
  | 1, _ => rfl
  | 2, _ => rfl
theorem chk_is {P : List (List Nat)} (h4 : 4 ≤ P.length) (h16 : P.length ≤ 16) : decide (P = P.take (P.length - 3) ++ parL (P.take (P.length - 3))) = chk P := by
  rw [chk]; exact decide_eq_decide.2 ⟨fun e => ⟨h4, h16, e⟩, fun e => e.2.2⟩

set_option maxHeartbeats 4000000 in
set_option maxRecDepth 100000 in
theorem syl_long (v : Value) (P : List (List Nat)) (u : Value) (Q : List (List Nat)) (w : World) (h : Bl w v P) (hq0 : Bl w u Q) (hs : 20 < P.length ∨ 20 < Q.length) : Calls Try.prog 8 #[v, u] w (lawPost w) := by
  have HP := Lib.hid h
  have HQ := Lib.hid hq0
  have hm : P.length ≤ maxLen := by obtain ⟨_, _, _, hm, _⟩ := h; omega
  have hm2 : Q.length ≤ maxLen := by obtain ⟨_, _, _, hm, _⟩ := hq0; omega
  obtain ⟨A, c, rfl⟩ := h.form
  obtain ⟨A2, c2, rfl⟩ := hq0.form
  obtain ⟨N, hN⟩ : ∃ N, P.length = N := ⟨_, rfl⟩
  obtain ⟨M, hM⟩ : ∃ M, Q.length = M := ⟨_, rfl⟩
  have NN := Lib.hid hN
  have MM := Lib.hid hM
  have OK := Lib.hid h.ok
  have OKQ := Lib.hid hq0.ok
  rw [hN] at hm HP hs ⊢
  rw [hM] at hm2 HQ hs ⊢
  have hmI : (N : Int) ≤ 9223372036854775807 := by unfold maxLen at hm; omega
  have hmI2 : (M : Int) ≤ 9223372036854775807 := by unfold maxLen at hm2; omega
  clear h hq0 hN hM hm hm2
  have hcase : decide ((20 : Int) < (N : Int)) = true ∨ (decide ((20 : Int) < (N : Int)) = false ∧ decide ((20 : Int) < (M : Int)) = true) := by
    by_cases h : 20 < N
    · exact Or.inl (by simp; omega)
    · exact Or.inr ⟨by simp; omega, by simp; omega⟩
  clear hs
  rcases hcase with g1 | ⟨g1, g2⟩
  all_goals
    go_enter Try.func8, Try.ntmps8
    go_wp2_with fail
    refine (dawake_any _).mono ?_
    rintro e x2 ⟨rfl, hb1⟩
    have hq3 : Below w.heap.size w x2 := hb1
    have HB_4 : Hid (Below w.heap.size w x2) := Lib.hid (hq3)
    clear hq3
    clear hb1
    go_wp2_with fail
    go_ret
    exact ⟨by first | rfl | simp, HB_4.out⟩
set_option maxHeartbeats 4000000 in
set_option maxRecDepth 100000 in
theorem syl_arg (v : Value) (P : List (List Nat)) (u : Value) (Q : List (List Nat)) (w : World) (h : Bl w v P) (hq0 : Bl w u Q) (hs : P.length ≤ 20 ∧ Q.length ≤ 20 ∧ (P.length < 4 ∨ 16 < P.length)) : Calls Try.prog 8 #[v, u] w (lawPost w) := by
  have SE := Lib.hid fun w v (h : Bl w v P) => syn_err v P w h hs.2.2
  have HP := Lib.hid h
  have HQ := Lib.hid hq0
  have hm : P.length ≤ maxLen := by obtain ⟨_, _, _, hm, _⟩ := h; omega
  have hm2 : Q.length ≤ maxLen := by obtain ⟨_, _, _, hm, _⟩ := hq0; omega
  obtain ⟨A, c, rfl⟩ := h.form
  obtain ⟨A2, c2, rfl⟩ := hq0.form
  obtain ⟨N, hN⟩ : ∃ N, P.length = N := ⟨_, rfl⟩
  obtain ⟨M, hM⟩ : ∃ M, Q.length = M := ⟨_, rfl⟩
  have NN := Lib.hid hN
  have MM := Lib.hid hM
  have OK := Lib.hid h.ok
  have OKQ := Lib.hid hq0.ok
  rw [hN] at hm HP hs ⊢
  rw [hM] at hm2 HQ hs ⊢
  have hmI : (N : Int) ≤ 9223372036854775807 := by unfold maxLen at hm; omega
  have hmI2 : (M : Int) ≤ 9223372036854775807 := by unfold maxLen at hm2; omega
  clear h hq0 hN hM hm hm2
  have g0 : decide ((20 : Int) < (N : Int)) = false := by simp; omega
  have g00 : decide ((20 : Int) < (M : Int)) = false := by simp; omega
  have hcase : decide ((N : Int) < 4) = true ∨ (decide ((N : Int) < 4) = false ∧ decide ((16 : Int) < (N : Int)) = true) := by
    by_cases h : N < 4
    · exact Or.inl (by simp; omega)
    · exact Or.inr ⟨by simp; omega, by have := hs.2.2; simp; omega⟩
  clear hs
  rcases hcase with g1 | ⟨g1, g2⟩
  all_goals
    go_enter Try.func8, Try.ntmps8
    go_wp2_with fail
    refine (dawake_any _).mono ?_
    rintro e x2 ⟨rfl, hb1⟩
    have hq3 : Below w.heap.size w x2 := hb1
    have P_4 := Lib.hid (Bl.to HP.out hq3)
    have HB_5 : Hid (Below w.heap.size w x2) := Lib.hid (hq3)
    clear hq3
    clear hb1
    go_wp2_with fail
    refine (SE.out _ _ P_4.out).mono ?_
    rintro e x7 ⟨rfl, hb6⟩
    have hq8 : Below x2.heap.size x2 x7 := hb6
    have P_9 := Lib.hid (Bl.to P_4.out hq8)
    have HB_10 : Hid (Below w.heap.size w x7) := Lib.hid (HB_5.out.trans (hq8.mono HB_5.out.size))
    clear hq8
    clear hb6
    go_wp2_with fail
    go_ret
    exact ⟨by first | rfl | simp, HB_10.out⟩
set_option maxHeartbeats 4000000 in
set_option maxRecDepth 100000 in
theorem syl_ne (v : Value) (P : List (List Nat)) (u : Value) (Q : List (List Nat)) (w : World) (h : Bl w v P) (hq0 : Bl w u Q) (hs : 4 ≤ P.length ∧ P.length ≤ 16 ∧ Q.length ≤ 20 ∧ Q.length ≠ P.length) : Calls Try.prog 8 #[v, u] w (lawPost w) := by
  have OK0 := h.ok
  obtain ⟨b, hb⟩ : ∃ b, chk P = b := ⟨_, rfl⟩
  have SY := Lib.hid fun w v (h : Bl w v P) => syn_ok v P w h hs.1 hs.2.1
  have RS := Lib.hid fun w v (h : Bl w v P) => rsyn_ok v P w h hs.1 hs.2.1
  have SC := Lib.hid ((syn_chk OK0 hs.1 hs.2.1).trans hb)
  have GC := Lib.hid ((chk_is hs.1 hs.2.1).trans hb)
  have GR := Lib.hid fun w v (h : Bl w v (P.take (P.length - 3))) => groupo_any v _ w h (by rw [List.length_take]; have := hs.2.1; omega)
  have SO := Lib.hid (synL_ok OK0 (show 3 ≤ P.length by have := hs.1; omega))
  obtain ⟨n, hn⟩ : ∃ n, P.length = n + 3 := ⟨P.length - 3, by have := hs.1; omega⟩
  have HH := fun w A c (h : Bl w (.slice (some A) (n + 3) c) P) => h
  rw [show P.length - 3 = n by omega] at GC GR
  clear OK0 hb HH
  have HP := Lib.hid h
  have HQ := Lib.hid hq0
  have hm : P.length ≤ maxLen := by obtain ⟨_, _, _, hm, _⟩ := h; omega
  have hm2 : Q.length ≤ maxLen := by obtain ⟨_, _, _, hm, _⟩ := hq0; omega
  obtain ⟨bp, op, c, rfl, hcp, hbp, -⟩ := Bl.at_ h (by omega)
  obtain ⟨A2, c2, rfl⟩ := hq0.form
  obtain ⟨N, hN⟩ : ∃ N, P.length = N := ⟨_, rfl⟩
  obtain ⟨M, hM⟩ : ∃ M, Q.length = M := ⟨_, rfl⟩
  have NN := Lib.hid hN
  have MM := Lib.hid hM
  have OK := Lib.hid h.ok
  have OKQ := Lib.hid hq0.ok
  rw [hN] at hm HP hs hcp ⊢
  rw [hM] at hm2 HQ hs ⊢
  have hmI : (N : Int) ≤ 9223372036854775807 := by unfold maxLen at hm; omega
  have hmI2 : (M : Int) ≤ 9223372036854775807 := by unfold maxLen at hm2; omega
  clear h hq0 hN hM hm hm2
  have LN : N = n + 3 := NN.out.symm.trans hn
  have hnI : (N : Int) = (n : Int) + 3 := by omega
  have hMN : ((M : Int) == (N : Int)) = false := by have := hs.2.2.2; simp; omega
  have hMN2 : ¬ ((M : Int) = (N : Int)) := by have := hs.2.2.2; omega
  have g0 : decide ((20 : Int) < (N : Int)) = false := by simp; omega
  have g1 : decide ((N : Int) < 4) = false := by simp; omega
  have g2 : decide ((16 : Int) < (N : Int)) = false := by simp; omega
  have hN16 : N ≤ 16 := hs.2.1
  have e0 : (N : Int) - 3 = (n : Int) := by omega
  have c1 : n ≤ c := by omega
  have c2' : (n : Int) ≤ (c : Int) := by omega
  have c3 : (c : Int) ≤ 9223372036854775807 := by have := hcp.2; unfold maxLen at this; omega
  obtain ⟨zc, hzc⟩ : ∃ z, bcs (List.replicate 24 0) = z := ⟨_, rfl⟩
  have hmk : ∀ w : World, (Instr.makeSlice 31 (.int .i64 3) (.int .i64 3)).run Try.prog w = .ok (.slice (some ⟨w.heap.size, 0, none⟩) 3 3) (w.alloc (.cells zc 33)) := fun w => by rw [← hzc]; exact make_blk3 w
  have ZC := Lib.hid hzc
  have g00 : decide ((20 : Int) < (M : Int)) = false := by have := hs.2.2.1; simp; omega
  have HH := Lib.hid (HP.out.head (n := n) (by omega))
  obtain ⟨S, hS⟩ : ∃ S, synL P = S := ⟨_, rfl⟩
  rw [hS] at SY RS SC SO
  have SP := Lib.hid hS
  obtain ⟨PT, hPT⟩ : ∃ PT, P.take n = PT := ⟨_, rfl⟩
  rw [hPT] at GR HH GC
  obtain ⟨Z, hZ⟩ : ∃ Z, List.replicate 3 zeroB.1 = Z := ⟨_, rfl⟩
  rw [hZ] at SC
  have ZR := Lib.hid hZ
  have LNN := Lib.hid LN
  clear hs hn hzc hcp hbp hS hPT hZ LN hnI
  go_enter Try.func8, Try.ntmps8
  go_wp2_with fail
  refine (dawake_any _).mono ?_
  rintro e x2 ⟨rfl, hb1⟩
  have hq3 : Below w.heap.size w x2 := hb1
  have P_4 := Lib.hid (Bl.to HP.out hq3)
  have Q_5 := Lib.hid (Bl.to HQ.out hq3)
  have H_6 := Lib.hid (Bl.to HH.out hq3)
  have HB_7 : Hid (Below w.heap.size w x2) := Lib.hid (hq3)
  clear hq3
  clear hb1
  go_wp2_with fail
  refine (SY.out _ _ P_4.out).mono ?_
  rintro e x9 ⟨gs, rfl, hn10, hb8⟩
  have hq11 : Below x2.heap.size x2 x9 := hb8
  have P_12 := Lib.hid (Bl.to P_4.out hq11)
  have Q_13 := Lib.hid (Bl.to Q_5.out hq11)
  have H_14 := Lib.hid (Bl.to H_6.out hq11)
  have HB_15 : Hid (Below w.heap.size w x9) := Lib.hid (HB_7.out.trans (hq11.mono HB_7.out.size))
  clear hq11
  have S_16 := Lib.hid hn10
  clear hb8 hn10
  go_wp2_with fail
  refine (RS.out _ _ P_12.out).mono ?_
  rintro e x18 ⟨gr, rfl, hn19, hb17⟩
  have hq20 : Below x9.heap.size x9 x18 := hb17
  have P_21 := Lib.hid (Bl.to P_12.out hq20)
  have Q_22 := Lib.hid (Bl.to Q_13.out hq20)
  have H_23 := Lib.hid (Bl.to H_14.out hq20)
  have S_24 := Lib.hid (Bl.to S_16.out hq20)
  have HB_25 : Hid (Below w.heap.size w x18) := Lib.hid (HB_15.out.trans (hq20.mono HB_15.out.size))
  clear hq20
  have R_26 := Lib.hid hn19
  clear hb17 hn19
  go_wp2_with fail
  refine (same_b _ _ S S true _ S_24.out R_26.out (by simp)).mono ?_
  rintro e x28 ⟨rfl, hb27⟩
  have hq29 : Below x18.heap.size x18 x28 := hb27
  have P_30 := Lib.hid (Bl.to P_21.out hq29)
  have Q_31 := Lib.hid (Bl.to Q_22.out hq29)
  have H_32 := Lib.hid (Bl.to H_23.out hq29)
  have S_33 := Lib.hid (Bl.to S_24.out hq29)
  have R_34 := Lib.hid (Bl.to R_26.out hq29)
  have HB_35 : Hid (Below w.heap.size w x28) := Lib.hid (HB_25.out.trans (hq29.mono HB_25.out.size))
  clear hq29
  clear hb27
  go_wp2_with fail
  refine (GR.out _ _ H_32.out).mono ?_
  rintro e x37 ⟨gv, rfl, hn38, hb36⟩
  have hq39 : Below x28.heap.size x28 x37 := hb36
  have P_40 := Lib.hid (Bl.to P_30.out hq39)
  have Q_41 := Lib.hid (Bl.to Q_31.out hq39)
  have H_42 := Lib.hid (Bl.to H_32.out hq39)
  have S_43 := Lib.hid (Bl.to S_33.out hq39)
  have HB_44 : Hid (Below w.heap.size w x37) := Lib.hid (HB_35.out.trans (hq39.mono HB_35.out.size))
  clear hq39
  have G_45 := Lib.hid hn38
  clear hb36 hn38
  go_wp2_with fail
  refine (same_b _ _ P (PT ++ parL PT) b _ P_40.out G_45.out.bl GC.out).mono ?_
  rintro e x47 ⟨rfl, hb46⟩
  have hq48 : Below x37.heap.size x37 x47 := hb46
  have P_49 := Lib.hid (Bl.to P_40.out hq48)
  have Q_50 := Lib.hid (Bl.to Q_41.out hq48)
  have S_51 := Lib.hid (Bl.to S_43.out hq48)
  have G_52 := Lib.hid (OwnB.to G_45.out hq48)
  have HB_53 : Hid (Below w.heap.size w x47) := Lib.hid (HB_44.out.trans (hq48.mono HB_44.out.size))
  clear hq48
  clear hb46
  go_wp2_with fail
  obtain ⟨wz, hwz⟩ : ∃ wz, x47.alloc (.cells zc 33) = wz := ⟨_, rfl⟩
  have hq : Below x47.heap.size x47 wz := by rw [← hwz]; exact (Below.refl _ _).alloc (Nat.le_refl _) _
  have OZ := Lib.hid (own_zeros x47 3 (by decide)).bl
  rw [show 3 * 8 = 24 from rfl, ZC.out, hwz, ZR.out] at OZ
  rw [hwz]
  clear hwz hmk
  obtain ⟨gz, hgz⟩ : ∃ gz, x47.heap.size = gz := ⟨_, rfl⟩
  rw [hgz] at OZ ⊢
  clear hgz
  have hq54 : Below x47.heap.size x47 wz := hq
  have P_55 := Lib.hid (Bl.to P_49.out hq54)
  have Q_56 := Lib.hid (Bl.to Q_50.out hq54)
  have S_57 := Lib.hid (Bl.to S_51.out hq54)
  have HB_58 : Hid (Below w.heap.size w wz) := Lib.hid (HB_53.out.trans (hq54.mono HB_53.out.size))
  clear hq54
  clear hq
  refine (same_b _ _ S Z b _ S_57.out OZ.out SC.out).mono ?_
  rintro e x60 ⟨rfl, hb59⟩
  have hq61 : Below wz.heap.size wz x60 := hb59
  have P_62 := Lib.hid (Bl.to P_55.out hq61)
  have Q_63 := Lib.hid (Bl.to Q_56.out hq61)
  have S_64 := Lib.hid (Bl.to S_57.out hq61)
  have Z_65 := Lib.hid (Bl.to OZ.out hq61)
  have HB_66 : Hid (Below w.heap.size w x60) := Lib.hid (HB_58.out.trans (hq61.mono HB_58.out.size))
  clear hq61
  clear hb59
  go_wp2_with fail
  go_ret
  exact ⟨by first | rfl | simp, HB_66.out⟩
set_option maxHeartbeats 4000000 in
set_option maxRecDepth 100000 in
theorem syl_eq (v : Value) (P : List (List Nat)) (u : Value) (Q : List (List Nat)) (w : World) (h : Bl w v P) (hq0 : Bl w u Q) (hs : 4 ≤ P.length ∧ P.length ≤ 16 ∧ Q.length = P.length) : Calls Try.prog 8 #[v, u] w (lawPost w) := by
  have OK0 := h.ok
  obtain ⟨b, hb⟩ : ∃ b, chk P = b := ⟨_, rfl⟩
  have SY := Lib.hid fun w v (h : Bl w v P) => syn_ok v P w h hs.1 hs.2.1
  have RS := Lib.hid fun w v (h : Bl w v P) => rsyn_ok v P w h hs.1 hs.2.1
  have SC := Lib.hid ((syn_chk OK0 hs.1 hs.2.1).trans hb)
  have GC := Lib.hid ((chk_is hs.1 hs.2.1).trans hb)
  have GR := Lib.hid fun w v (h : Bl w v (P.take (P.length - 3))) => groupo_any v _ w h (by rw [List.length_take]; have := hs.2.1; omega)
  have SO := Lib.hid (synL_ok OK0 (show 3 ≤ P.length by have := hs.1; omega))
  obtain ⟨n, hn⟩ : ∃ n, P.length = n + 3 := ⟨P.length - 3, by have := hs.1; omega⟩
  have HH := fun w A c (h : Bl w (.slice (some A) (n + 3) c) P) => h
  have SYQ := Lib.hid fun w v (h : Bl w v Q) => syn_ok v Q w h (by rw [hs.2.2]; exact hs.1) (by rw [hs.2.2]; exact hs.2.1)
  have SU := Lib.hid fun j (hj : j < 3) => syn_sum OK0 hq0.ok hs.1 hs.2.1 hs.2.2 hj
  have SUO := Lib.hid (sum_ok OK0 hq0.ok hs.2.2)
  have SOQ := Lib.hid (synL_ok hq0.ok (show 3 ≤ Q.length by have := hs.2.2; have := hs.1; omega))
  have SYS := Lib.hid fun w v (h : Bl w v (upto (sumF P Q) P.length)) => syn_ok v _ w h (by rw [upto_length]; exact hs.1) (by rw [upto_length]; exact hs.2.1)
  rw [show P.length - 3 = n by omega] at GC GR
  clear OK0 hb HH
  have HP := Lib.hid h
  have HQ := Lib.hid hq0
  have hm : P.length ≤ maxLen := by obtain ⟨_, _, _, hm, _⟩ := h; omega
  have hm2 : Q.length ≤ maxLen := by obtain ⟨_, _, _, hm, _⟩ := hq0; omega
  obtain ⟨bp, op, c, rfl, hcp, hbp, -⟩ := Bl.at_ h (by omega)
  obtain ⟨A2, c2, rfl⟩ := hq0.form
  obtain ⟨N, hN⟩ : ∃ N, P.length = N := ⟨_, rfl⟩
  obtain ⟨M, hM⟩ : ∃ M, Q.length = M := ⟨_, rfl⟩
  have NN := Lib.hid hN
  have MM := Lib.hid hM
  have OK := Lib.hid h.ok
  have OKQ := Lib.hid hq0.ok
  rw [hN] at hm HP hs hcp ⊢
  rw [hM] at hm2 HQ hs ⊢
  have hmI : (N : Int) ≤ 9223372036854775807 := by unfold maxLen at hm; omega
  have hmI2 : (M : Int) ≤ 9223372036854775807 := by unfold maxLen at hm2; omega
  clear h hq0 hN hM hm hm2
  have LN : N = n + 3 := NN.out.symm.trans hn
  have hnI : (N : Int) = (n : Int) + 3 := by omega
  have EM : M = N := hs.2.2
  subst EM
  rw [NN.out] at SU SYS SUO
  have g0 : decide ((20 : Int) < (M : Int)) = false := by simp; omega
  have g1 : decide ((M : Int) < 4) = false := by simp; omega
  have g2 : decide ((16 : Int) < (M : Int)) = false := by simp; omega
  have hN16 : M ≤ 16 := hs.2.1
  have e0 : (M : Int) - 3 = (n : Int) := by omega
  have c1 : n ≤ c := by omega
  have c2' : (n : Int) ≤ (c : Int) := by omega
  have c3 : (c : Int) ≤ 9223372036854775807 := by have := hcp.2; unfold maxLen at this; omega
  obtain ⟨zc, hzc⟩ : ∃ z, bcs (List.replicate 24 0) = z := ⟨_, rfl⟩
  have hmk : ∀ w : World, (Instr.makeSlice 31 (.int .i64 3) (.int .i64 3)).run Try.prog w = .ok (.slice (some ⟨w.heap.size, 0, none⟩) 3 3) (w.alloc (.cells zc 33)) := fun w => by rw [← hzc]; exact make_blk3 w
  have ZC := Lib.hid hzc
  have HH := Lib.hid (HP.out.head (n := n) (by omega))
  obtain ⟨S, hS⟩ : ∃ S, synL P = S := ⟨_, rfl⟩
  rw [hS] at SY RS SC SO
  have SP := Lib.hid hS
  obtain ⟨PT, hPT⟩ : ∃ PT, P.take n = PT := ⟨_, rfl⟩
  rw [hPT] at GR HH GC
  obtain ⟨Z, hZ⟩ : ∃ Z, List.replicate 3 zeroB.1 = Z := ⟨_, rfl⟩
  rw [hZ] at SC
  have ZR := Lib.hid hZ
  have LNN := Lib.hid LN
  clear hs hn hzc hcp hbp hS hPT hZ LN hnI
  go_enter Try.func8, Try.ntmps8
  go_wp2_with fail
  refine (dawake_any _).mono ?_
  rintro e x2 ⟨rfl, hb1⟩
  have hq3 : Below w.heap.size w x2 := hb1
  have P_4 := Lib.hid (Bl.to HP.out hq3)
  have Q_5 := Lib.hid (Bl.to HQ.out hq3)
  have H_6 := Lib.hid (Bl.to HH.out hq3)
  have HB_7 : Hid (Below w.heap.size w x2) := Lib.hid (hq3)
  clear hq3
  clear hb1
  go_wp2_with fail
  refine (SY.out _ _ P_4.out).mono ?_
  rintro e x9 ⟨gs, rfl, hn10, hb8⟩
  have hq11 : Below x2.heap.size x2 x9 := hb8
  have P_12 := Lib.hid (Bl.to P_4.out hq11)
  have Q_13 := Lib.hid (Bl.to Q_5.out hq11)
  have H_14 := Lib.hid (Bl.to H_6.out hq11)
  have HB_15 : Hid (Below w.heap.size w x9) := Lib.hid (HB_7.out.trans (hq11.mono HB_7.out.size))
  clear hq11
  have S_16 := Lib.hid hn10
  clear hb8 hn10
  go_wp2_with fail
  refine (RS.out _ _ P_12.out).mono ?_
  rintro e x18 ⟨gr, rfl, hn19, hb17⟩
  have hq20 : Below x9.heap.size x9 x18 := hb17
  have P_21 := Lib.hid (Bl.to P_12.out hq20)
  have Q_22 := Lib.hid (Bl.to Q_13.out hq20)
  have H_23 := Lib.hid (Bl.to H_14.out hq20)
  have S_24 := Lib.hid (Bl.to S_16.out hq20)
  have HB_25 : Hid (Below w.heap.size w x18) := Lib.hid (HB_15.out.trans (hq20.mono HB_15.out.size))
  clear hq20
  have R_26 := Lib.hid hn19
  clear hb17 hn19
  go_wp2_with fail
  refine (same_b _ _ S S true _ S_24.out R_26.out (by simp)).mono ?_
  rintro e x28 ⟨rfl, hb27⟩
  have hq29 : Below x18.heap.size x18 x28 := hb27
  have P_30 := Lib.hid (Bl.to P_21.out hq29)
  have Q_31 := Lib.hid (Bl.to Q_22.out hq29)
  have H_32 := Lib.hid (Bl.to H_23.out hq29)
  have S_33 := Lib.hid (Bl.to S_24.out hq29)
  have R_34 := Lib.hid (Bl.to R_26.out hq29)
  have HB_35 : Hid (Below w.heap.size w x28) := Lib.hid (HB_25.out.trans (hq29.mono HB_25.out.size))
  clear hq29
  clear hb27
  go_wp2_with fail
  refine (GR.out _ _ H_32.out).mono ?_
  rintro e x37 ⟨gv, rfl, hn38, hb36⟩
  have hq39 : Below x28.heap.size x28 x37 := hb36
  have P_40 := Lib.hid (Bl.to P_30.out hq39)
  have Q_41 := Lib.hid (Bl.to Q_31.out hq39)
  have H_42 := Lib.hid (Bl.to H_32.out hq39)
  have S_43 := Lib.hid (Bl.to S_33.out hq39)
  have HB_44 : Hid (Below w.heap.size w x37) := Lib.hid (HB_35.out.trans (hq39.mono HB_35.out.size))
  clear hq39
  have G_45 := Lib.hid hn38
  clear hb36 hn38
  go_wp2_with fail
  refine (same_b _ _ P (PT ++ parL PT) b _ P_40.out G_45.out.bl GC.out).mono ?_
  rintro e x47 ⟨rfl, hb46⟩
  have hq48 : Below x37.heap.size x37 x47 := hb46
  have P_49 := Lib.hid (Bl.to P_40.out hq48)
  have Q_50 := Lib.hid (Bl.to Q_41.out hq48)
  have S_51 := Lib.hid (Bl.to S_43.out hq48)
  have G_52 := Lib.hid (OwnB.to G_45.out hq48)
  have HB_53 : Hid (Below w.heap.size w x47) := Lib.hid (HB_44.out.trans (hq48.mono HB_44.out.size))
  clear hq48
  clear hb46
  go_wp2_with fail
  obtain ⟨wz, hwz⟩ : ∃ wz, x47.alloc (.cells zc 33) = wz := ⟨_, rfl⟩
  have hq : Below x47.heap.size x47 wz := by rw [← hwz]; exact (Below.refl _ _).alloc (Nat.le_refl _) _
  have OZ := Lib.hid (own_zeros x47 3 (by decide)).bl
  rw [show 3 * 8 = 24 from rfl, ZC.out, hwz, ZR.out] at OZ
  rw [hwz]
  clear hwz hmk
  obtain ⟨gz, hgz⟩ : ∃ gz, x47.heap.size = gz := ⟨_, rfl⟩
  rw [hgz] at OZ ⊢
  clear hgz
  have hq54 : Below x47.heap.size x47 wz := hq
  have P_55 := Lib.hid (Bl.to P_49.out hq54)
  have Q_56 := Lib.hid (Bl.to Q_50.out hq54)
  have S_57 := Lib.hid (Bl.to S_51.out hq54)
  have HB_58 : Hid (Below w.heap.size w wz) := Lib.hid (HB_53.out.trans (hq54.mono HB_53.out.size))
  clear hq54
  clear hq
  refine (same_b _ _ S Z b _ S_57.out OZ.out SC.out).mono ?_
  rintro e x60 ⟨rfl, hb59⟩
  have hq61 : Below wz.heap.size wz x60 := hb59
  have P_62 := Lib.hid (Bl.to P_55.out hq61)
  have Q_63 := Lib.hid (Bl.to Q_56.out hq61)
  have S_64 := Lib.hid (Bl.to S_57.out hq61)
  have Z_65 := Lib.hid (Bl.to OZ.out hq61)
  have HB_66 : Hid (Below w.heap.size w x60) := Lib.hid (HB_58.out.trans (hq61.mono HB_58.out.size))
  clear hq61
  clear hb59
  go_wp2_with fail
  go_loopw [8, 9] (fun vs q wr => ∃ i : Nat, i ≤ M ∧ q = .int .i64 (i : Int) ∧ Hid (Below x60.heap.size x60 wr ∧ OwnB wr x60.heap.size vs (upto (sumF P Q) i))) (fun _ q _ => M - (intOf q).toNat)
  case atStart => exact ⟨0, Nat.zero_le _, rfl, Lib.hid ⟨Below.refl _ _, fun d hd => (by cases hd), World.ownsRow_nil _ _ _ _⟩⟩
  case round =>
    obtain ⟨i, hi, rfl, H⟩ := hrel
    by_cases hlt : i < M
    · have hiI : (i : Int) < (M : Int) := by omega
      obtain ⟨y1, y2⟩ := H.out
      have HHB := Lib.hid y1
      have HO1 := Lib.hid y2
      have MPi := Lib.hid (Bl.to P_62.out y1)
      have MQi := Lib.hid (Bl.to Q_63.out y1)
      have la : i < P.length := by rw [NN.out]; exact hlt
      have lb : i < Q.length := by rw [MM.out]; exact hlt
      obtain ⟨b', o', c', eq', -, -, -⟩ := MQi.out.at_ (by omega)
      rw [MM.out] at eq'
      injection eq' with eq1 eq2 eq3
      subst eq1
      clear eq2 eq3
      have ax := MPi.out.at8 la
      have bx := MQi.out.at8 lb
      obtain ⟨a, hA⟩ : ∃ a, P.getD i [] = a := ⟨_, rfl⟩
      obtain ⟨d, hB⟩ : ∃ d, Q.getD i [] = d := ⟨_, rfl⟩
      have a8 : B8 a := by rw [← hA, getD_in la]; exact OK.out _ (List.getElem_mem la)
      have d8 : B8 d := by rw [← hB, getD_in lb]; exact OKQ.out _ (List.getElem_mem lb)
      rw [hA] at ax
      rw [hB] at bx
      have HAA := Lib.hid hA
      have HBB := Lib.hid hB
      have HAX := Lib.hid ax
      have HBX := Lib.hid bx
      obtain ⟨sx, hsx⟩ : ∃ s, xorB a d = s := ⟨_, rfl⟩
      have s8 : B8 sx := hsx ▸ xorB_ok a8 d8
      have SX := Lib.hid hsx
      have US : Hid (upto (sumF P Q) (i + 1) = upto (sumF P Q) i ++ [sx]) := Lib.hid (by rw [upto_succ, sumF, hA, hB, hsx])
      clear y1 y2 ax bx hsx hA hB H la lb MPi MQi
      have AA := Lib.hid fun w' (hb : Below x60.heap.size x60 w') => (by
        have h := (Bl.to P_62.out hb).at8 (i := i) (by rw [NN.out]; exact hlt)
        exact h : At8 w' bp (op + i * 8) (P.getD i []))
      have BB := Lib.hid fun w' (hb : Below x60.heap.size x60 w') => (by
        have h := (Bl.to Q_63.out hb).at8 (i := i) (by rw [MM.out]; exact hlt)
        exact h : At8 w' b' (o' + i * 8) (Q.getD i []))
      rw [HAA.out] at AA
      rw [HBB.out] at BB
      go_wp2_with fail
      refine wp_region_held (P := Try.prog) (S := (fun w' : World => At8 w' bp (op + i * 8) a ∧ At8 w' b' (o' + i * 8) d)) rfl ?_
      change wpAnyH _ _ _ _ _ _ _ _ wr.drew
      have zhz2 : Below wr.heap.size wr wr.drew := (Below.refl wr.heap.size wr).drew
      generalize wr.drew = zwz1 at zhz2 ⊢
      have zhq3 : Below wr.heap.size wr zwz1 := zhz2
      have zS_4 := Lib.hid (OwnB.to HO1.out zhq3)
      have zA_5 := Lib.hid (At8.to HAX.out zhq3)
      have zB_6 := Lib.hid (At8.to HBX.out zhq3)
      have zHB_7 : Hid (Below x60.heap.size x60 zwz1) := Lib.hid (HHB.out.trans (zhq3.mono HHB.out.size))
      clear zhq3
      clear zhz2
      have zhS8 : (fun w' : World => At8 w' bp (op + i * 8) a ∧ At8 w' b' (o' + i * 8) d) zwz1 := ⟨zA_5.out, zB_6.out⟩
      refine takeD (i := 0) (v := u8) (some 78) rfl rfl (by kernel_rfl) (by kernel_rfl) (by kernel_rfl) (fun _ _ _ h => h) (Or.inl ⟨by rfl, by rintro w' -; go_simp⟩) zhS8 ?_
      simp only [Act.put, List.setIfInBounds_toArray, List.set_cons_zero, List.set_cons_succ]
      refine takeD (i := 1) (v := .slice (some ⟨bp, op, none⟩) M c) (some 79) rfl rfl (by kernel_rfl) (by kernel_rfl) (by kernel_rfl) (fun _ _ _ h => h) (Or.inl ⟨by rfl, by rintro w' -; go_simp⟩) zhS8 ?_
      simp only [Act.put, List.setIfInBounds_toArray, List.set_cons_zero, List.set_cons_succ]
      refine takeD (i := 2) (v := .int .i64 (i : Int)) (some 80) rfl rfl (by kernel_rfl) (by kernel_rfl) (by kernel_rfl) (fun _ _ _ h => h) (Or.inl ⟨by rfl, by rintro w' -; go_simp⟩) zhS8 ?_
      simp only [Act.put, List.setIfInBounds_toArray, List.set_cons_zero, List.set_cons_succ]
      refine takeD (i := 3) (v := .pointer (some ⟨bp, op + i * 8, none⟩)) (some 81) rfl rfl (by kernel_rfl) (by kernel_rfl) (by kernel_rfl) (fun _ _ _ h => h) (Or.inl ⟨by rfl, by rintro w' -; go_simp⟩) zhS8 ?_
      simp only [Act.put, List.setIfInBounds_toArray, List.set_cons_zero, List.set_cons_succ]
      refine takeD (i := 4) (v := .agg (bcs a)) (some 82) rfl rfl (by kernel_rfl) (by kernel_rfl) (by kernel_rfl) (fun _ _ _ h => h) (yieldsIf_load8 (by rfl) _ _ rfl _ _ rfl a _ (fun w' h => h.1) Try.underlying33 rfl (size8 a8.1)) zhS8 ?_
      simp only [Act.put, List.setIfInBounds_toArray, List.set_cons_zero, List.set_cons_succ]
      refine takeD (i := 5) (v := .slice (some ⟨b', o', none⟩) M c2) (some 83) rfl rfl (by kernel_rfl) (by kernel_rfl) (by kernel_rfl) (fun _ _ _ h => h) (Or.inl ⟨by rfl, by rintro w' -; go_simp⟩) zhS8 ?_
      simp only [Act.put, List.setIfInBounds_toArray, List.set_cons_zero, List.set_cons_succ]
      refine takeD (i := 6) (v := .int .i64 (i : Int)) (some 84) rfl rfl (by kernel_rfl) (by kernel_rfl) (by kernel_rfl) (fun _ _ _ h => h) (Or.inl ⟨by rfl, by rintro w' -; go_simp⟩) zhS8 ?_
      simp only [Act.put, List.setIfInBounds_toArray, List.set_cons_zero, List.set_cons_succ]
      refine takeD (i := 7) (v := .pointer (some ⟨b', o' + i * 8, none⟩)) (some 85) rfl rfl (by kernel_rfl) (by kernel_rfl) (by kernel_rfl) (fun _ _ _ h => h) (Or.inl ⟨by rfl, by rintro w' -; go_simp⟩) zhS8 ?_
      simp only [Act.put, List.setIfInBounds_toArray, List.set_cons_zero, List.set_cons_succ]
      refine takeD (i := 8) (v := .agg (bcs d)) (some 86) rfl rfl (by kernel_rfl) (by kernel_rfl) (by kernel_rfl) (fun _ _ _ h => h) (yieldsIf_load8 (by rfl) _ _ rfl _ _ rfl d _ (fun w' h => h.2) Try.underlying33 rfl (size8 d8.1)) zhS8 ?_
      simp only [Act.put, List.setIfInBounds_toArray, List.set_cons_zero, List.set_cons_succ]
      refine wpAnyH_ready (rs := [9]) (by kernel_rfl) (by simp) ?_
      refine AllReadyH.cons rfl (fun zK9 hzK9 => ?_) AllReadyH.nil
      have HzK9 := Lib.hid hzK9
      clear hzK9
      rw [if_pos (by rfl)]
      go_simp
      go_at_call 26
      refine (xor_b a d sx _ a8 d8 SX.out).mono ?_
      rintro e zx10 ⟨rfl, hb⟩
      have zhq11 : Below zwz1.heap.size zwz1 zx10 := hb
      have zS_12 := Lib.hid (OwnB.to zS_4.out zhq11)
      have zA_13 := Lib.hid (At8.to zA_5.out zhq11)
      have zB_14 := Lib.hid (At8.to zB_6.out zhq11)
      have zHB_15 : Hid (Below x60.heap.size x60 zx10) := Lib.hid (zHB_7.out.trans (zhq11.mono zHB_7.out.size))
      clear zhq11
      clear hb
      have zhS16 : (fun w' : World => At8 w' bp (op + i * 8) a ∧ At8 w' b' (o' + i * 8) d) zx10 := ⟨zA_13.out, zB_14.out⟩
      refine HzK9.out _ _ zhS16 fun _ => ?_
      try simp only [Act.put, List.setIfInBounds_toArray, List.set_cons_zero, List.set_cons_succ]
      refine wpAnyH_ready (rs := [10]) (by kernel_rfl) (by simp) ?_
      refine AllReadyH.cons rfl (fun zK17 hzK17 => ?_) AllReadyH.nil
      have HzK17 := Lib.hid hzK17
      clear hzK17
      rw [if_pos (by rfl)]
      refine wp_build1 _ rfl sx rfl s8 ?_
      obtain ⟨zx18, hxb⟩ : ∃ q, zx10.alloc (.cells (bcs sx) 33) = q := ⟨_, rfl⟩
      have hbx : Below zx10.heap.size zx10 zx18 := by rw [← hxb]; exact (Below.refl _ _).alloc (Nat.le_refl _) _
      have LIT : Hid (Bl zx18 (.slice (some ⟨zx10.heap.size, 0, none⟩) 1 1) [sx]) := Lib.hid (by rw [← hxb]; exact bl_one s8)
      obtain ⟨lb, hlb⟩ : ∃ q, zx10.heap.size = q := ⟨_, rfl⟩
      rw [hlb] at LIT
      rw [hxb, hlb]
      have zhq19 : Below zx10.heap.size zx10 zx18 := hbx
      have zS_20 := Lib.hid (OwnB.to zS_12.out zhq19)
      have zA_21 := Lib.hid (At8.to zA_13.out zhq19)
      have zB_22 := Lib.hid (At8.to zB_14.out zhq19)
      have zHB_23 : Hid (Below x60.heap.size x60 zx18) := Lib.hid (zHB_15.out.trans (zhq19.mono zHB_15.out.size))
      clear zhq19
      clear hbx hxb hlb
      have zhS24 : (fun w' : World => At8 w' bp (op + i * 8) a ∧ At8 w' b' (o' + i * 8) d) zx18 := ⟨zA_21.out, zB_22.out⟩
      refine HzK17.out _ _ zhS24 fun _ => ?_
      try simp only [Act.put, List.setIfInBounds_toArray, List.set_cons_zero, List.set_cons_succ]
      refine wpAnyH_ready (rs := [11]) (by kernel_rfl) (by simp) ?_
      refine AllReadyH.cons rfl (fun zK25 hzK25 => ?_) AllReadyH.nil
      have HzK25 := Lib.hid hzK25
      clear hzK25
      rw [if_pos (by rfl)]
      refine wp_push_bl (.tmp 78) (.tmp 88) rfl x60.heap.size u8 _ i sx lb 1 rfl zS_20.out (upto_length _ _) rfl LIT.out (by omega) zHB_23.out.size ?_
      intro gn cn zx26 ho hg hat hlt2
      have ZB : Hid (Below x60.heap.size x60 zx26) := Lib.hid (zHB_23.out.grown hg zHB_23.out.size (fun k e => (zS_20.out.lt k e).1))
      have ZS : Hid (OwnB zx26 x60.heap.size (.slice (some ⟨gn, 0, none⟩) (i + 1) cn) (upto (sumF P Q) (i + 1))) := Lib.hid (by rw [US.out]; exact ho)
      have ZA := Lib.hid (AA.out _ ZB.out)
      have ZD := Lib.hid (BB.out _ ZB.out)
      clear ho hg hat hlt2 LIT
      have zhS27 : (fun w' : World => At8 w' bp (op + i * 8) a ∧ At8 w' b' (o' + i * 8) d) zx26 := ⟨ZA.out, ZD.out⟩
      refine HzK25.out _ _ zhS27 fun _ => ?_
      try simp only [Act.put, List.setIfInBounds_toArray, List.set_cons_zero, List.set_cons_succ]
      refine takeD (i := 12) (v := .slice (some ⟨gn, 0, none⟩) (i + 1) cn) (some 8) rfl rfl (by kernel_rfl) (by kernel_rfl) (by kernel_rfl) (fun _ _ _ h => h) (Or.inl ⟨by rfl, by rintro w' -; go_simp⟩) zhS27 ?_
      simp only [Act.put, List.setIfInBounds_toArray, List.set_cons_zero, List.set_cons_succ]
      refine wpAnyH_done (by kernel_rfl) ?_ _
      go_wp2
      go_roundw
      case rel => exact ⟨i + 1, by omega, by go_num, Lib.hid ⟨ZB.out, ZS.out⟩⟩
      case measure => simp [intOf]; omega
    · obtain rfl : M = i := by omega
      obtain ⟨y1, y2⟩ := H.out
      have HSU := Lib.hid y2.bl
      have HBW : Hid (Below w.heap.size w wr) := Lib.hid (HB_66.out.trans (y1.mono HB_66.out.size))
      have KQ := Lib.hid (Bl.to Q_63.out y1)
      have KS := Lib.hid (Bl.to S_64.out y1)
      obtain ⟨A3, cA, eA⟩ := HSU.out.form
      rw [upto_length] at eA
      subst eA
      obtain ⟨U, hU⟩ : ∃ U, upto (sumF P Q) M = U := ⟨_, rfl⟩
      rw [hU] at SU SYS SUO HSU
      have SOU : Hid (∀ d ∈ synL U, B8 d) := Lib.hid (synL_ok SUO.out (by rw [← hU, upto_length]; omega))
      clear y1 y2 H hU
      go_wp2_with fail
      refine (SYQ.out _ _ KQ.out).mono ?_
      rintro e kx2 ⟨gt, rfl, khn3, khb1⟩
      have khq4 : Below wr.heap.size wr kx2 := khb1
      have kQ_5 := Lib.hid (Bl.to KQ.out khq4)
      have kS_6 := Lib.hid (Bl.to KS.out khq4)
      have kU_7 := Lib.hid (Bl.to HSU.out khq4)
      have kHB_8 : Hid (Below w.heap.size w kx2) := Lib.hid (HBW.out.trans (khq4.mono HBW.out.size))
      clear khq4
      have kT_9 := Lib.hid khn3
      clear khb1 khn3
      go_wp2_with fail
      refine (SYS.out _ _ kU_7.out).mono ?_
      rintro e kx11 ⟨gu, rfl, khn12, khb10⟩
      have khq13 : Below kx2.heap.size kx2 kx11 := khb10
      have kQ_14 := Lib.hid (Bl.to kQ_5.out khq13)
      have kS_15 := Lib.hid (Bl.to kS_6.out khq13)
      have kU_16 := Lib.hid (Bl.to kU_7.out khq13)
      have kT_17 := Lib.hid (Bl.to kT_9.out khq13)
      have kHB_18 : Hid (Below w.heap.size w kx11) := Lib.hid (kHB_8.out.trans (khq13.mono kHB_8.out.size))
      clear khq13
      have kV_19 := Lib.hid khn12
      clear khb10 khn12
      go_wp2_with fail
      go_loopw [14] (fun q wq => ∃ j : Nat, j ≤ 3 ∧ q = .int .i64 (j : Int) ∧ Hid (Below kx11.heap.size kx11 wq)) (fun q _ => 3 - (intOf q).toNat)
      case atStart => exact ⟨0, Nat.zero_le _, rfl, Lib.hid (Below.refl _ _)⟩
      case round =>
        obtain ⟨j, hj, rfl, H⟩ := hrel
        by_cases hlt : j < 3
        · have hjI : (j : Int) < 3 := by omega
          obtain ⟨p, hp⟩ : ∃ p, synB P j = p := ⟨_, rfl⟩
          obtain ⟨q, hq⟩ : ∃ q, synB Q j = q := ⟨_, rfl⟩
          obtain ⟨r, hr⟩ : ∃ r, synB U j = r := ⟨_, rfl⟩
          have p8 : B8 p := by rw [← hp, ← synL_at P hlt, SP.out, getD_in (by rw [← SP.out]; exact hlt)]; exact SO.out _ (List.getElem_mem _)
          have q8 : B8 q := by rw [← hq, ← synL_at Q hlt, getD_in (by exact hlt)]; exact SOQ.out _ (List.getElem_mem _)
          have r8 : B8 r := by rw [← hr, ← synL_at U hlt, getD_in (by exact hlt)]; exact SOU.out _ (List.getElem_mem _)
          have XE : Hid (xorB p q = r) := Lib.hid (by rw [← hp, ← hq, ← hr, SU.out j hlt])
          have AP := fun w' (h : Bl w' (.slice (some ⟨gs, 0, none⟩) 3 3) S) => (Bl.at8 h (i := j) (by rw [← SP.out]; exact hlt) : At8 w' gs (0 + j * 8) _)
          have AQ := fun w' (h : Bl w' (.slice (some ⟨gt, 0, none⟩) 3 3) (synL Q)) => (Bl.at8 h (i := j) (by exact hlt) : At8 w' gt (0 + j * 8) _)
          have AR := fun w' (h : Bl w' (.slice (some ⟨gu, 0, none⟩) 3 3) (synL U)) => (Bl.at8 h (i := j) (by exact hlt) : At8 w' gu (0 + j * 8) _)
          rw [← SP.out, synL_at _ hlt, Nat.zero_add, SP.out] at AP
          rw [synL_at _ hlt, Nat.zero_add] at AQ AR
          rw [hp] at AP
          rw [hq] at AQ
          rw [hr] at AR
          have HAP := Lib.hid AP
          have HAQ := Lib.hid AQ
          have HAR := Lib.hid AR
          have E1 := fun w' => neq8 r r r8 r8 w'
          simp only [decide_true, Bool.not_true] at E1
          have MS := Lib.hid (Bl.to kS_15.out H.out)
          have MT := Lib.hid (Bl.to kT_17.out H.out)
          have MU := Lib.hid (Bl.to kV_19.out H.out)
          clear AP AQ AR hp hq hr
          go_wp2_with fail
          refine wp_region_held (P := Try.prog) (S := (fun w' : World => Bl w' (.slice (some ⟨gs, 0, none⟩) 3 3) S ∧ Bl w' (.slice (some ⟨gt, 0, none⟩) 3 3) (synL Q) ∧ Bl w' (.slice (some ⟨gu, 0, none⟩) 3 3) (synL U))) rfl ?_
          change wpAnyH _ _ _ _ _ _ _ _ wr.drew
          have mhz2 : Below wr.heap.size wr wr.drew := (Below.refl wr.heap.size wr).drew
          generalize wr.drew = mwz1 at mhz2 ⊢
          have mhq3 : Below wr.heap.size wr mwz1 := mhz2
          have mS_4 := Lib.hid (Bl.to MS.out mhq3)
          have mT_5 := Lib.hid (Bl.to MT.out mhq3)
          have mU_6 := Lib.hid (Bl.to MU.out mhq3)
          have mHB_7 : Hid (Below kx11.heap.size kx11 mwz1) := Lib.hid (H.out.trans (mhq3.mono H.out.size))
          clear mhq3
          clear mhz2
          have mhS8 : (fun w' : World => Bl w' (.slice (some ⟨gs, 0, none⟩) 3 3) S ∧ Bl w' (.slice (some ⟨gt, 0, none⟩) 3 3) (synL Q) ∧ Bl w' (.slice (some ⟨gu, 0, none⟩) 3 3) (synL U)) mwz1 := ⟨mS_4.out, mT_5.out, mU_6.out⟩
          refine takeD (i := 0) (v := .slice (some ⟨gu, 0, none⟩) 3 3) (some 120) rfl rfl (by kernel_rfl) (by kernel_rfl) (by kernel_rfl) (fun _ _ _ h => h) (Or.inl ⟨by rfl, by rintro w' -; go_simp⟩) mhS8 ?_
          simp only [Act.put, List.setIfInBounds_toArray, List.set_cons_zero, List.set_cons_succ]
          refine takeD (i := 1) (v := .int .i64 (j : Int)) (some 121) rfl rfl (by kernel_rfl) (by kernel_rfl) (by kernel_rfl) (fun _ _ _ h => h) (Or.inl ⟨by rfl, by rintro w' -; go_simp⟩) mhS8 ?_
          simp only [Act.put, List.setIfInBounds_toArray, List.set_cons_zero, List.set_cons_succ]
          refine takeD (i := 2) (v := .pointer (some ⟨gu, j * 8, none⟩)) (some 122) rfl rfl (by kernel_rfl) (by kernel_rfl) (by kernel_rfl) (fun _ _ _ h => h) (Or.inl ⟨by rfl, by rintro w' -; go_simp⟩) mhS8 ?_
          simp only [Act.put, List.setIfInBounds_toArray, List.set_cons_zero, List.set_cons_succ]
          refine takeD (i := 3) (v := .agg (bcs r)) (some 123) rfl rfl (by kernel_rfl) (by kernel_rfl) (by kernel_rfl) (fun _ _ _ h => h) (yieldsIf_load8 (by rfl) _ _ rfl _ _ rfl r _ (fun w' h => HAR.out w' h.2.2) Try.underlying33 rfl (size8 r8.1)) mhS8 ?_
          simp only [Act.put, List.setIfInBounds_toArray, List.set_cons_zero, List.set_cons_succ]
          refine takeD (i := 4) (v := .slice (some ⟨gs, 0, none⟩) 3 3) (some 124) rfl rfl (by kernel_rfl) (by kernel_rfl) (by kernel_rfl) (fun _ _ _ h => h) (Or.inl ⟨by rfl, by rintro w' -; go_simp⟩) mhS8 ?_
          simp only [Act.put, List.setIfInBounds_toArray, List.set_cons_zero, List.set_cons_succ]
          refine takeD (i := 5) (v := .int .i64 (j : Int)) (some 125) rfl rfl (by kernel_rfl) (by kernel_rfl) (by kernel_rfl) (fun _ _ _ h => h) (Or.inl ⟨by rfl, by rintro w' -; go_simp⟩) mhS8 ?_
          simp only [Act.put, List.setIfInBounds_toArray, List.set_cons_zero, List.set_cons_succ]
          refine takeD (i := 6) (v := .pointer (some ⟨gs, j * 8, none⟩)) (some 126) rfl rfl (by kernel_rfl) (by kernel_rfl) (by kernel_rfl) (fun _ _ _ h => h) (Or.inl ⟨by rfl, by rintro w' -; go_simp⟩) mhS8 ?_
          simp only [Act.put, List.setIfInBounds_toArray, List.set_cons_zero, List.set_cons_succ]
          refine takeD (i := 7) (v := .agg (bcs p)) (some 127) rfl rfl (by kernel_rfl) (by kernel_rfl) (by kernel_rfl) (fun _ _ _ h => h) (yieldsIf_load8 (by rfl) _ _ rfl _ _ rfl p _ (fun w' h => HAP.out w' h.1) Try.underlying33 rfl (size8 p8.1)) mhS8 ?_
          simp only [Act.put, List.setIfInBounds_toArray, List.set_cons_zero, List.set_cons_succ]
          refine takeD (i := 8) (v := .slice (some ⟨gt, 0, none⟩) 3 3) (some 128) rfl rfl (by kernel_rfl) (by kernel_rfl) (by kernel_rfl) (fun _ _ _ h => h) (Or.inl ⟨by rfl, by rintro w' -; go_simp⟩) mhS8 ?_
          simp only [Act.put, List.setIfInBounds_toArray, List.set_cons_zero, List.set_cons_succ]
          refine takeD (i := 9) (v := .int .i64 (j : Int)) (some 129) rfl rfl (by kernel_rfl) (by kernel_rfl) (by kernel_rfl) (fun _ _ _ h => h) (Or.inl ⟨by rfl, by rintro w' -; go_simp⟩) mhS8 ?_
          simp only [Act.put, List.setIfInBounds_toArray, List.set_cons_zero, List.set_cons_succ]
          refine takeD (i := 10) (v := .pointer (some ⟨gt, j * 8, none⟩)) (some 130) rfl rfl (by kernel_rfl) (by kernel_rfl) (by kernel_rfl) (fun _ _ _ h => h) (Or.inl ⟨by rfl, by rintro w' -; go_simp⟩) mhS8 ?_
          simp only [Act.put, List.setIfInBounds_toArray, List.set_cons_zero, List.set_cons_succ]
          refine takeD (i := 11) (v := .agg (bcs q)) (some 131) rfl rfl (by kernel_rfl) (by kernel_rfl) (by kernel_rfl) (fun _ _ _ h => h) (yieldsIf_load8 (by rfl) _ _ rfl _ _ rfl q _ (fun w' h => HAQ.out w' h.2.1) Try.underlying33 rfl (size8 q8.1)) mhS8 ?_
          simp only [Act.put, List.setIfInBounds_toArray, List.set_cons_zero, List.set_cons_succ]
          refine wpAnyH_ready (rs := [12]) (by kernel_rfl) (by simp) ?_
          refine AllReadyH.cons rfl (fun mK9 hmK9 => ?_) AllReadyH.nil
          have HmK9 := Lib.hid hmK9
          clear hmK9
          rw [if_pos (by rfl)]
          go_simp
          go_at_call 26
          refine (xor_b p q r _ p8 q8 XE.out).mono ?_
          rintro e mx10 ⟨rfl, hb⟩
          have mhq11 : Below mwz1.heap.size mwz1 mx10 := hb
          have mS_12 := Lib.hid (Bl.to mS_4.out mhq11)
          have mT_13 := Lib.hid (Bl.to mT_5.out mhq11)
          have mU_14 := Lib.hid (Bl.to mU_6.out mhq11)
          have mHB_15 : Hid (Below kx11.heap.size kx11 mx10) := Lib.hid (mHB_7.out.trans (mhq11.mono mHB_7.out.size))
          clear mhq11
          clear hb
          have mhS16 : (fun w' : World => Bl w' (.slice (some ⟨gs, 0, none⟩) 3 3) S ∧ Bl w' (.slice (some ⟨gt, 0, none⟩) 3 3) (synL Q) ∧ Bl w' (.slice (some ⟨gu, 0, none⟩) 3 3) (synL U)) mx10 := ⟨mS_12.out, mT_13.out, mU_14.out⟩
          refine HmK9.out _ _ mhS16 fun _ => ?_
          try simp only [Act.put, List.setIfInBounds_toArray, List.set_cons_zero, List.set_cons_succ]
          refine takeD (i := 13) (v := .bool false) (some 133) rfl rfl (by kernel_rfl) (by kernel_rfl) (by kernel_rfl) (fun _ _ _ h => h) (Or.inl ⟨by rfl, by rintro w' -; go_simp⟩) mhS16 ?_
          simp only [Act.put, List.setIfInBounds_toArray, List.set_cons_zero, List.set_cons_succ]
          refine wpAnyH_done (by kernel_rfl) ?_ _
          go_wp2
          go_roundw
          case rel => exact ⟨j + 1, by omega, by go_num, mHB_15⟩
          case measure => simp [intOf]; omega
        · go_wp2
          go_ret
          exact ⟨rfl, kHB_18.out.trans (H.out.mono kHB_18.out.size)⟩
theorem syndromeslaw (v : Value) (P : List (List Nat)) (u : Value) (Q : List (List Nat)) (w : World) (h : Bl w v P) (hq0 : Bl w u Q) : Calls Try.prog 8 #[v, u] w (lawPost w) := by
  by_cases hl : 20 < P.length ∨ 20 < Q.length
  · exact syl_long v P u Q w h hq0 hl
  · by_cases h1 : P.length < 4 ∨ 16 < P.length
    · exact syl_arg v P u Q w h hq0 ⟨by omega, by omega, h1⟩
    · by_cases h2 : Q.length = P.length
      · exact syl_eq v P u Q w h hq0 ⟨by omega, by omega, h2⟩
      · exact syl_ne v P u Q w h hq0 ⟨by omega, by omega, by omega, h2⟩
end Go.Proofs.Ytheijobnmdbodaa
