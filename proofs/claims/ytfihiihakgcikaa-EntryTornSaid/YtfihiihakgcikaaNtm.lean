/- Layer 15: the walks of EntryChanged and EntryTorn. WRITTEN BY gen_Ntm.py. -/
import Derived.Test.YtfihiihakgcikaaNtl
namespace Go.Proofs.Ytfihiihakgcikaa
open Go Go.RowKit Ent
set_option linter.unusedVariables false
set_option linter.unusedSimpArgs false
theorem rem_nat (a m : Nat) : ((a : Int) % (m : Int)) = ((a % m : Nat) : Int) := rfl
theorem add_u8e (x y : Nat) : IntKind.u8.wrap ((x : Int) + (y : Int)) = (((x + y) % 256 : Nat) : Int) := by rw [IntKind.wrap_u8]; omega
/-- A row that is made stays. -/
theorem row_made (w : World) (cs : Array Value) (t : TypeId) : ∃ (b : Nat) (W : World), w.heap.size = b ∧ w.alloc (.cells cs t) = W ∧ Row W b t cs ∧ Below w.heap.size w W := ⟨_, _, rfl, rfl, heap_alloc_new w _, (Below.refl _ _).alloc (Nat.le_refl _) _⟩
set_option maxHeartbeats 4000000 in
set_option maxRecDepth 100000 in
theorem tornlaw_yes (e : E) (t n : Nat) (w : World) (hf : Fit e) (ht : t < 2 ^ 64) (hn : n < 256) (ho : ok e) : Calls Try.prog 8 #[ev e, .int .u64 (t : Int), .int .u8 (n : Int)] w (lawPost w) := by
  have HFE := Lib.hid hf
  have RN := Lib.hid fun w => renc_yes e t w hf ht ho
  have LN := Lib.hid (enc_len hf t)
  obtain ⟨b, hb⟩ : ∃ l, enc e t = l := ⟨_, rfl⟩
  rw [hb] at RN LN
  obtain ⟨k, hk⟩ : ∃ k, n % 37 = k := ⟨_, rfl⟩
  have k37 : k < 37 := by omega
  have HK := Lib.hid (show ((n : Int) % 37) = ((k : Nat) : Int) by omega)
  have hne : (b.take k).length ≠ 37 := by rw [List.length_take, LN.out]; omega
  have D5 := decE_len hne
  have DV := decV_bad (b := b.take k) (by rw [D5]; decide)
  have PD := Lib.hid fun w' v (h : Bs w' v (b.take k)) => pdec_any v _ w' h
  unfold decPost at PD
  rw [D5, DV.1, DV.2] at PD
  obtain ⟨Z, hzZ⟩ : ∃ Z, (ecs ez).toArray = Z := ⟨_, rfl⟩
  have EQZ := Lib.hid hzZ
  have SIZ : Hid ((Try.prog.info? 26).map (·.size) = some Z.size) := Lib.hid (by rw [← hzZ]; exact (ent_info ez_fit).trans (congrArg some List.size_toArray.symm))
  have ONZ : Hid (Z.all (·.oneCell') = true) := Lib.hid (by rw [← hzZ]; exact all_oneCell_toArray (ecs_one _))
  have EVZ : Hid (ev ez = .agg Z) := Lib.hid (by rw [← hzZ]; rfl)
  clear hzZ
  rw [EVZ.out] at PD
  obtain ⟨B0, hB0⟩ : ∃ B, w.heap.size = B := ⟨_, rfl⟩
  obtain ⟨W0, hW0⟩ : ∃ W, w.alloc (.cells (ecs e).toArray 26) = W := ⟨_, rfl⟩
  have RE : Hid (Eb W0 B0 e) := Lib.hid (by rw [← hW0]; exact eb_new w _ hB0)
  have BW0 : Below w.heap.size w W0 := by rw [← hW0]; exact (Below.refl _ _).alloc (Nat.le_refl _) _
  have SE := Lib.hid (ent_info hf)
  have EVE : Hid (ev e = .agg (ecs e).toArray) := Lib.hid rfl
  have HB0 := Lib.hid hB0
  have HW0 := Lib.hid hW0
  have HF := Lib.hid hf
  obtain ⟨C, hC⟩ : ∃ C, ecs e = C := ⟨_, rfl⟩
  have HC := Lib.hid hC
  rw [hC] at EVE SE HW0
  rw [EVE.out]
  rw [EVE.out] at RN
  clear hf ht ho hB0 hW0 hC hb hk hne D5 DV
  go_enter Try.func8, Try.ntmps8
  have RG0 := Lib.hid (RE.out.rng)
  rw [HC.out] at RG0
  go_wp2_with (first | rw [HB0.out] | rw [HW0.out] | (refine wpList_load_want (by rfl) _ _ rfl B0 0 rfl C _ RG0.out Try.underlying26 rfl SE.out ?_))
  have xhl1 := BW0
  have xHT_2 : Hid (Below w.heap.size w W0) := Lib.hid (xhl1)
  clear BW0
  refine (RN.out _).mono ?_
  rintro e xx3 ⟨v1, rfl, xhn5, xhb4⟩
  have xRE_6 := Lib.hid (Eb.below RE.out (xhb4))
  have xhl7 := xhb4
  have xHT_8 : Hid (Below w.heap.size w xx3) := Lib.hid (xHT_2.out.trans ((xhl7).mono xHT_2.out.size))
  have xf1_9 := Lib.hid ((xhn5).bs)
  clear xhb4 xhn5
  obtain ⟨g1, off1, c1, ev1, hc1⟩ := form37 xf1_9.out LN.out
  subst ev1
  go_wp2_with fail
  refine (awake15_any _).mono ?_
  rintro e xx10 ⟨rfl, xhb11⟩
  have xRE_12 := Lib.hid (Eb.below xRE_6.out (xhb11))
  have xf1_13 := Lib.hid (Bs.below xf1_9.out (xhb11))
  have xhl14 := xhb11
  have xHT_15 : Hid (Below w.heap.size w xx10) := Lib.hid (xHT_8.out.trans ((xhl14).mono xHT_8.out.size))
  clear xhb11 
  have KK := cut_h (some ⟨g1, off1, none⟩) 37 c1 k (by omega) hc1
  have k1 := KK.1
  have k1' := KK.2
  clear KK
  go_wp2_with (first | rw [HK.out])
  refine (PD.out _ _ (bs_take xf1_13.out (by omega))).mono ?_
  rintro e xx16 ⟨rfl, xhb17⟩
  have xRE_18 := Lib.hid (Eb.below xRE_12.out (xhb17))
  have xf1_19 := Lib.hid (Bs.below xf1_13.out (xhb17))
  have xhl20 := xhb17
  have xHT_21 : Hid (Below w.heap.size w xx16) := Lib.hid (xHT_15.out.trans ((xhl20).mono xHT_15.out.size))
  clear xhb17 
  obtain ⟨b1, W1a, W1, hb1, ha1, hw1, th1, re1, bl1⟩ := ent_made xx16 ez ez_fit
  have HB1 := Lib.hid hb1
  have HA1 := Lib.hid ha1
  have RE1 := Lib.hid re1
  have BLA1 := Lib.hid bl1
  have HW1 : Hid (W1a.setCells b1 0 Z.toList = W1) := Lib.hid (by rw [← EQZ.out]; exact hw1)
  have TH1 : Hid (W1a.there b1 0 Z.size) := Lib.hid (by rw [← EQZ.out]; exact th1)
  clear hb1 ha1 hw1 th1 re1 bl1
  have xRE_22 := Lib.hid (Eb.below xRE_18.out (BLA1.out))
  have xf1_23 := Lib.hid (Bs.below xf1_19.out (BLA1.out))
  have xhl24 := BLA1.out
  have xHT_25 : Hid (Below w.heap.size w W1) := Lib.hid (xHT_21.out.trans ((xhl24).mono xHT_21.out.size))
  go_wp2_with (first | rw [HA1.out, HB1.out] | (refine wpList_store_mid rfl _ _ _ rfl b1 0 Z rfl rfl TH1.out SIZ.out ONZ.out ?_; rw [HW1.out]))
  go_ret
  exact ⟨rfl, xHT_25.out⟩
set_option maxHeartbeats 4000000 in
set_option maxRecDepth 100000 in
theorem tornlaw_no (e : E) (t n : Nat) (w : World) (hf : Fit e) (ht : t < 2 ^ 64) (hn : n < 256) (ho : ¬ ok e) : Calls Try.prog 8 #[ev e, .int .u64 (t : Int), .int .u8 (n : Int)] w (lawPost w) := by
  have HFE := Lib.hid hf
  have RN := Lib.hid fun w => renc_no e t w hf ht ho
  obtain ⟨B0, hB0⟩ : ∃ B, w.heap.size = B := ⟨_, rfl⟩
  obtain ⟨W0, hW0⟩ : ∃ W, w.alloc (.cells (ecs e).toArray 26) = W := ⟨_, rfl⟩
  have RE : Hid (Eb W0 B0 e) := Lib.hid (by rw [← hW0]; exact eb_new w _ hB0)
  have BW0 : Below w.heap.size w W0 := by rw [← hW0]; exact (Below.refl _ _).alloc (Nat.le_refl _) _
  have SE := Lib.hid (ent_info hf)
  have EVE : Hid (ev e = .agg (ecs e).toArray) := Lib.hid rfl
  have HB0 := Lib.hid hB0
  have HW0 := Lib.hid hW0
  have HF := Lib.hid hf
  obtain ⟨C, hC⟩ : ∃ C, ecs e = C := ⟨_, rfl⟩
  have HC := Lib.hid hC
  rw [hC] at EVE SE HW0
  rw [EVE.out]
  rw [EVE.out] at RN
  clear hf ht ho hB0 hW0 hC
  go_enter Try.func8, Try.ntmps8
  have RG0 := Lib.hid (RE.out.rng)
  rw [HC.out] at RG0
  go_wp2_with (first | rw [HB0.out] | rw [HW0.out] | (refine wpList_load_want (by rfl) _ _ rfl B0 0 rfl C _ RG0.out Try.underlying26 rfl SE.out ?_))
  have xhl1 := BW0
  have xHT_2 : Hid (Below w.heap.size w W0) := Lib.hid (xhl1)
  clear BW0
  refine (RN.out _).mono ?_
  rintro e xx3 ⟨rfl, xhb4⟩
  have xRE_5 := Lib.hid (Eb.below RE.out (xhb4))
  have xhl6 := xhb4
  have xHT_7 : Hid (Below w.heap.size w xx3) := Lib.hid (xHT_2.out.trans ((xhl6).mono xHT_2.out.size))
  clear xhb4 
  go_wp2_with fail
  refine (awake15_any _).mono ?_
  rintro e xx8 ⟨rfl, xhb9⟩
  have xRE_10 := Lib.hid (Eb.below xRE_5.out (xhb9))
  have xhl11 := xhb9
  have xHT_12 : Hid (Below w.heap.size w xx8) := Lib.hid (xHT_7.out.trans ((xhl11).mono xHT_7.out.size))
  clear xhb9 
  go_wp2_with fail
  refine (awake15_any _).mono ?_
  rintro e xx13 ⟨rfl, xhb14⟩
  have xRE_15 := Lib.hid (Eb.below xRE_10.out (xhb14))
  have xhl16 := xhb14
  have xHT_17 : Hid (Below w.heap.size w xx13) := Lib.hid (xHT_12.out.trans ((xhl16).mono xHT_12.out.size))
  clear xhb14 
  go_wp2_with fail
  go_ret
  exact ⟨rfl, xHT_17.out⟩
theorem tornlaw_walk (e : E) (t n : Nat) (w : World) (hf : Fit e) (ht : t < 2 ^ 64) (hn : n < 256) : Calls Try.prog 8 #[ev e, .int .u64 (t : Int), .int .u8 (n : Int)] w (lawPost w) := by
  by_cases ho : ok e
  · exact tornlaw_yes e t n w hf ht hn ho
  · exact tornlaw_no e t n w hf ht hn ho
set_option maxHeartbeats 4000000 in
set_option maxRecDepth 100000 in
theorem chglaw_no (e : E) (t a0 a1 : Nat) (w : World) (hf : Fit e) (ht : t < 2 ^ 64) (h0 : a0 < 256) (h2 : a1 < 256) (ho : ¬ ok e) : Calls Try.prog 7 #[ev e, .int .u64 (t : Int), .agg #[.int .u8 (a0 : Int), .int .u8 (a1 : Int)]] w (lawPost w) := by
  have HFE := Lib.hid hf
  have RN := Lib.hid fun w => renc_no e t w hf ht ho
  obtain ⟨B0, hB0⟩ : ∃ B, w.heap.size = B := ⟨_, rfl⟩
  obtain ⟨W0, hW0⟩ : ∃ W, w.alloc (.cells (ecs e).toArray 26) = W := ⟨_, rfl⟩
  have RE : Hid (Eb W0 B0 e) := Lib.hid (by rw [← hW0]; exact eb_new w _ hB0)
  have BW0 : Below w.heap.size w W0 := by rw [← hW0]; exact (Below.refl _ _).alloc (Nat.le_refl _) _
  have SE := Lib.hid (ent_info hf)
  have EVE : Hid (ev e = .agg (ecs e).toArray) := Lib.hid rfl
  have HB0 := Lib.hid hB0
  have HW0 := Lib.hid hW0
  have HF := Lib.hid hf
  obtain ⟨C, hC⟩ : ∃ C, ecs e = C := ⟨_, rfl⟩
  have HC := Lib.hid hC
  rw [hC] at EVE SE HW0
  rw [EVE.out]
  rw [EVE.out] at RN
  obtain ⟨b1, W1, hb1, hW1, hr1, hl1⟩ := row_made W0 #[.int .u8 (a0 : Int), .int .u8 (a1 : Int)] 40
  have HB1 := Lib.hid hb1
  have HW1 := Lib.hid hW1
  have RA := Lib.hid hr1
  have BL1 : Below w.heap.size w W1 := BW0.trans (hl1.mono BW0.size)
  have RE1 := Lib.hid (RE.out.below hl1)
  clear hf ht ho hB0 hW0 hC hb1 hW1 hr1 hl1 BW0 RE
  go_enter Try.func7, Try.ntmps7
  have RG0 := Lib.hid (RE1.out.rng)
  rw [HC.out] at RG0
  go_wp2_with (first | rw [HB0.out] | rw [HW0.out] | rw [HB1.out] | rw [HW1.out] | (refine wpList_load_want (by rfl) _ _ rfl B0 0 rfl C _ RG0.out Try.underlying26 rfl SE.out ?_))
  have xhl1 := BL1
  have xHT_2 : Hid (Below w.heap.size w W1) := Lib.hid (xhl1)
  clear BL1
  refine (RN.out _).mono ?_
  rintro e xx3 ⟨rfl, xhb4⟩
  have xRA_5 := Lib.hid (rw_fw RA.out (xhb4))
  have xhl6 := xhb4
  have xHT_7 : Hid (Below w.heap.size w xx3) := Lib.hid (xHT_2.out.trans ((xhl6).mono xHT_2.out.size))
  clear xhb4 
  go_wp2_with fail
  refine (awake15_any _).mono ?_
  rintro e xx8 ⟨rfl, xhb9⟩
  have xRA_10 := Lib.hid (rw_fw xRA_5.out (xhb9))
  have xhl11 := xhb9
  have xHT_12 : Hid (Below w.heap.size w xx8) := Lib.hid (xHT_7.out.trans ((xhl11).mono xHT_7.out.size))
  clear xhb9 
  have q1 := (xRA_10.out).cell 1
  have q0 := (xRA_10.out).cell 0
  simp only [List.getElem?_toArray, List.getElem?_cons_zero, List.getElem?_cons_succ] at q0 q1
  go_wp2_with fail
  refine (awake15_any _).mono ?_
  rintro e xx13 ⟨rfl, xhb14⟩
  have xRA_15 := Lib.hid (rw_fw xRA_10.out (xhb14))
  have xhl16 := xhb14
  have xHT_17 : Hid (Below w.heap.size w xx13) := Lib.hid (xHT_12.out.trans ((xhl16).mono xHT_12.out.size))
  clear xhb14 
  go_wp2_with fail
  go_ret
  exact ⟨rfl, xHT_17.out⟩
set_option maxHeartbeats 4000000 in
set_option maxRecDepth 100000 in
theorem chglaw_zero (e : E) (t a0 a1 : Nat) (w : World) (hf : Fit e) (ht : t < 2 ^ 64) (h0 : a0 < 256) (h2 : a1 < 256) (ho : ok e) (hne : a1 = 0) : Calls Try.prog 7 #[ev e, .int .u64 (t : Int), .agg #[.int .u8 (a0 : Int), .int .u8 (a1 : Int)]] w (lawPost w) := by
  have HFE := Lib.hid hf
  have RN := Lib.hid fun w => renc_yes e t w hf ht ho
  have h1 : ((a1 : Int) == 0) = true := by simp; omega
  clear hne
  obtain ⟨B0, hB0⟩ : ∃ B, w.heap.size = B := ⟨_, rfl⟩
  obtain ⟨W0, hW0⟩ : ∃ W, w.alloc (.cells (ecs e).toArray 26) = W := ⟨_, rfl⟩
  have RE : Hid (Eb W0 B0 e) := Lib.hid (by rw [← hW0]; exact eb_new w _ hB0)
  have BW0 : Below w.heap.size w W0 := by rw [← hW0]; exact (Below.refl _ _).alloc (Nat.le_refl _) _
  have SE := Lib.hid (ent_info hf)
  have EVE : Hid (ev e = .agg (ecs e).toArray) := Lib.hid rfl
  have HB0 := Lib.hid hB0
  have HW0 := Lib.hid hW0
  have HF := Lib.hid hf
  obtain ⟨C, hC⟩ : ∃ C, ecs e = C := ⟨_, rfl⟩
  have HC := Lib.hid hC
  rw [hC] at EVE SE HW0
  rw [EVE.out]
  rw [EVE.out] at RN
  obtain ⟨b1, W1, hb1, hW1, hr1, hl1⟩ := row_made W0 #[.int .u8 (a0 : Int), .int .u8 (a1 : Int)] 40
  have HB1 := Lib.hid hb1
  have HW1 := Lib.hid hW1
  have RA := Lib.hid hr1
  have BL1 : Below w.heap.size w W1 := BW0.trans (hl1.mono BW0.size)
  have RE1 := Lib.hid (RE.out.below hl1)
  clear hf ht ho hB0 hW0 hC hb1 hW1 hr1 hl1 BW0 RE
  go_enter Try.func7, Try.ntmps7
  have RG0 := Lib.hid (RE1.out.rng)
  rw [HC.out] at RG0
  go_wp2_with (first | rw [HB0.out] | rw [HW0.out] | rw [HB1.out] | rw [HW1.out] | (refine wpList_load_want (by rfl) _ _ rfl B0 0 rfl C _ RG0.out Try.underlying26 rfl SE.out ?_))
  have xhl1 := BL1
  have xHT_2 : Hid (Below w.heap.size w W1) := Lib.hid (xhl1)
  clear BL1
  refine (RN.out _).mono ?_
  rintro e xx3 ⟨v1, rfl, xhn5, xhb4⟩
  have xRA_6 := Lib.hid (rw_fw RA.out (xhb4))
  have xhl7 := xhb4
  have xHT_8 : Hid (Below w.heap.size w xx3) := Lib.hid (xHT_2.out.trans ((xhl7).mono xHT_2.out.size))
  have xf1_9 := Lib.hid (xhn5)
  clear xhb4 xhn5
  go_wp2_with fail
  refine (awake15_any _).mono ?_
  rintro e xx10 ⟨rfl, xhb11⟩
  have xRA_12 := Lib.hid (rw_fw xRA_6.out (xhb11))
  have xf1_13 := Lib.hid (OwB.below xf1_9.out (xhb11))
  have xhl14 := xhb11
  have xHT_15 : Hid (Below w.heap.size w xx10) := Lib.hid (xHT_8.out.trans ((xhl14).mono xHT_8.out.size))
  clear xhb11 
  have q1 := (xRA_12.out).cell 1
  have q0 := (xRA_12.out).cell 0
  simp only [List.getElem?_toArray, List.getElem?_cons_zero, List.getElem?_cons_succ] at q0 q1
  go_wp2_with fail
  refine (awake15_any _).mono ?_
  rintro e xx16 ⟨rfl, xhb17⟩
  have xRA_18 := Lib.hid (rw_fw xRA_12.out (xhb17))
  have xf1_19 := Lib.hid (OwB.below xf1_13.out (xhb17))
  have xhl20 := xhb17
  have xHT_21 : Hid (Below w.heap.size w xx16) := Lib.hid (xHT_15.out.trans ((xhl20).mono xHT_15.out.size))
  clear xhb17 
  go_wp2_with fail
  go_ret
  exact ⟨rfl, xHT_21.out⟩
set_option maxHeartbeats 4000000 in
set_option maxRecDepth 100000 in
theorem chglaw_yes (e : E) (t a0 a1 : Nat) (w : World) (hf : Fit e) (ht : t < 2 ^ 64) (h0 : a0 < 256) (h2 : a1 < 256) (ho : ok e) (hne : a1 ≠ 0) : Calls Try.prog 7 #[ev e, .int .u64 (t : Int), .agg #[.int .u8 (a0 : Int), .int .u8 (a1 : Int)]] w (lawPost w) := by
  have HFE := Lib.hid hf
  have RN := Lib.hid fun w => renc_yes e t w hf ht ho
  have LN := Lib.hid (enc_len hf t)
  have LT := Lib.hid (sld_lt (body_lt hf t))
  obtain ⟨j, hj⟩ : ∃ j, a0 % 37 = j := ⟨_, rfl⟩
  have j37 : j < 37 := by omega
  have jI : (j : Int) < 37 := by omega
  have HJ := Lib.hid (show ((a0 : Int) % 37) = ((j : Nat) : Int) by omega)
  have TM := Lib.hid (show (IntKind.i64.wrap (a0 : Int)).tmod 37 = ((j : Nat) : Int) by rw [i64_small (Nat.lt_trans h0 (by decide)), Int.tmod_eq_emod_of_nonneg (by omega)]; omega)
  obtain ⟨x, hx⟩ : ∃ x, (enc e t).getD j 0 = x := ⟨_, rfl⟩
  have x256 : x < 256 := by
    rw [← hx, getD_in (by rw [LN.out]; exact j37)]
    exact LT.out _ (List.getElem_mem _)
  obtain ⟨y, hy⟩ : ∃ y, (x + a1) % 256 = y := ⟨_, rfl⟩
  have HY := Lib.hid (add_u8e x a1)
  rw [hy] at HY
  have D6 : decE ((enc e t).set j y) = 6 := changed (body_len hf t) (body_lt hf t) j37 (by omega) (by
    show y ≠ (enc e t).getD j 0
    rw [hx]; omega)
  have DV := decV_bad (b := (enc e t).set j y) (by rw [D6]; decide)
  obtain ⟨b, hb⟩ : ∃ l, enc e t = l := ⟨_, rfl⟩
  rw [hb] at RN LN hx D6 DV
  have HX := Lib.hid hx
  have PD := Lib.hid fun w' v (h : Bs w' v (b.set j y)) => pdec_any v _ w' h
  unfold decPost at PD
  rw [D6, DV.1, DV.2] at PD
  have y256 : y < 256 := by omega
  have h1 : ((a1 : Int) == 0) = false := by simp; omega
  obtain ⟨Z, hzZ⟩ : ∃ Z, (ecs ez).toArray = Z := ⟨_, rfl⟩
  have EQZ := Lib.hid hzZ
  have SIZ : Hid ((Try.prog.info? 26).map (·.size) = some Z.size) := Lib.hid (by rw [← hzZ]; exact (ent_info ez_fit).trans (congrArg some List.size_toArray.symm))
  have ONZ : Hid (Z.all (·.oneCell') = true) := Lib.hid (by rw [← hzZ]; exact all_oneCell_toArray (ecs_one _))
  have EVZ : Hid (ev ez = .agg Z) := Lib.hid (by rw [← hzZ]; rfl)
  clear hzZ
  rw [EVZ.out] at PD
  obtain ⟨B0, hB0⟩ : ∃ B, w.heap.size = B := ⟨_, rfl⟩
  obtain ⟨W0, hW0⟩ : ∃ W, w.alloc (.cells (ecs e).toArray 26) = W := ⟨_, rfl⟩
  have RE : Hid (Eb W0 B0 e) := Lib.hid (by rw [← hW0]; exact eb_new w _ hB0)
  have BW0 : Below w.heap.size w W0 := by rw [← hW0]; exact (Below.refl _ _).alloc (Nat.le_refl _) _
  have SE := Lib.hid (ent_info hf)
  have EVE : Hid (ev e = .agg (ecs e).toArray) := Lib.hid rfl
  have HB0 := Lib.hid hB0
  have HW0 := Lib.hid hW0
  have HF := Lib.hid hf
  obtain ⟨C, hC⟩ : ∃ C, ecs e = C := ⟨_, rfl⟩
  have HC := Lib.hid hC
  rw [hC] at EVE SE HW0
  rw [EVE.out]
  rw [EVE.out] at RN
  obtain ⟨b1, W1, hb1, hW1, hr1, hl1⟩ := row_made W0 #[.int .u8 (a0 : Int), .int .u8 (a1 : Int)] 40
  have HB1 := Lib.hid hb1
  have HW1 := Lib.hid hW1
  have RA := Lib.hid hr1
  have BL1 : Below w.heap.size w W1 := BW0.trans (hl1.mono BW0.size)
  have RE1 := Lib.hid (RE.out.below hl1)
  clear hf ht ho hB0 hW0 hC hb1 hW1 hr1 hl1 BW0 RE hb hj hx hy D6 DV hne
  go_enter Try.func7, Try.ntmps7
  have RG0 := Lib.hid (RE1.out.rng)
  rw [HC.out] at RG0
  go_wp2_with (first | rw [HB0.out] | rw [HW0.out] | rw [HB1.out] | rw [HW1.out] | (refine wpList_load_want (by rfl) _ _ rfl B0 0 rfl C _ RG0.out Try.underlying26 rfl SE.out ?_))
  have xhl1 := BL1
  have xHT_2 : Hid (Below w.heap.size w W1) := Lib.hid (xhl1)
  clear BL1
  refine (RN.out _).mono ?_
  rintro e xx3 ⟨v1, rfl, xhn5, xhb4⟩
  have xRA_6 := Lib.hid (rw_fw RA.out (xhb4))
  have xhl7 := xhb4
  have xHT_8 : Hid (Below w.heap.size w xx3) := Lib.hid (xHT_2.out.trans ((xhl7).mono xHT_2.out.size))
  have xf1_9 := Lib.hid (xhn5)
  clear xhb4 xhn5
  obtain ⟨g1, off1, c1, ev1, hc1⟩ := form37 (xf1_9.out).bs LN.out
  subst ev1
  go_wp2_with fail
  refine (awake15_any _).mono ?_
  rintro e xx10 ⟨rfl, xhb11⟩
  have xRA_12 := Lib.hid (rw_fw xRA_6.out (xhb11))
  have xf1_13 := Lib.hid (OwB.below xf1_9.out (xhb11))
  have xhl14 := xhb11
  have xHT_15 : Hid (Below w.heap.size w xx10) := Lib.hid (xHT_8.out.trans ((xhl14).mono xHT_8.out.size))
  clear xhb11 
  have q1 := (xRA_12.out).cell 1
  have q0 := (xRA_12.out).cell 0
  simp only [List.getElem?_toArray, List.getElem?_cons_zero, List.getElem?_cons_succ] at q0 q1
  go_wp2_with fail
  have BD := below_drew15 xx10 1
  have O2 := Lib.hid (OwB.below xf1_13.out BD)
  have QA := Lib.hid (rw_fw xRA_12.out BD)
  obtain ⟨gq, oq, e1, hcell⟩ := Bs.nth (OwB.bs O2.out) rfl (k := j) j37
  injection e1 with e1
  injection e1 with e2 e3
  subst e2 e3
  clear q0 q1
  rw [HX.out] at hcell
  obtain ⟨w9, hw9⟩ : ∃ w9, xx10.drewN 1 = w9 := ⟨_, rfl⟩
  have HW9 := Lib.hid hw9
  rw [hw9] at hcell O2 QA BD
  have q1 := QA.out.cell 1
  have q0 := QA.out.cell 0
  simp only [List.getElem?_toArray, List.getElem?_cons_zero, List.getElem?_cons_succ] at q0 q1
  obtain ⟨O3, ⟨vo, s1⟩, s2, s3⟩ := O2.out.setb (y := y) j37 y256
  have O4 := Lib.hid O3
  have BF := Lib.hid BD
  have GG := Lib.hid s3
  clear hw9 BD O3 s3
  refine wp_region_still_tail 12 (by kernel_rfl) (by kernel_rfl) ?_
  simp only [List.take_succ_cons, List.take_zero, List.drop_succ_cons, List.drop_zero]
  change wpStill _ _ (xx10.drewN 1) _ _ _
  rw [HW9.out]
  iterate 7 still_step
  rw [TM.out]
  iterate 5 still_step
  refine wpStill_nil ?_
  change wpList _ _ _ _ _ (xx10.drewN 1)
  rw [HW9.out]
  have HS := Lib.hid (show (((x : Int) + (a1 : Int)) % 256) = ((y : Nat) : Int) by have := HY.out; rw [IntKind.wrap_u8] at this; exact this)
  obtain ⟨wA, hwA⟩ : ∃ wA, w9.setCell ⟨g1, off1 + j, none⟩ (.int .u8 (y : Int)) = wA := ⟨_, rfl⟩
  have OA := Lib.hid (OwB.bs O4.out)
  have BA : Hid (Below w.heap.size w wA) := Lib.hid (by rw [← hwA]; exact ((xHT_15.out).trans (BF.out.mono (xHT_15.out).size)).setCell (p := ⟨g1, off1 + j, none⟩) (Nat.le_trans xHT_2.out.size GG.out) _)
  rw [hwA] at OA
  have HWA := Lib.hid hwA
  clear hwA
  go_wp2_with (first | rw [HS.out] | rw [HWA.out])
  refine (PD.out _ _ OA.out).mono ?_
  rintro e xx16 ⟨rfl, xhb17⟩
  have xOA_18 := Lib.hid (Bs.below OA.out (xhb17))
  have xhl19 := xhb17
  have xHT_20 : Hid (Below w.heap.size w xx16) := Lib.hid (BA.out.trans ((xhl19).mono BA.out.size))
  clear xhb17 
  obtain ⟨b1, W1a, W1, hb1, ha1, hw1, th1, re1, bl1⟩ := ent_made xx16 ez ez_fit
  have HB1 := Lib.hid hb1
  have HA1 := Lib.hid ha1
  have RE1 := Lib.hid re1
  have BLA1 := Lib.hid bl1
  have HW1 : Hid (W1a.setCells b1 0 Z.toList = W1) := Lib.hid (by rw [← EQZ.out]; exact hw1)
  have TH1 : Hid (W1a.there b1 0 Z.size) := Lib.hid (by rw [← EQZ.out]; exact th1)
  clear hb1 ha1 hw1 th1 re1 bl1
  have xOA_21 := Lib.hid (Bs.below xOA_18.out (BLA1.out))
  have xhl22 := BLA1.out
  have xHT_23 : Hid (Below w.heap.size w W1) := Lib.hid (xHT_20.out.trans ((xhl22).mono xHT_20.out.size))
  go_wp2_with (first | rw [HA1.out, HB1.out] | (refine wpList_store_mid rfl _ _ _ rfl b1 0 Z rfl rfl TH1.out SIZ.out ONZ.out ?_; rw [HW1.out]))
  go_ret
  exact ⟨rfl, xHT_23.out⟩
theorem chglaw_walk (e : E) (t a0 a1 : Nat) (w : World) (hf : Fit e) (ht : t < 2 ^ 64) (h0 : a0 < 256) (h2 : a1 < 256) : Calls Try.prog 7 #[ev e, .int .u64 (t : Int), .agg #[.int .u8 (a0 : Int), .int .u8 (a1 : Int)]] w (lawPost w) := by
  by_cases ho : ok e
  · by_cases hne : a1 = 0
    · exact chglaw_zero e t a0 a1 w hf ht h0 h2 ho hne
    · exact chglaw_yes e t a0 a1 w hf ht h0 h2 ho hne
  · exact chglaw_no e t a0 a1 w hf ht h0 h2 ho
end Go.Proofs.Ytfihiihakgcikaa
