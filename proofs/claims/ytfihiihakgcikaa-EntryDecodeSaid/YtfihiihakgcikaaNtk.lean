/- Layer 15: the walks of EntryEncode and EntryDecode. WRITTEN BY gen_Ntk.py. -/
import Derived.Test.YtfihiihakgcikaaNtj
namespace Go.Proofs.Ytfihiihakgcikaa
open Go Go.RowKit Ent
set_option linter.unusedVariables false
set_option linter.unusedSimpArgs false
set_option maxHeartbeats 4000000 in
set_option maxRecDepth 100000 in
theorem enclaw_yes (e : E) (t : Nat) (w : World) (hf : Fit e) (ht : t < 2 ^ 64) (ho : ok e) : Calls Try.prog 3 #[ev e, .int .u64 (t : Int)] w (lawPost w) := by
  have PE := Lib.hid fun w => penc_yes e t w hf ht ho
  have RN := Lib.hid fun w => renc_yes e t w hf ht ho
  have LN := Lib.hid (enc_len hf t)
  obtain ⟨l, hl⟩ : ∃ l, enc e t = l := ⟨_, rfl⟩
  rw [hl] at PE RN LN
  obtain ⟨B0, hB0⟩ : ∃ B, w.heap.size = B := ⟨_, rfl⟩
  obtain ⟨W0, hW0⟩ : ∃ W, w.alloc (.cells (ecs e).toArray 26) = W := ⟨_, rfl⟩
  have RE : Hid (Eb W0 B0 e) := Lib.hid (by rw [← hW0]; exact eb_new w _ hB0)
  have BW0 : Below w.heap.size w W0 := by rw [← hW0]; exact (Below.refl _ _).alloc (Nat.le_refl _) _
  have SE := Lib.hid (ent_info hf)
  have EVE : Hid (ev e = .agg (ecs e).toArray) := Lib.hid rfl
  have HB0 := Lib.hid hB0
  have HW0 := Lib.hid hW0
  have HF := Lib.hid hf
  obtain ⟨C, hC⟩ : ∃ C, ecs e = C := ⟨_, rfl⟩
  have HC := Lib.hid hC
  rw [hC] at EVE SE HW0
  rw [EVE.out]
  rw [EVE.out] at PE RN
  clear hf ht ho hB0 hW0 hC hl
  go_enter Try.func3, Try.ntmps3
  have RG0 := Lib.hid (RE.out.rng)
  rw [HC.out] at RG0
  go_wp2_with (first | rw [HB0.out] | rw [HW0.out] | (refine wpList_load_want (by rfl) _ _ rfl B0 0 rfl C _ RG0.out Try.underlying26 rfl SE.out ?_))
  have xhl1 := BW0
  have xHT_2 : Hid (Below w.heap.size w W0) := Lib.hid (xhl1)
  clear BW0
  refine (PE.out _).mono ?_
  rintro e xx3 ⟨va, rfl, xhn5, xhb4⟩
  have xRE_6 := Lib.hid (Eb.below RE.out (xhb4))
  have xhl7 := xhb4
  have xHT_8 : Hid (Below w.heap.size w xx3) := Lib.hid (xHT_2.out.trans ((xhl7).mono xHT_2.out.size))
  have xfa_9 := Lib.hid ((xhn5).mono (Nat.le_refl _))
  clear xhb4 xhn5
  have RG1 := Lib.hid ((xRE_6.out).rng)
  rw [HC.out] at RG1
  go_wp2_with (first | (refine wpList_load_want (by rfl) _ _ rfl B0 0 rfl C _ RG1.out Try.underlying26 rfl SE.out ?_))
  refine (RN.out _).mono ?_
  rintro e xx10 ⟨vb, rfl, xhn12, xhb11⟩
  have xRE_13 := Lib.hid (Eb.below xRE_6.out (xhb11))
  have xfa_14 := Lib.hid (OwB.below xfa_9.out (xhb11))
  have xhl15 := xhb11
  have xHT_16 : Hid (Below w.heap.size w xx10) := Lib.hid (xHT_8.out.trans ((xhl15).mono xHT_8.out.size))
  have xfb_17 := Lib.hid ((xhn12).mono (Nat.le_refl _))
  clear xhb11 xhn12
  go_wp2_with fail
  refine (awake15_any _).mono ?_
  rintro e xx18 ⟨rfl, xhb19⟩
  have xRE_20 := Lib.hid (Eb.below xRE_13.out (xhb19))
  have xfa_21 := Lib.hid (OwB.below xfa_14.out (xhb19))
  have xfb_22 := Lib.hid (OwB.below xfb_17.out (xhb19))
  have xhl23 := xhb19
  have xHT_24 : Hid (Below w.heap.size w xx18) := Lib.hid (xHT_16.out.trans ((xhl23).mono xHT_16.out.size))
  clear xhb19 
  obtain ⟨Aa, ca, eva⟩ := (xfa_21.out).bs.form
  rw [LN.out] at eva
  have cva := conv_bs 27 5 9 Try.underlying27 Try.underlying5 Try.underlying9 (xfa_21.out).bs
  rw [eva] at cva
  subst eva
  obtain ⟨Ab, cb, evb⟩ := (xfb_22.out).bs.form
  rw [LN.out] at evb
  have cvb := conv_bs 27 5 9 Try.underlying27 Try.underlying5 Try.underlying9 (xfb_22.out).bs
  rw [evb] at cvb
  subst evb
  obtain ⟨ts, hts⟩ : ∃ t, strOf l = t := ⟨_, rfl⟩
  rw [hts] at cva cvb
  clear hts
  go_wp2_with fail
  go_ret
  exact ⟨rfl, xHT_24.out⟩
set_option maxHeartbeats 4000000 in
set_option maxRecDepth 100000 in
theorem enclaw_no (e : E) (t : Nat) (w : World) (hf : Fit e) (ht : t < 2 ^ 64) (ho : ¬ ok e) : Calls Try.prog 3 #[ev e, .int .u64 (t : Int)] w (lawPost w) := by
  have PE := Lib.hid fun w => penc_no e t w hf ht ho
  have RN := Lib.hid fun w => renc_no e t w hf ht ho
  obtain ⟨B0, hB0⟩ : ∃ B, w.heap.size = B := ⟨_, rfl⟩
  obtain ⟨W0, hW0⟩ : ∃ W, w.alloc (.cells (ecs e).toArray 26) = W := ⟨_, rfl⟩
  have RE : Hid (Eb W0 B0 e) := Lib.hid (by rw [← hW0]; exact eb_new w _ hB0)
  have BW0 : Below w.heap.size w W0 := by rw [← hW0]; exact (Below.refl _ _).alloc (Nat.le_refl _) _
  have SE := Lib.hid (ent_info hf)
  have EVE : Hid (ev e = .agg (ecs e).toArray) := Lib.hid rfl
  have HB0 := Lib.hid hB0
  have HW0 := Lib.hid hW0
  have HF := Lib.hid hf
  obtain ⟨C, hC⟩ : ∃ C, ecs e = C := ⟨_, rfl⟩
  have HC := Lib.hid hC
  rw [hC] at EVE SE HW0
  rw [EVE.out]
  rw [EVE.out] at PE RN
  clear hf ht ho hB0 hW0 hC
  go_enter Try.func3, Try.ntmps3
  have RG0 := Lib.hid (RE.out.rng)
  rw [HC.out] at RG0
  go_wp2_with (first | rw [HB0.out] | rw [HW0.out] | (refine wpList_load_want (by rfl) _ _ rfl B0 0 rfl C _ RG0.out Try.underlying26 rfl SE.out ?_))
  have xhl1 := BW0
  have xHT_2 : Hid (Below w.heap.size w W0) := Lib.hid (xhl1)
  clear BW0
  refine (PE.out _).mono ?_
  rintro e xx3 ⟨rfl, xhb4⟩
  have xRE_5 := Lib.hid (Eb.below RE.out (xhb4))
  have xhl6 := xhb4
  have xHT_7 : Hid (Below w.heap.size w xx3) := Lib.hid (xHT_2.out.trans ((xhl6).mono xHT_2.out.size))
  clear xhb4 
  have RG1 := Lib.hid ((xRE_5.out).rng)
  rw [HC.out] at RG1
  go_wp2_with (first | (refine wpList_load_want (by rfl) _ _ rfl B0 0 rfl C _ RG1.out Try.underlying26 rfl SE.out ?_))
  refine (RN.out _).mono ?_
  rintro e xx8 ⟨rfl, xhb9⟩
  have xRE_10 := Lib.hid (Eb.below xRE_5.out (xhb9))
  have xhl11 := xhb9
  have xHT_12 : Hid (Below w.heap.size w xx8) := Lib.hid (xHT_7.out.trans ((xhl11).mono xHT_7.out.size))
  clear xhb9 
  go_wp2_with fail
  refine (awake15_any _).mono ?_
  rintro e xx13 ⟨rfl, xhb14⟩
  have xRE_15 := Lib.hid (Eb.below xRE_10.out (xhb14))
  have xhl16 := xhb14
  have xHT_17 : Hid (Below w.heap.size w xx13) := Lib.hid (xHT_12.out.trans ((xhl16).mono xHT_12.out.size))
  clear xhb14 
  have cv := conv_bs 27 5 9 Try.underlying27 Try.underlying5 Try.underlying9 (Bs.nil_ xx13)
  obtain ⟨ts, hts⟩ : ∃ t, strOf [] = t := ⟨_, rfl⟩
  rw [hts] at cv
  clear hts
  go_wp2_with fail
  go_ret
  exact ⟨rfl, xHT_17.out⟩
theorem enclaw_walk (e : E) (t : Nat) (w : World) (hf : Fit e) (ht : t < 2 ^ 64) : Calls Try.prog 3 #[ev e, .int .u64 (t : Int)] w (lawPost w) := by
  by_cases ho : ok e
  · exact enclaw_yes e t w hf ht ho
  · exact enclaw_no e t w hf ht ho
set_option maxHeartbeats 4000000 in
set_option maxRecDepth 100000 in
theorem declaw_walk (v : Value) (b : List Nat) (w : World) (hb : Bs w v b) : Calls Try.prog 4 #[v] w (lawPost w) := by
  have PD := Lib.hid fun w' (h : Bs w' v b) => pdec_any v b w' h
  have RD := Lib.hid fun w' (h : Bs w' v b) => rdec_any v b w' h
  have FV := Lib.hid (decV_fit hb.lt)
  have F0 := Lib.hid hb
  have EQ := Lib.hid (eeql (decV b) (decV b) FV.out FV.out)
  rw [show decide (decV b = decV b) = true from decide_eq_true rfl] at EQ
  unfold decPost at PD RD
  obtain ⟨Z, hzZ⟩ : ∃ Z, (ecs (decV b)).toArray = Z := ⟨_, rfl⟩
  have EQZ := Lib.hid hzZ
  have SIZ : Hid ((Try.prog.info? 26).map (·.size) = some Z.size) := Lib.hid (by rw [← hzZ]; exact (ent_info FV.out).trans (congrArg some List.size_toArray.symm))
  have ONZ : Hid (Z.all (·.oneCell') = true) := Lib.hid (by rw [← hzZ]; exact all_oneCell_toArray (ecs_one _))
  have EVZ : Hid (ev (decV b) = .agg Z) := Lib.hid (by rw [← hzZ]; rfl)
  clear hzZ
  rw [EVZ.out] at PD RD EQ
  have eq := EQ.out
  have gu := eguardE
  obtain ⟨A, c, rfl⟩ := hb.form
  obtain ⟨n, hn⟩ : ∃ n, b.length = n := ⟨_, rfl⟩
  rw [hn] at PD RD F0 ⊢
  obtain ⟨x1, hx1⟩ : ∃ x, decT b = x := ⟨_, rfl⟩
  obtain ⟨x2, hx2⟩ : ∃ x, decE b = x := ⟨_, rfl⟩
  rw [hx1, hx2] at PD RD
  clear hb hn hx1 hx2
  go_enter Try.func4, Try.ntmps4
  go_wp2_with fail
  refine (PD.out _ F0.out).mono ?_
  rintro e xx1 ⟨rfl, xhb2⟩
  have xF0_3 := Lib.hid (Bs.below F0.out (xhb2))
  have xhl4 := xhb2
  have xHT_5 : Hid (Below w.heap.size w xx1) := Lib.hid (xhl4)
  clear xhb2 
  obtain ⟨b1, W1a, W1, hb1, ha1, hw1, th1, re1, bl1⟩ := ent_made xx1 (decV b) FV.out
  have HB1 := Lib.hid hb1
  have HA1 := Lib.hid ha1
  have RE1 := Lib.hid re1
  have BLA1 := Lib.hid bl1
  have HW1 : Hid (W1a.setCells b1 0 Z.toList = W1) := Lib.hid (by rw [← EQZ.out]; exact hw1)
  have TH1 : Hid (W1a.there b1 0 Z.size) := Lib.hid (by rw [← EQZ.out]; exact th1)
  clear hb1 ha1 hw1 th1 re1 bl1
  have xF0_6 := Lib.hid (Bs.below xF0_3.out (BLA1.out))
  have xhl7 := BLA1.out
  have xHT_8 : Hid (Below w.heap.size w W1) := Lib.hid (xHT_5.out.trans ((xhl7).mono xHT_5.out.size))
  go_wp2_with (first | rw [HA1.out, HB1.out] | (refine wpList_store_mid rfl _ _ _ rfl b1 0 Z rfl rfl TH1.out SIZ.out ONZ.out ?_; rw [HW1.out]))
  refine (RD.out _ xF0_6.out).mono ?_
  rintro e xx9 ⟨rfl, xhb10⟩
  have xF0_11 := Lib.hid (Bs.below xF0_6.out (xhb10))
  have xRE1_12 := Lib.hid (Eb.below RE1.out (xhb10))
  have xhl13 := xhb10
  have xHT_14 : Hid (Below w.heap.size w xx9) := Lib.hid (xHT_8.out.trans ((xhl13).mono xHT_8.out.size))
  clear xhb10 
  obtain ⟨b2, W2a, W2, hb2, ha2, hw2, th2, re2, bl2⟩ := ent_made xx9 (decV b) FV.out
  have HB2 := Lib.hid hb2
  have HA2 := Lib.hid ha2
  have RE2 := Lib.hid re2
  have BLA2 := Lib.hid bl2
  have HW2 : Hid (W2a.setCells b2 0 Z.toList = W2) := Lib.hid (by rw [← EQZ.out]; exact hw2)
  have TH2 : Hid (W2a.there b2 0 Z.size) := Lib.hid (by rw [← EQZ.out]; exact th2)
  clear hb2 ha2 hw2 th2 re2 bl2
  have xF0_15 := Lib.hid (Bs.below xF0_11.out (BLA2.out))
  have xRE1_16 := Lib.hid (Eb.below xRE1_12.out (BLA2.out))
  have xhl17 := BLA2.out
  have xHT_18 : Hid (Below w.heap.size w W2) := Lib.hid (xHT_14.out.trans ((xhl17).mono xHT_14.out.size))
  go_wp2_with (first | rw [HA2.out, HB2.out] | (refine wpList_store_mid rfl _ _ _ rfl b2 0 Z rfl rfl TH2.out SIZ.out ONZ.out ?_; rw [HW2.out]))
  refine (awake15_any _).mono ?_
  rintro e xx19 ⟨rfl, xhb20⟩
  have xF0_21 := Lib.hid (Bs.below xF0_15.out (xhb20))
  have xRE1_22 := Lib.hid (Eb.below xRE1_16.out (xhb20))
  have xRE2_23 := Lib.hid (Eb.below RE2.out (xhb20))
  have xhl24 := xhb20
  have xHT_25 : Hid (Below w.heap.size w xx19) := Lib.hid (xHT_18.out.trans ((xhl24).mono xHT_18.out.size))
  clear xhb20 
  obtain ⟨CL, hCL⟩ : ∃ L, ecs (decV b) = L := ⟨_, rfl⟩
  have HCL := Lib.hid hCL
  clear hCL
  have CZ : Hid (CL.toArray = Z) := Lib.hid (by rw [← HCL.out]; exact EQZ.out)
  have SCL := Lib.hid (ent_info FV.out)
  rw [HCL.out] at SCL
  have RG1 := Lib.hid ((xRE1_22.out).rng)
  rw [HCL.out] at RG1
  have RG2 := Lib.hid ((xRE2_23.out).rng)
  rw [HCL.out] at RG2
  go_wp2_with (first | rw [CZ.out] | (refine wpList_load_want (by rfl) _ _ rfl b1 0 rfl CL _ RG1.out Try.underlying26 rfl SCL.out ?_) | (refine wpList_load_want (by rfl) _ _ rfl b2 0 rfl CL _ RG2.out Try.underlying26 rfl SCL.out ?_))
  go_ret
  exact ⟨rfl, xHT_25.out⟩
end Go.Proofs.Ytfihiihakgcikaa
