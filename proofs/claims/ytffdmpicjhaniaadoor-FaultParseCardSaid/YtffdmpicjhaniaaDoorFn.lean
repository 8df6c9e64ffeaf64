/- Layer 13: laws FaultValid, FaultAt, FaultWithin, FaultText, FaultParse. WRITTEN BY gen_Fn.py. -/
import Derived.Test.YtffdmpicjhaniaaDoorFm
import Derived.Test.YtffdmpicjhaniaaDoorGK
namespace Go.Proofs.YtffdmpicjhaniaaDoor
open Go Go.RowKit Flt
set_option linter.unusedVariables false
set_option linter.unusedSimpArgs false
theorem readable_txt {L : List F} (hf : fits L) (hl : L.length ≤ 1048576) : Readable (txt L) := by
  unfold txt
  by_cases h : vld L = true
  · rw [if_pos h]
    refine ⟨text_by L, Nat.le_trans (text_le _ fun f hm => ?_) (by omega)⟩
    have ft := hf f hm
    exact one_le (vldP_mem L (-1) h f hm) ft.1.2 ft.2.2.2
  · rw [if_neg h]; exact ⟨by decide, by decide⟩
theorem parse_nil : parse [] = some [] := rfl
set_option maxHeartbeats 4000000 in
set_option maxRecDepth 100000 in
theorem fvalid_walk (v : Value) (L : List F) (w : World) (h : Fts w v L) (hl : L.length * 24 ≤ 140737488351232) (T : Tab w) : Calls Tryd.prog 3 #[v] w (lawPost w) := by
  have HLN := Lib.hid hl
  have HTB := Lib.hid T
  have HF := Lib.hid h.fits
  have HO := Lib.hid h
  obtain ⟨A, cc, hv⟩ := h.form
  obtain ⟨n, hn⟩ : ∃ n, L.length = n := ⟨_, rfl⟩
  have EN := Lib.hid hn
  rw [hn] at hv
  subst hv
  clear h hl hn T
  go_enter Tryd.func3, Tryd.ntmps3
  go_wp2_with fail
  refine (awake13 _ HTB.out).mono ?_
  rintro e x1 ⟨rfl, hb2⟩
  have L_3 := Lib.hid (Fts.fw HO.out (hb2))
  have T_4 := Lib.hid (Tab.fw HTB.out (hb2))
  have hl5 := hb2
  have HT_6 : Hid (Below w.heap.size w x1) := Lib.hid (hl5)
  clear hb2 
  go_wp2_with fail
  refine (pvl_any _ _ _ L_3.out).mono ?_
  rintro e x7 ⟨rfl, hb8⟩
  have L_9 := Lib.hid (Fts.fw L_3.out (hb8))
  have T_10 := Lib.hid (Tab.fw T_4.out (hb8))
  have hl11 := hb8
  have HT_12 : Hid (Below w.heap.size w x7) := Lib.hid (HT_6.out.trans ((hl11).mono HT_6.out.size))
  clear hb8 
  go_wp2_with fail
  refine (rvl_any _ _ _ L_9.out).mono ?_
  rintro e x13 ⟨rfl, hb14⟩
  have L_15 := Lib.hid (Fts.fw L_9.out (hb14))
  have T_16 := Lib.hid (Tab.fw T_10.out (hb14))
  have hl17 := hb14
  have HT_18 : Hid (Below w.heap.size w x13) := Lib.hid (HT_12.out.trans ((hl17).mono HT_12.out.size))
  clear hb14 
  go_wp2_with fail
  go_ret
  exact ⟨rfl, HT_18.out⟩
set_option maxHeartbeats 4000000 in
set_option maxRecDepth 100000 in
theorem fat_walk (v : Value) (L : List F) (op : Int) (w : World) (h : Fts w v L) (hl : L.length * 24 ≤ 140737488351232) (T : Tab w) : Calls Tryd.prog 4 #[v, .int .i64 op] w (lawPost w) := by
  have HLN := Lib.hid hl
  have HTB := Lib.hid T
  have HF := Lib.hid h.fits
  have HO := Lib.hid h
  obtain ⟨A, cc, hv⟩ := h.form
  obtain ⟨n, hn⟩ : ∃ n, L.length = n := ⟨_, rfl⟩
  have EN := Lib.hid hn
  rw [hn] at hv
  subst hv
  clear h hl hn T
  obtain ⟨f, hf⟩ : ∃ f, fF (fnd op L) = f := ⟨_, rfl⟩
  obtain ⟨ok, hok⟩ : ∃ b, (fnd op L).isSome = b := ⟨_, rfl⟩
  obtain ⟨x, y, z⟩ := f
  have PA := Lib.hid fun w h => pat_any (.slice A n cc) L op w h
  have RA := Lib.hid fun w h => rat_any (.slice A n cc) L op w h
  unfold atPost fV at PA RA
  rw [hf, hok] at PA RA
  clear hf hok
  go_enter Tryd.func4, Tryd.ntmps4
  go_wp2_with fail
  refine (PA.out _ HO.out).mono ?_
  rintro e x1 ⟨rfl, hb2⟩
  have L_3 := Lib.hid (Fts.fw HO.out (hb2))
  have T_4 := Lib.hid (Tab.fw HTB.out (hb2))
  have hl5 := hb2
  have HT_6 : Hid (Below w.heap.size w x1) := Lib.hid (hl5)
  clear hb2 
  have q1 := new13 x1 #[.int .i64 x, .int .i64 y, .int .i64 z] 26 rfl
  have hb1 : Below x1.heap.size x1 (x1.alloc (.cells #[.int .i64 x, .int .i64 y, .int .i64 z] 26)) := (Below.refl _ _).alloc (Nat.le_refl _) _
  have Q1 := Lib.hid q1
  have HB1 := Lib.hid hb1
  clear q1 hb1
  go_wp2_with fail
  obtain ⟨b1, e1⟩ : ∃ b, x1.heap.size = b := ⟨_, rfl⟩
  obtain ⟨y1, hy1⟩ : ∃ q, x1.alloc (.cells #[.int .i64 x, .int .i64 y, .int .i64 z] 26) = q := ⟨_, rfl⟩
  rw [hy1] at Q1 HB1
  rw [e1] at Q1
  rw [hy1, e1]
  clear hy1 e1
  have L_7 := Lib.hid (Fts.fw L_3.out (HB1.out))
  have T_8 := Lib.hid (Tab.fw T_4.out (HB1.out))
  have hl9 := HB1.out
  have HT_10 : Hid (Below w.heap.size w y1) := Lib.hid (HT_6.out.trans ((hl9).mono HT_6.out.size))
  refine (RA.out _ L_7.out).mono ?_
  rintro e x11 ⟨rfl, hb12⟩
  have L_13 := Lib.hid (Fts.fw L_7.out (hb12))
  have T_14 := Lib.hid (Tab.fw T_8.out (hb12))
  have Q_15 := Lib.hid (rw13 Q1.out (hb12))
  have hl16 := hb12
  have HT_17 : Hid (Below w.heap.size w x11) := Lib.hid (HT_10.out.trans ((hl16).mono HT_10.out.size))
  clear hb12 
  have q2 := new13 x11 #[.int .i64 x, .int .i64 y, .int .i64 z] 26 rfl
  have hb2 : Below x11.heap.size x11 (x11.alloc (.cells #[.int .i64 x, .int .i64 y, .int .i64 z] 26)) := (Below.refl _ _).alloc (Nat.le_refl _) _
  have Q2 := Lib.hid q2
  have HB2 := Lib.hid hb2
  clear q2 hb2
  go_wp2_with fail
  obtain ⟨b2, e2⟩ : ∃ b, x11.heap.size = b := ⟨_, rfl⟩
  obtain ⟨y2, hy2⟩ : ∃ q, x11.alloc (.cells #[.int .i64 x, .int .i64 y, .int .i64 z] 26) = q := ⟨_, rfl⟩
  rw [hy2] at Q2 HB2
  rw [e2] at Q2
  rw [hy2, e2]
  clear hy2 e2
  have L_18 := Lib.hid (Fts.fw L_13.out (HB2.out))
  have T_19 := Lib.hid (Tab.fw T_14.out (HB2.out))
  have Q_20 := Lib.hid (rw13 Q_15.out (HB2.out))
  have hl21 := HB2.out
  have HT_22 : Hid (Below w.heap.size w y2) := Lib.hid (HT_17.out.trans ((hl21).mono HT_17.out.size))
  refine (awake13 _ T_19.out).mono ?_
  rintro e x23 ⟨rfl, hb24⟩
  have L_25 := Lib.hid (Fts.fw L_18.out (hb24))
  have T_26 := Lib.hid (Tab.fw T_19.out (hb24))
  have Q_27 := Lib.hid (rw13 Q_20.out (hb24))
  have Q2_28 := Lib.hid (rw13 Q2.out (hb24))
  have hl29 := hb24
  have HT_30 : Hid (Below w.heap.size w x23) := Lib.hid (HT_22.out.trans ((hl29).mono HT_22.out.size))
  clear hb24 
  obtain ⟨c0, c1, c2⟩ := row3 Q_27.out
  obtain ⟨d0, d1, d2⟩ := row3 Q2_28.out
  go_wp2_with fail
  go_ret
  exact ⟨rfl, HT_30.out⟩
set_option maxHeartbeats 4000000 in
set_option maxRecDepth 100000 in
theorem fwithin_walk (v : Value) (L : List F) (lo hi : Int) (w : World) (h : Fts w v L) (hl : L.length * 24 ≤ 140737488351232) (T : Tab w) : Calls Tryd.prog 5 #[v, .int .i64 lo, .int .i64 hi] w (lawPost w) := by
  have HLN := Lib.hid hl
  have HTB := Lib.hid T
  have HF := Lib.hid h.fits
  have HO := Lib.hid h
  obtain ⟨A, cc, hv⟩ := h.form
  obtain ⟨n, hn⟩ : ∃ n, L.length = n := ⟨_, rfl⟩
  have EN := Lib.hid hn
  rw [hn] at hv
  subst hv
  clear h hl hn T
  go_enter Tryd.func5, Tryd.ntmps5
  go_wp2_with fail
  refine (awake13 _ HTB.out).mono ?_
  rintro e x1 ⟨rfl, hb2⟩
  have L_3 := Lib.hid (Fts.fw HO.out (hb2))
  have T_4 := Lib.hid (Tab.fw HTB.out (hb2))
  have hl5 := hb2
  have HT_6 : Hid (Below w.heap.size w x1) := Lib.hid (hl5)
  clear hb2 
  go_wp2_with fail
  refine (pwi_any _ _ lo hi _ L_3.out HLN.out).mono ?_
  rintro e x7 ⟨v1, rfl, hn9, hb8⟩
  have L_10 := Lib.hid (Fts.fw L_3.out (hb8))
  have T_11 := Lib.hid (Tab.fw T_4.out (hb8))
  have hl12 := hb8
  have HT_13 : Hid (Below w.heap.size w x7) := Lib.hid (HT_6.out.trans ((hl12).mono HT_6.out.size))
  have P_14 := Lib.hid (hn9)
  clear hb8 hn9
  obtain ⟨A1, c1, rfl⟩ := P_14.out.form
  obtain ⟨N, hN⟩ : ∃ N, (wit lo hi L).length = N := ⟨_, rfl⟩
  have EW := Lib.hid hN
  rw [hN] at P_14 ⊢
  clear hN
  go_wp2_with fail
  refine (rwi_any _ _ lo hi _ L_10.out HLN.out).mono ?_
  rintro e x15 ⟨v2, rfl, hn17, hb16⟩
  have L_18 := Lib.hid (Fts.fw L_10.out (hb16))
  have T_19 := Lib.hid (Tab.fw T_11.out (hb16))
  have P_20 := Lib.hid (Owf.fw P_14.out (hb16))
  have hl21 := hb16
  have HT_22 : Hid (Below w.heap.size w x15) := Lib.hid (HT_13.out.trans ((hl21).mono HT_13.out.size))
  have R_23 := Lib.hid (hn17)
  clear hb16 hn17
  obtain ⟨A2, c2, rfl⟩ := R_23.out.form
  rw [EW.out] at R_23 ⊢
  go_wp2_with fail
  refine (rsm_any _ _ _ _ _ P_20.out.fts R_23.out.fts).mono ?_
  rintro e x24 ⟨bb, rfl, hq25, hb26⟩
  have hbb : bb = true := hq25.2 rfl
  subst hbb
  clear hq25
  have L_27 := Lib.hid (Fts.fw L_18.out (hb26))
  have T_28 := Lib.hid (Tab.fw T_19.out (hb26))
  have P_29 := Lib.hid (Owf.fw P_20.out (hb26))
  have R_30 := Lib.hid (Owf.fw R_23.out (hb26))
  have hl31 := hb26
  have HT_32 : Hid (Below w.heap.size w x24) := Lib.hid (HT_22.out.trans ((hl31).mono HT_22.out.size))
  clear hb26
  go_wp2_with fail
  go_ret
  exact ⟨rfl, HT_32.out⟩
set_option maxHeartbeats 4000000 in
set_option maxRecDepth 100000 in
theorem ftext_walk (v : Value) (L : List F) (w : World) (h : Fts w v L) (hl : L.length ≤ 1048576) (T : Tab w) : Calls Tryd.prog 6 #[v] w (lawPost w) := by
  have HLN := Lib.hid hl
  have HTB := Lib.hid T
  have HF := Lib.hid h.fits
  have HO := Lib.hid h
  obtain ⟨A, cc, hv⟩ := h.form
  obtain ⟨n, hn⟩ : ∃ n, L.length = n := ⟨_, rfl⟩
  have EN := Lib.hid hn
  rw [hn] at hv
  subst hv
  clear h hl hn T
  have PT := Lib.hid fun w h T => ptx_any (.slice A n cc) L w h (Nat.le_trans HLN.out (by decide)) T
  have RT := Lib.hid fun w h => rtx_any (.slice A n cc) L w h (by have := HLN.out; omega)
  have PP := Lib.hid fun w T => ppa_any (txt L) (readable_txt HF.out HLN.out) w T
  have VV := Lib.hid fun w h => rvl_any (.slice A n cc) L w h
  obtain ⟨s, hs⟩ : ∃ s, strOf (txt L) = s := ⟨_, rfl⟩
  rw [hs] at PT RT PP
  clear hs
  go_enter Tryd.func6, Tryd.ntmps6
  go_wp2_with fail
  refine (PT.out _ HO.out HTB.out).mono ?_
  rintro e x1 ⟨rfl, hb2⟩
  have L_3 := Lib.hid (Fts.fw HO.out (hb2))
  have T_4 := Lib.hid (Tab.fw HTB.out (hb2))
  have hl5 := hb2
  have HT_6 : Hid (Below w.heap.size w x1) := Lib.hid (hl5)
  clear hb2 
  go_wp2_with fail
  refine (awake13 _ T_4.out).mono ?_
  rintro e x7 ⟨rfl, hb8⟩
  have L_9 := Lib.hid (Fts.fw L_3.out (hb8))
  have T_10 := Lib.hid (Tab.fw T_4.out (hb8))
  have hl11 := hb8
  have HT_12 : Hid (Below w.heap.size w x7) := Lib.hid (HT_6.out.trans ((hl11).mono HT_6.out.size))
  clear hb8 
  go_wp2_with fail
  refine (RT.out _ L_9.out).mono ?_
  rintro e x13 ⟨rfl, hb14⟩
  have L_15 := Lib.hid (Fts.fw L_9.out (hb14))
  have T_16 := Lib.hid (Tab.fw T_10.out (hb14))
  have hl17 := hb14
  have HT_18 : Hid (Below w.heap.size w x13) := Lib.hid (HT_12.out.trans ((hl17).mono HT_12.out.size))
  clear hb14 
  go_wp2_with fail
  refine (PP.out _ T_16.out).mono ?_
  rintro e x19 ⟨k, K, E, rfl, hn21, hp, hb20⟩
  have L_22 := Lib.hid (Fts.fw L_15.out (hb20))
  have T_23 := Lib.hid (Tab.fw T_16.out (hb20))
  have hl24 := hb20
  have HT_25 : Hid (Below w.heap.size w x19) := Lib.hid (HT_18.out.trans ((hl24).mono HT_18.out.size))
  have K_26 := Lib.hid (hn21)
  clear hb20 hn21
  obtain ⟨A2, c2, rfl⟩ := K_26.out.form
  by_cases hv : vld L = true
  · have TX : txt L = text L := if_pos hv
    obtain ⟨rfl, rfl⟩ : L = K ∧ E = 0 := by
      rcases hp with ⟨h1, h2⟩ | ⟨h1, _⟩
      · rw [TX, parse_text HF.out hv] at h1; injection h1 with h1; exact ⟨h1, h2⟩
      · rw [TX, parse_text HF.out hv] at h1; cases h1
    rw [hv] at VV
    rw [EN.out] at K_26 ⊢
    clear hp hv TX
    go_wp2_with fail
    refine (VV.out _ L_22.out).mono ?_
    rintro e x27 ⟨rfl, hb28⟩
    have L_29 := Lib.hid (Fts.fw L_22.out (hb28))
    have T_30 := Lib.hid (Tab.fw T_23.out (hb28))
    have K_31 := Lib.hid (Fts.fw K_26.out (hb28))
    have hl32 := hb28
    have HT_33 : Hid (Below w.heap.size w x27) := Lib.hid (HT_25.out.trans ((hl32).mono HT_25.out.size))
    clear hb28 
    go_wp2_with fail
    refine (rsm_any _ _ _ _ _ K_31.out L_29.out).mono ?_
    rintro e x34 ⟨bb, rfl, hq35, hb36⟩
    have hbb : bb = true := hq35.2 rfl
    subst hbb
    clear hq35
    have L_37 := Lib.hid (Fts.fw L_29.out (hb36))
    have T_38 := Lib.hid (Tab.fw T_30.out (hb36))
    have K_39 := Lib.hid (Fts.fw K_31.out (hb36))
    have hl40 := hb36
    have HT_41 : Hid (Below w.heap.size w x34) := Lib.hid (HT_33.out.trans ((hl40).mono HT_33.out.size))
    clear hb36
    go_wp2_with fail
    go_ret
    exact ⟨rfl, HT_41.out⟩
  · have hv' : vld L = false := (Bool.not_eq_true _).mp hv
    obtain ⟨rfl, rfl⟩ : [] = K ∧ E = 0 := by
      have TX : txt L = [] := if_neg hv
      rcases hp with ⟨h1, h2⟩ | ⟨h1, _⟩
      · rw [TX, parse_nil] at h1; injection h1 with h1; exact ⟨h1, h2⟩
      · rw [TX, parse_nil] at h1; cases h1
    rw [hv'] at VV
    clear hp hv hv'
    rw [List.length_nil]
    go_wp2_with fail
    refine (VV.out _ L_22.out).mono ?_
    rintro e x27 ⟨rfl, hb28⟩
    have L_29 := Lib.hid (Fts.fw L_22.out (hb28))
    have T_30 := Lib.hid (Tab.fw T_23.out (hb28))
    have K_31 := Lib.hid (Fts.fw K_26.out (hb28))
    have hl32 := hb28
    have HT_33 : Hid (Below w.heap.size w x27) := Lib.hid (HT_25.out.trans ((hl32).mono HT_25.out.size))
    clear hb28 
    go_wp2_with fail
    go_ret
    exact ⟨rfl, HT_33.out⟩
set_option maxHeartbeats 4000000 in
set_option maxRecDepth 100000 in
theorem fparse_walk (s : ByteArray) (w : World) (T : Tab w) : Calls Tryd.prog 7 #[.string s] w (lawPost w) := by
  obtain ⟨l, hs, hb⟩ := str_ex s
  have HTB := Lib.hid T
  clear T
  have BL := Lib.hid hb
  have zs : s.size = l.length := by rw [hs, strOf_sz]
  by_cases h2 : 200 < l.length
  · obtain ⟨n, hn⟩ : ∃ n, l.length = n := ⟨_, rfl⟩
    rw [hn] at zs h2
    have d2 : decide ((200 : Int) < (n : Int)) = true := decide_eq_true (by omega)
    have i2 : (200 : Int) < (n : Int) := by omega
    clear hs hb hn
    go_enter Tryd.func7, Tryd.ntmps7
    go_wp2_with fail
    refine (awake13 _ HTB.out).mono ?_
    rintro e x1 ⟨rfl, hb2⟩
    have T_3 := Lib.hid (Tab.fw HTB.out (hb2))
    have hl4 := hb2
    have HT_5 : Hid (Below w.heap.size w x1) := Lib.hid (hl4)
    clear hb2 
    go_wp2_with fail
    refine (awake13 _ T_3.out).mono ?_
    rintro e x6 ⟨rfl, hb7⟩
    have T_8 := Lib.hid (Tab.fw T_3.out (hb7))
    have hl9 := hb7
    have HT_10 : Hid (Below w.heap.size w x6) := Lib.hid (HT_5.out.trans ((hl9).mono HT_5.out.size))
    clear hb7 
    go_wp2_with fail
    go_ret
    exact ⟨rfl, HT_10.out⟩
  · have LL := Lib.hid (show l.length ≤ 200 by omega)
    have PP := Lib.hid fun w T => ppa_any l ⟨BL.out, by have := LL.out; omega⟩ w T
    have RP := Lib.hid fun w => rpa_any l BL.out (by have := LL.out; omega) w
    have EQ := Lib.hid hs
    rw [← hs] at PP RP
    obtain ⟨n, hn⟩ : ∃ n, l.length = n := ⟨_, rfl⟩
    rw [hn] at zs h2
    have d2 : decide ((200 : Int) < (n : Int)) = false := decide_eq_false (by omega)
    clear hs hb hn
    go_enter Tryd.func7, Tryd.ntmps7
    go_wp2_with fail
    refine (awake13 _ HTB.out).mono ?_
    rintro e x1 ⟨rfl, hb2⟩
    have T_3 := Lib.hid (Tab.fw HTB.out (hb2))
    have hl4 := hb2
    have HT_5 : Hid (Below w.heap.size w x1) := Lib.hid (hl4)
    clear hb2 
    go_wp2_with fail
    clear d2
    refine (PP.out _ T_3.out).mono ?_
    rintro e x6 ⟨k, K, E, rfl, hn8, hp, hb7⟩
    have T_9 := Lib.hid (Tab.fw T_3.out (hb7))
    have hl10 := hb7
    have HT_11 : Hid (Below w.heap.size w x6) := Lib.hid (HT_5.out.trans ((hl10).mono HT_5.out.size))
    have K_12 := Lib.hid (hn8)
    clear hb7 hn8
    obtain ⟨A1, c1, rfl⟩ := K_12.out.form
    go_wp2_with fail
    refine (RP.out _).mono ?_
    rintro e x13 ⟨k2, K2, E2, rfl, hn15, hp2, hb14⟩
    have T_16 := Lib.hid (Tab.fw T_9.out (hb14))
    have K_17 := Lib.hid (Fts.fw K_12.out (hb14))
    have hl18 := hb14
    have HT_19 : Hid (Below w.heap.size w x13) := Lib.hid (HT_11.out.trans ((hl18).mono HT_11.out.size))
    have M_20 := Lib.hid (hn15)
    clear hb14 hn15
    obtain ⟨A2, c2, rfl⟩ := M_20.out.form
    obtain ⟨rfl, rfl⟩ : K = K2 ∧ E = E2 := by
      rcases hp with ⟨h1, h3⟩ | ⟨h1, h3, h4⟩ <;> rcases hp2 with ⟨g1, g3⟩ | ⟨g1, g3, g4⟩
      · rw [h1] at g1; injection g1 with g1; exact ⟨g1, h3.trans g3.symm⟩
      · rw [h1] at g1; cases g1
      · rw [h1] at g1; cases g1
      · exact ⟨h3.trans g3.symm, h4.trans g4.symm⟩
    clear hp2
    obtain ⟨N, hN⟩ : ∃ N, K.length = N := ⟨_, rfl⟩
    rw [hN] at K_17 M_20 ⊢
    have EK := Lib.hid hN
    clear hN
    rcases hp with ⟨h1, rfl⟩ | ⟨h1, h3, rfl⟩
    · obtain ⟨hv, ht⟩ := parse_some h1
      have TXE : txt K = l := (if_pos hv).trans ht
      have LK := Lib.hid (show K.length ≤ 1000000000 by have := text_ne_len K; rw [ht] at this; have := LL.out; omega)
      clear h1 hv ht
      go_wp2_with fail
      refine (rsm_any _ _ _ _ _ K_17.out M_20.out).mono ?_
      rintro e x21 ⟨bb, rfl, hq22, hb23⟩
      have hbb : bb = true := hq22.2 rfl
      subst hbb
      clear hq22
      have T_24 := Lib.hid (Tab.fw T_16.out (hb23))
      have K_25 := Lib.hid (Fts.fw K_17.out (hb23))
      have M_26 := Lib.hid (Fts.fw M_20.out (hb23))
      have hl27 := hb23
      have HT_28 : Hid (Below w.heap.size w x21) := Lib.hid (HT_19.out.trans ((hl27).mono HT_19.out.size))
      clear hb23
      have TX := ptx_any _ K _ K_25.out LK.out T_24.out
      rw [TXE, ← EQ.out] at TX
      have TXH := Lib.hid TX
      clear TX TXE
      go_wp2_with fail
      refine (TXH.out).mono ?_
      rintro e x29 ⟨rfl, hb30⟩
      have T_31 := Lib.hid (Tab.fw T_24.out (hb30))
      have K_32 := Lib.hid (Fts.fw K_25.out (hb30))
      have M_33 := Lib.hid (Fts.fw M_26.out (hb30))
      have hl34 := hb30
      have HT_35 : Hid (Below w.heap.size w x29) := Lib.hid (HT_28.out.trans ((hl34).mono HT_28.out.size))
      clear hb30 
      go_wp2_with fail
      go_ret
      exact ⟨rfl, HT_35.out⟩
    · clear h1 h3
      go_wp2_with fail
      refine (rsm_any _ _ _ _ _ K_17.out M_20.out).mono ?_
      rintro e x21 ⟨bb, rfl, hq22, hb23⟩
      have hbb : bb = true := hq22.2 rfl
      subst hbb
      clear hq22
      have T_24 := Lib.hid (Tab.fw T_16.out (hb23))
      have K_25 := Lib.hid (Fts.fw K_17.out (hb23))
      have M_26 := Lib.hid (Fts.fw M_20.out (hb23))
      have hl27 := hb23
      have HT_28 : Hid (Below w.heap.size w x21) := Lib.hid (HT_19.out.trans ((hl27).mono HT_19.out.size))
      clear hb23
      go_wp2_with fail
      go_ret
      exact ⟨rfl, HT_28.out⟩
end Go.Proofs.YtffdmpicjhaniaaDoor
