/- The walks of the laws on Rank, Inverse and LeftInverse. WRITTEN BY gen_Nd.py. -/
import Derived.Test.YtiibdoibcbokcaaNc
namespace Go.Proofs.Ytiibdoibcbokcaa
open Go Go.RowKit Lin
set_option linter.unusedVariables false

set_option maxHeartbeats 8000000 in
set_option maxRecDepth 100000 in
theorem GfmatrixRank_e (v0 : Value) (a : List (List Nat)) (w : World) (h0 : Ms w v0 a) (s0 : smallB a = false) : Calls Try.prog 7 #[v0] w (lawPost w) := by
  have A := Lib.hid h0
  have S0 := Lib.hid s0
  clear h0 s0
  go_enter Try.func7, Try.ntmps7
  go_wp2_with fail
  refine (awake_any _).mono ?_
  rintro e x2 ⟨rfl, hb1⟩
  have A_3 := Lib.hid (Ms.to A.out hb1)
  have HB_4 := Lib.hid (hb1)
  clear hb1
  go_wp2_with fail
  refine (small_b _ a _ false A_3.out S0.out).mono ?_
  rintro e w' ⟨rfl, rfl⟩
  go_wp2_with fail
  go_ret
  exact ⟨by first | rfl | simp, HB_4.out⟩
set_option maxHeartbeats 8000000 in
set_option maxRecDepth 100000 in
theorem GfmatrixInverse_e (v0 : Value) (a : List (List Nat)) (w : World) (h0 : Ms w v0 a) (s0 : smallB a = false) : Calls Try.prog 8 #[v0] w (lawPost w) := by
  have A := Lib.hid h0
  have S0 := Lib.hid s0
  clear h0 s0
  go_enter Try.func8, Try.ntmps8
  go_wp2_with fail
  refine (awake_any _).mono ?_
  rintro e x2 ⟨rfl, hb1⟩
  have A_3 := Lib.hid (Ms.to A.out hb1)
  have HB_4 := Lib.hid (hb1)
  clear hb1
  go_wp2_with fail
  refine (small_b _ a _ false A_3.out S0.out).mono ?_
  rintro e w' ⟨rfl, rfl⟩
  go_wp2_with fail
  go_ret
  exact ⟨by first | rfl | simp, HB_4.out⟩
set_option maxHeartbeats 8000000 in
set_option maxRecDepth 100000 in
theorem GfmatrixLeftInverse_e (v0 : Value) (a : List (List Nat)) (w : World) (h0 : Ms w v0 a) (s0 : smallB a = false) : Calls Try.prog 9 #[v0] w (lawPost w) := by
  have A := Lib.hid h0
  have S0 := Lib.hid s0
  clear h0 s0
  go_enter Try.func9, Try.ntmps9
  go_wp2_with fail
  refine (awake_any _).mono ?_
  rintro e x2 ⟨rfl, hb1⟩
  have A_3 := Lib.hid (Ms.to A.out hb1)
  have HB_4 := Lib.hid (hb1)
  clear hb1
  go_wp2_with fail
  refine (small_b _ a _ false A_3.out S0.out).mono ?_
  rintro e w' ⟨rfl, rfl⟩
  go_wp2_with fail
  go_ret
  exact ⟨by first | rfl | simp, HB_4.out⟩
set_option maxHeartbeats 8000000 in
set_option maxRecDepth 100000 in
theorem rank_inv (v0 : Value) (a : List (List Nat)) (w : World) (h0 : Ms w v0 a) (s0 : smallB a = true) (hv : validB a = false) : Calls Try.prog 7 #[v0] w (lawPost w) := by
  have A := Lib.hid h0
  have S0 := Lib.hid s0
  have VA := Lib.hid hv
  obtain ⟨A0, c0, rfl⟩ := Sl.form h0
  clear h0 s0 hv
  go_enter Try.func7, Try.ntmps7
  go_wp2_with fail
  refine (awake_any _).mono ?_
  rintro e x2 ⟨rfl, hb1⟩
  have A_3 := Lib.hid (Ms.to A.out hb1)
  have HB_4 := Lib.hid (hb1)
  clear hb1
  go_wp2_with fail
  refine (small_b _ a _ true A_3.out S0.out).mono ?_
  rintro e w' ⟨rfl, rfl⟩
  go_wp2_with fail
  refine (rank_err _ a _ A_3.out VA.out).mono ?_
  rintro e w' ⟨rfl, rfl⟩
  go_wp2_with fail
  refine (rvalid_b _ a _ false A_3.out VA.out).mono ?_
  rintro e x6 ⟨rfl, hd5⟩
  have A_7 := Lib.hid (Ms.dr A_3.out hd5)
  have HB_8 := Lib.hid (bd2 HB_4.out hd5)
  clear hd5
  go_wp2_with fail
  go_ret
  exact ⟨by first | rfl | simp, HB_8.out⟩
set_option maxHeartbeats 8000000 in
set_option maxRecDepth 100000 in
theorem rank_rect (v0 : Value) (a : List (List Nat)) (w : World) (h0 : Ms w v0 a) (s0 : smallB a = true) {r n : Nat} (hR : Rect r n a) (k0 : 0 < r) (k1 : 0 < n) (k2 : r ≤ 64) (k3 : n ≤ 64) {K : Nat} (hK : (indF n (el a) r).length = K) : Calls Try.prog 7 #[v0] w (lawPost w) := by
  have A := Lib.hid h0
  have S0 := Lib.hid s0
  have RA := Lib.hid hR
  have VA := Lib.hid (valid_of_rect hR k0 k1 k2 k3)
  obtain ⟨ba, oa, ca, rfl, -, -⟩ := Ms.open_ h0 hR k0 k1
  have hrI : (0 : Int) < (r : Int) := by omega
  have hnI : (0 : Int) < (n : Int) := by omega
  have KK := Lib.hid hK
  have K1 := Lib.hid ((rank_eq hR (Nat.le_refl n) (el a) hR.by fun _ _ _ _ => rfl).trans hK)
  have K2 : Hid ((reduceF (transF r n a) r).2.length = K) := Lib.hid (by rw [reduce_trans hR]; exact hK)
  have RT := Lib.hid (trans_rect (m := a) r n hR.by)
  clear h0 s0 hR hK
  go_enter Try.func7, Try.ntmps7
  go_wp2_with fail
  refine (awake_any _).mono ?_
  rintro e x2 ⟨rfl, hb1⟩
  have A_3 := Lib.hid (Ms.to A.out hb1)
  have HB_4 := Lib.hid (hb1)
  clear hb1
  go_wp2_with fail
  refine (small_b _ a _ true A_3.out S0.out).mono ?_
  rintro e w' ⟨rfl, rfl⟩
  go_wp2_with fail
  refine (rank_k _ a _ A_3.out RA.out k0 k1 k2 k3 K1.out).mono ?_
  rintro e x6 ⟨rfl, hb5⟩
  have A_7 := Lib.hid (Ms.to A_3.out hb5)
  have HB_8 := Lib.hid (bt HB_4.out hb5)
  clear hb5
  go_wp2_with fail
  refine (rvalid_b _ a _ true A_7.out VA.out).mono ?_
  rintro e x10 ⟨rfl, hd9⟩
  have A_11 := Lib.hid (Ms.dr A_7.out hd9)
  have HB_12 := Lib.hid (bd2 HB_8.out hd9)
  clear hd9
  go_wp2_with fail
  refine (trans_new _ a _ A_11.out RA.out k0 k1 k2 k3).mono ?_
  rintro e x15 ⟨vt, rfl, hn13, hb14⟩
  have A_16 := Lib.hid (Ms.to A_11.out hb14)
  have HB_17 := Lib.hid (bt HB_12.out hb14)
  have T_18 := Lib.hid hn13
  clear hn13 hb14
  go_wp2_with fail
  refine (rank_k _ _ _ T_18.out RT.out k1 k0 k3 k2 K2.out).mono ?_
  rintro e x20 ⟨rfl, hb19⟩
  have A_21 := Lib.hid (Ms.to A_16.out hb19)
  have T_22 := Lib.hid (Ms.to T_18.out hb19)
  have HB_23 := Lib.hid (bt HB_17.out hb19)
  clear hb19
  go_wp2_with fail
  refine (ind_new _ a _ A_21.out RA.out k0 k1 k2 k3 KK.out).mono ?_
  rintro e x26 ⟨Ai, ci, rfl, hn24, hb25⟩
  have A_27 := Lib.hid (Ms.to A_21.out hb25)
  have T_28 := Lib.hid (Ms.to T_22.out hb25)
  have HB_29 := Lib.hid (bt HB_23.out hb25)
  have I_30 := Lib.hid hn24
  clear hn24 hb25
  go_wp2_with fail
  go_ret
  exact ⟨by first | rfl | simp, HB_29.out⟩
theorem ranklaw_walk (v0 : Value) (a : List (List Nat)) (w : World) (h0 : Ms w v0 a) : Calls Try.prog 7 #[v0] w (lawPost w) := by
  by_cases s0 : smallB a = true
  · by_cases hv : validB a = true
    · obtain ⟨r, n, hR, k0, k2, k1, k3⟩ := Rect.of_valid h0 hv
      exact rank_rect v0 a w h0 s0 hR k0 k1 k2 k3 rfl
    · exact rank_inv v0 a w h0 s0 (by simpa using hv)
  · exact GfmatrixRank_e v0 a w h0 (by simpa using s0)
set_option maxHeartbeats 8000000 in
set_option maxRecDepth 100000 in
theorem inv_inv (v0 : Value) (a : List (List Nat)) (w : World) (h0 : Ms w v0 a) (s0 : smallB a = true) (hv : validB a = false) : Calls Try.prog 8 #[v0] w (lawPost w) := by
  have A := Lib.hid h0
  have S0 := Lib.hid s0
  have VA := Lib.hid hv
  obtain ⟨A0, c0, rfl⟩ := Sl.form h0
  clear h0 s0 hv
  go_enter Try.func8, Try.ntmps8
  go_wp2_with fail
  refine (awake_any _).mono ?_
  rintro e x2 ⟨rfl, hb1⟩
  have A_3 := Lib.hid (Ms.to A.out hb1)
  have HB_4 := Lib.hid (hb1)
  clear hb1
  go_wp2_with fail
  refine (small_b _ a _ true A_3.out S0.out).mono ?_
  rintro e w' ⟨rfl, rfl⟩
  go_wp2_with fail
  refine (inverse_arg _ a _ A_3.out (Or.inl VA.out)).mono ?_
  rintro e w' ⟨rfl, rfl⟩
  go_wp2_with fail
  refine (rvalid_b _ a _ false A_3.out VA.out).mono ?_
  rintro e x6 ⟨rfl, hd5⟩
  have A_7 := Lib.hid (Ms.dr A_3.out hd5)
  have HB_8 := Lib.hid (bd2 HB_4.out hd5)
  clear hd5
  go_wp2_with fail
  go_ret
  exact ⟨by first | rfl | simp, HB_8.out⟩
set_option maxHeartbeats 8000000 in
set_option maxRecDepth 100000 in
theorem inv_dim (v0 : Value) (a : List (List Nat)) (w : World) (h0 : Ms w v0 a) (s0 : smallB a = true) {r n : Nat} (hR : Rect r n a) (k0 : 0 < r) (k1 : 0 < n) (k2 : r ≤ 64) (k3 : n ≤ 64) (hne : r ≠ n) : Calls Try.prog 8 #[v0] w (lawPost w) := by
  have A := Lib.hid h0
  have S0 := Lib.hid s0
  have RA := Lib.hid hR
  have VA := Lib.hid (valid_of_rect hR k0 k1 k2 k3)
  obtain ⟨ba, oa, ca, rfl, -, -⟩ := Ms.open_ h0 hR k0 k1
  have hrI : (0 : Int) < (r : Int) := by omega
  have hnI : (0 : Int) < (n : Int) := by omega
  have gd : ((r : Int) != (n : Int)) = true := by simp; omega
  have NE := Lib.hid hne
  clear h0 s0 hR hne
  go_enter Try.func8, Try.ntmps8
  go_wp2_with fail
  refine (awake_any _).mono ?_
  rintro e x2 ⟨rfl, hb1⟩
  have A_3 := Lib.hid (Ms.to A.out hb1)
  have HB_4 := Lib.hid (hb1)
  clear hb1
  go_wp2_with fail
  refine (small_b _ a _ true A_3.out S0.out).mono ?_
  rintro e w' ⟨rfl, rfl⟩
  go_wp2_with fail
  refine (inverse_arg _ a _ A_3.out (Or.inr (by rw [RA.out.len, (RA.out.row 0 k0).1]; exact NE.out))).mono ?_
  rintro e w' ⟨rfl, rfl⟩
  go_wp2_with fail
  refine (rvalid_b _ a _ true A_3.out VA.out).mono ?_
  rintro e x6 ⟨rfl, hd5⟩
  have A_7 := Lib.hid (Ms.dr A_3.out hd5)
  have HB_8 := Lib.hid (bd2 HB_4.out hd5)
  clear hd5
  obtain ⟨bz, oz, cz, hz⟩ := Ms.row0 A_7.out RA.out k0 k1
  go_wp2_with fail
  go_ret
  exact ⟨by first | rfl | simp, HB_8.out⟩
set_option maxHeartbeats 8000000 in
set_option maxRecDepth 100000 in
theorem inv_div (v0 : Value) (a : List (List Nat)) (w : World) (h0 : Ms w v0 a) (s0 : smallB a = true) {n : Nat} (hR : Rect n n a) (k0 : 0 < n) (k2 : n ≤ 64) {K : Nat} (hK : (indF n (el a) n).length = K) (hKn : K < n) : Calls Try.prog 8 #[v0] w (lawPost w) := by
  have A := Lib.hid h0
  have S0 := Lib.hid s0
  have RA := Lib.hid hR
  have VA := Lib.hid (valid_of_rect hR k0 k0 k2 k2)
  obtain ⟨ba, oa, ca, rfl, -, -⟩ := Ms.open_ h0 hR k0 k0
  have hnI : (0 : Int) < (n : Int) := by omega
  have KK := Lib.hid hK
  have gd : ((n : Int) != (n : Int)) = false := by simp
  have KA := Lib.hid ((aug_rank hR).trans hK)
  clear h0 s0 hR hK
  go_enter Try.func8, Try.ntmps8
  go_wp2_with fail
  refine (awake_any _).mono ?_
  rintro e x2 ⟨rfl, hb1⟩
  have A_3 := Lib.hid (Ms.to A.out hb1)
  have HB_4 := Lib.hid (hb1)
  clear hb1
  go_wp2_with fail
  refine (small_b _ a _ true A_3.out S0.out).mono ?_
  rintro e w' ⟨rfl, rfl⟩
  go_wp2_with fail
  refine (inverse_div _ a _ A_3.out RA.out k0 k2 (by rw [KA.out]; exact hKn)).mono ?_
  rintro e x6 ⟨rfl, hb5⟩
  have A_7 := Lib.hid (Ms.to A_3.out hb5)
  have HB_8 := Lib.hid (bt HB_4.out hb5)
  clear hb5
  go_wp2_with fail
  refine (rvalid_b _ a _ true A_7.out VA.out).mono ?_
  rintro e x10 ⟨rfl, hd9⟩
  have A_11 := Lib.hid (Ms.dr A_7.out hd9)
  have HB_12 := Lib.hid (bd2 HB_8.out hd9)
  clear hd9
  obtain ⟨bz, oz, cz, hz⟩ := Ms.row0 A_11.out RA.out k0 k0
  go_wp2_with fail
  refine (ind_new _ a _ A_11.out RA.out k0 k0 k2 k2 KK.out).mono ?_
  rintro e x15 ⟨Ai, ci, rfl, hn13, hb14⟩
  have A_16 := Lib.hid (Ms.to A_11.out hb14)
  have HB_17 := Lib.hid (bt HB_12.out hb14)
  have I_18 := Lib.hid hn13
  clear hn13 hb14
  go_wp2_with fail
  go_ret
  exact ⟨by first | rfl | simp, HB_17.out⟩
set_option maxHeartbeats 8000000 in
set_option maxRecDepth 100000 in
theorem inv_full (v0 : Value) (a : List (List Nat)) (w : World) (h0 : Ms w v0 a) (s0 : smallB a = true) {n : Nat} (hR : Rect n n a) (k0 : 0 < n) (k2 : n ≤ 64) (hK : (indF n (el a) n).length = n) : Calls Try.prog 8 #[v0] w (lawPost w) := by
  have A := Lib.hid h0
  have S0 := Lib.hid s0
  have RA := Lib.hid hR
  have VA := Lib.hid (valid_of_rect hR k0 k0 k2 k2)
  obtain ⟨ba, oa, ca, rfl, -, -⟩ := Ms.open_ h0 hR k0 k0
  have hnI : (0 : Int) < (n : Int) := by omega
  have KK := Lib.hid hK
  have gd : ((n : Int) != (n : Int)) = false := by simp
  have KA := Lib.hid ((aug_rank hR).trans hK)
  have RI := Lib.hid (inv_rect hR)
  have MI := Lib.hid (mul_inv_id hR KA.out)
  have IM := Lib.hid (inv_mul_id hR KA.out)
  have VI := Lib.hid (valid_of_rect RI.out k0 k0 k2 k2)
  have hlt : ¬ ((n : Int) < (n : Int)) := by omega
  clear h0 s0 hR hK
  go_enter Try.func8, Try.ntmps8
  go_wp2_with fail
  refine (awake_any _).mono ?_
  rintro e x2 ⟨rfl, hb1⟩
  have A_3 := Lib.hid (Ms.to A.out hb1)
  have HB_4 := Lib.hid (hb1)
  clear hb1
  go_wp2_with fail
  refine (small_b _ a _ true A_3.out S0.out).mono ?_
  rintro e w' ⟨rfl, rfl⟩
  go_wp2_with fail
  refine (inverse_new _ a _ A_3.out RA.out k0 k2 KA.out).mono ?_
  rintro e x7 ⟨bv, cv, rfl, hn5, hb6⟩
  have A_8 := Lib.hid (Ms.to A_3.out hb6)
  have HB_9 := Lib.hid (bt HB_4.out hb6)
  have V_10 := Lib.hid hn5
  clear hn5 hb6
  go_wp2_with fail
  refine (rvalid_b _ a _ true A_8.out VA.out).mono ?_
  rintro e x12 ⟨rfl, hd11⟩
  have A_13 := Lib.hid (Ms.dr A_8.out hd11)
  have V_14 := Lib.hid (Ms.dr V_10.out hd11)
  have HB_15 := Lib.hid (bd2 HB_9.out hd11)
  clear hd11
  obtain ⟨bz, oz, cz, hz⟩ := Ms.row0 A_13.out RA.out k0 k0
  go_wp2_with fail
  refine (ind_new _ a _ A_13.out RA.out k0 k0 k2 k2 KK.out).mono ?_
  rintro e x18 ⟨Ai, ci, rfl, hn16, hb17⟩
  have A_19 := Lib.hid (Ms.to A_13.out hb17)
  have V_20 := Lib.hid (Ms.to V_14.out hb17)
  have HB_21 := Lib.hid (bt HB_15.out hb17)
  have I_22 := Lib.hid hn16
  clear hn16 hb17
  go_wp2_with fail
  refine (rvalid_b _ _ _ true V_20.out VI.out).mono ?_
  rintro e x24 ⟨rfl, hd23⟩
  have A_25 := Lib.hid (Ms.dr A_19.out hd23)
  have V_26 := Lib.hid (Ms.dr V_20.out hd23)
  have I_27 := Lib.hid (Is.dr I_22.out hd23)
  have HB_28 := Lib.hid (bd2 HB_21.out hd23)
  clear hd23
  obtain ⟨bz, oz, cz, hz⟩ := Ms.row0 V_26.out RI.out k0 k0
  go_wp2_with fail
  refine (rmul_id _ _ a _ _ A_25.out RA.out V_26.out RI.out k0 k2 MI.out).mono ?_
  rintro e x31 ⟨vp, rfl, hn29, hb30⟩
  have A_32 := Lib.hid (Ms.to A_25.out hb30)
  have V_33 := Lib.hid (Ms.to V_26.out hb30)
  have I_34 := Lib.hid (Is.to I_27.out hb30)
  have HB_35 := Lib.hid (bt HB_28.out hb30)
  have P_36 := Lib.hid hn29.sl
  clear hn29 hb30
  go_wp2_with fail
  refine (ridentity_any n _ k2).mono ?_
  rintro e x39 ⟨ve, rfl, hn37, hb38⟩
  have A_40 := Lib.hid (Ms.to A_32.out hb38)
  have V_41 := Lib.hid (Ms.to V_33.out hb38)
  have I_42 := Lib.hid (Is.to I_34.out hb38)
  have P_43 := Lib.hid (Ms.to P_36.out hb38)
  have HB_44 := Lib.hid (bt HB_35.out hb38)
  have E_45 := Lib.hid hn37.sl
  clear hn37 hb38
  go_wp2_with fail
  refine (msame_c _ _ _ _ P_43.out E_45.out).mono ?_
  rintro e x47 ⟨rfl, hd46⟩
  have A_48 := Lib.hid (Ms.dr A_40.out hd46)
  have V_49 := Lib.hid (Ms.dr V_41.out hd46)
  have I_50 := Lib.hid (Is.dr I_42.out hd46)
  have P_51 := Lib.hid (Ms.dr P_43.out hd46)
  have E_52 := Lib.hid (Ms.dr E_45.out hd46)
  have HB_53 := Lib.hid (bd2 HB_44.out hd46)
  clear hd46
  go_wp2_with fail
  refine (rmul_id _ _ _ a _ V_49.out RI.out A_48.out RA.out k0 k2 IM.out).mono ?_
  rintro e x56 ⟨vp2, rfl, hn54, hb55⟩
  have A_57 := Lib.hid (Ms.to A_48.out hb55)
  have V_58 := Lib.hid (Ms.to V_49.out hb55)
  have I_59 := Lib.hid (Is.to I_50.out hb55)
  have P_60 := Lib.hid (Ms.to P_51.out hb55)
  have E_61 := Lib.hid (Ms.to E_52.out hb55)
  have HB_62 := Lib.hid (bt HB_53.out hb55)
  have P2_63 := Lib.hid hn54.sl
  clear hn54 hb55
  go_wp2_with fail
  refine (ridentity_any n _ k2).mono ?_
  rintro e x66 ⟨ve2, rfl, hn64, hb65⟩
  have A_67 := Lib.hid (Ms.to A_57.out hb65)
  have V_68 := Lib.hid (Ms.to V_58.out hb65)
  have I_69 := Lib.hid (Is.to I_59.out hb65)
  have P_70 := Lib.hid (Ms.to P_60.out hb65)
  have E_71 := Lib.hid (Ms.to E_61.out hb65)
  have P2_72 := Lib.hid (Ms.to P2_63.out hb65)
  have HB_73 := Lib.hid (bt HB_62.out hb65)
  have E2_74 := Lib.hid hn64.sl
  clear hn64 hb65
  go_wp2_with fail
  refine (msame_c _ _ _ _ P2_72.out E2_74.out).mono ?_
  rintro e x76 ⟨rfl, hd75⟩
  have A_77 := Lib.hid (Ms.dr A_67.out hd75)
  have V_78 := Lib.hid (Ms.dr V_68.out hd75)
  have I_79 := Lib.hid (Is.dr I_69.out hd75)
  have P_80 := Lib.hid (Ms.dr P_70.out hd75)
  have E_81 := Lib.hid (Ms.dr E_71.out hd75)
  have P2_82 := Lib.hid (Ms.dr P2_72.out hd75)
  have E2_83 := Lib.hid (Ms.dr E2_74.out hd75)
  have HB_84 := Lib.hid (bd2 HB_73.out hd75)
  clear hd75
  go_wp2_with fail
  go_ret
  exact ⟨by first | rfl | simp, HB_84.out⟩
theorem inverselaw_walk (v0 : Value) (a : List (List Nat)) (w : World) (h0 : Ms w v0 a) : Calls Try.prog 8 #[v0] w (lawPost w) := by
  by_cases s0 : smallB a = true
  · by_cases hv : validB a = true
    · obtain ⟨r, n, hR, k0, k2, k1, k3⟩ := Rect.of_valid h0 hv
      by_cases hne : r = n
      · subst hne
        have hle := indF_len_le r (el a) r
        by_cases hK : (indF r (el a) r).length = r
        · exact inv_full v0 a w h0 s0 hR k0 k2 hK
        · exact inv_div v0 a w h0 s0 hR k0 k2 rfl (by omega)
      · exact inv_dim v0 a w h0 s0 hR k0 k1 k2 k3 hne
    · exact inv_inv v0 a w h0 s0 (by simpa using hv)
  · exact GfmatrixInverse_e v0 a w h0 (by simpa using s0)
set_option maxHeartbeats 8000000 in
set_option maxRecDepth 100000 in
theorem left_inv (v0 : Value) (a : List (List Nat)) (w : World) (h0 : Ms w v0 a) (s0 : smallB a = true) (hv : validB a = false) : Calls Try.prog 9 #[v0] w (lawPost w) := by
  have A := Lib.hid h0
  have S0 := Lib.hid s0
  have VA := Lib.hid hv
  obtain ⟨A0, c0, rfl⟩ := Sl.form h0
  clear h0 s0 hv
  go_enter Try.func9, Try.ntmps9
  go_wp2_with fail
  refine (awake_any _).mono ?_
  rintro e x2 ⟨rfl, hb1⟩
  have A_3 := Lib.hid (Ms.to A.out hb1)
  have HB_4 := Lib.hid (hb1)
  clear hb1
  go_wp2_with fail
  refine (small_b _ a _ true A_3.out S0.out).mono ?_
  rintro e w' ⟨rfl, rfl⟩
  go_wp2_with fail
  refine (left_arg _ a _ A_3.out VA.out).mono ?_
  rintro e w' ⟨rfl, rfl⟩
  go_wp2_with fail
  refine (rvalid_b _ a _ false A_3.out VA.out).mono ?_
  rintro e x6 ⟨rfl, hd5⟩
  have A_7 := Lib.hid (Ms.dr A_3.out hd5)
  have HB_8 := Lib.hid (bd2 HB_4.out hd5)
  clear hd5
  go_wp2_with fail
  go_ret
  exact ⟨by first | rfl | simp, HB_8.out⟩
set_option maxHeartbeats 8000000 in
set_option maxRecDepth 100000 in
theorem left_divl (v0 : Value) (a : List (List Nat)) (w : World) (h0 : Ms w v0 a) (s0 : smallB a = true) {r n : Nat} (hR : Rect r n a) (k0 : 0 < r) (k1 : 0 < n) (k2 : r ≤ 64) (k3 : n ≤ 64) {K : Nat} (hK : (indF n (el a) r).length = K) (hKn : K < n) : Calls Try.prog 9 #[v0] w (lawPost w) := by
  have A := Lib.hid h0
  have S0 := Lib.hid s0
  have RA := Lib.hid hR
  have VA := Lib.hid (valid_of_rect hR k0 k1 k2 k3)
  obtain ⟨ba, oa, ca, rfl, -, -⟩ := Ms.open_ h0 hR k0 k1
  have hrI : (0 : Int) < (r : Int) := by omega
  have hnI : (0 : Int) < (n : Int) := by omega
  have KK := Lib.hid hK
  have KP : Hid ((pivT r n a).length < n) := Lib.hid (by rw [pivT_ind hR, hK]; exact hKn)
  clear h0 s0 hR hK
  go_enter Try.func9, Try.ntmps9
  go_wp2_with fail
  refine (awake_any _).mono ?_
  rintro e x2 ⟨rfl, hb1⟩
  have A_3 := Lib.hid (Ms.to A.out hb1)
  have HB_4 := Lib.hid (hb1)
  clear hb1
  go_wp2_with fail
  refine (small_b _ a _ true A_3.out S0.out).mono ?_
  rintro e w' ⟨rfl, rfl⟩
  go_wp2_with fail
  refine (left_div _ a _ A_3.out RA.out k0 k1 k2 k3 KP.out).mono ?_
  rintro e x6 ⟨rfl, hb5⟩
  have A_7 := Lib.hid (Ms.to A_3.out hb5)
  have HB_8 := Lib.hid (bt HB_4.out hb5)
  clear hb5
  go_wp2_with fail
  refine (rvalid_b _ a _ true A_7.out VA.out).mono ?_
  rintro e x10 ⟨rfl, hd9⟩
  have A_11 := Lib.hid (Ms.dr A_7.out hd9)
  have HB_12 := Lib.hid (bd2 HB_8.out hd9)
  clear hd9
  go_wp2_with fail
  refine (ind_new _ a _ A_11.out RA.out k0 k1 k2 k3 KK.out).mono ?_
  rintro e x15 ⟨Ai, ci, rfl, hn13, hb14⟩
  have A_16 := Lib.hid (Ms.to A_11.out hb14)
  have HB_17 := Lib.hid (bt HB_12.out hb14)
  have I_18 := Lib.hid hn13
  clear hn13 hb14
  obtain ⟨bz, oz, cz, hz⟩ := Ms.row0 A_16.out RA.out k0 k1
  go_wp2_with fail
  go_ret
  exact ⟨by first | rfl | simp, HB_17.out⟩
set_option maxHeartbeats 8000000 in
set_option maxRecDepth 100000 in
theorem left_full (v0 : Value) (a : List (List Nat)) (w : World) (h0 : Ms w v0 a) (s0 : smallB a = true) {r n : Nat} (hR : Rect r n a) (k0 : 0 < r) (k1 : 0 < n) (k2 : r ≤ 64) (k3 : n ≤ 64) (hK : (indF n (el a) r).length = n) : Calls Try.prog 9 #[v0] w (lawPost w) := by
  have A := Lib.hid h0
  have S0 := Lib.hid s0
  have RA := Lib.hid hR
  have VA := Lib.hid (valid_of_rect hR k0 k1 k2 k3)
  obtain ⟨ba, oa, ca, rfl, -, -⟩ := Ms.open_ h0 hR k0 k1
  have hrI : (0 : Int) < (r : Int) := by omega
  have hnI : (0 : Int) < (n : Int) := by omega
  have KK := Lib.hid hK
  have KP : Hid ((pivT r n a).length = n) := Lib.hid (by rw [pivT_ind hR, hK])
  have PI := Lib.hid (pivT_ind hR)
  have PLT := Lib.hid (pivT_lt hR)
  have RSQ := Lib.hid (rowsL_rect hR KP.out (pivT_lt hR))
  have RI := Lib.hid (inv_rect RSQ.out)
  have IM := Lib.hid (inv_mul_id RSQ.out (square_ok hR KP.out))
  have VI := Lib.hid (valid_of_rect RI.out k1 k1 k3 k3)
  have hlt : ¬ ((n : Int) < (n : Int)) := by omega
  clear h0 s0 hR hK
  go_enter Try.func9, Try.ntmps9
  go_wp2_with fail
  refine (awake_any _).mono ?_
  rintro e x2 ⟨rfl, hb1⟩
  have A_3 := Lib.hid (Ms.to A.out hb1)
  have HB_4 := Lib.hid (hb1)
  clear hb1
  go_wp2_with fail
  refine (small_b _ a _ true A_3.out S0.out).mono ?_
  rintro e w' ⟨rfl, rfl⟩
  go_wp2_with fail
  refine (left_new _ a _ A_3.out RA.out k0 k1 k2 k3 KP.out).mono ?_
  rintro e x8 ⟨bv, ov, cv, bp, op, cp, rfl, hn5, hm6, hb7⟩
  have A_9 := Lib.hid (Ms.to A_3.out hb7)
  have HB_10 := Lib.hid (bt HB_4.out hb7)
  have V_11 := Lib.hid hn5
  have R_12 := Lib.hid hm6
  clear hn5 hm6 hb7
  go_wp2_with fail
  refine (rvalid_b _ a _ true A_9.out VA.out).mono ?_
  rintro e x14 ⟨rfl, hd13⟩
  have A_15 := Lib.hid (Ms.dr A_9.out hd13)
  have V_16 := Lib.hid (Ms.dr V_11.out hd13)
  have R_17 := Lib.hid (Is.dr R_12.out hd13)
  have HB_18 := Lib.hid (bd2 HB_10.out hd13)
  clear hd13
  go_wp2_with fail
  refine (ind_new _ a _ A_15.out RA.out k0 k1 k2 k3 KK.out).mono ?_
  rintro e x21 ⟨Ai, ci, rfl, hn19, hb20⟩
  have A_22 := Lib.hid (Ms.to A_15.out hb20)
  have V_23 := Lib.hid (Ms.to V_16.out hb20)
  have R_24 := Lib.hid (Is.to R_17.out hb20)
  have HB_25 := Lib.hid (bt HB_18.out hb20)
  have I_26 := Lib.hid (show Is _ _ (natsI (pivT r n a)) by rw [PI.out]; exact hn19)
  clear hn19 hb20
  obtain ⟨bz, oz, cz, hz⟩ := Ms.row0 A_22.out RA.out k0 k1
  go_wp2_with fail
  refine (isame_c _ _ _ _ R_24.out I_26.out).mono ?_
  rintro e x28 ⟨rfl, hd27⟩
  have A_29 := Lib.hid (Ms.dr A_22.out hd27)
  have V_30 := Lib.hid (Ms.dr V_23.out hd27)
  have R_31 := Lib.hid (Is.dr R_24.out hd27)
  have I_32 := Lib.hid (Is.dr I_26.out hd27)
  have HB_33 := Lib.hid (bd2 HB_25.out hd27)
  clear hd27
  go_wp2_with fail
  refine (rvalid_b _ _ _ true V_30.out VI.out).mono ?_
  rintro e x35 ⟨rfl, hd34⟩
  have A_36 := Lib.hid (Ms.dr A_29.out hd34)
  have V_37 := Lib.hid (Ms.dr V_30.out hd34)
  have R_38 := Lib.hid (Is.dr R_31.out hd34)
  have I_39 := Lib.hid (Is.dr I_32.out hd34)
  have HB_40 := Lib.hid (bd2 HB_33.out hd34)
  clear hd34
  obtain ⟨bz, oz, cz, hz⟩ := Ms.row0 V_37.out RI.out k1 k1
  go_wp2_with fail
  refine (rrows_any _ _ a (pivT r n a) _ A_36.out RA.out k0 k1 k3 I_39.out PLT.out (by rw [KP.out]; omega)).mono ?_
  rintro e x43 ⟨vq, rfl, hn41, hb42⟩
  have A_44 := Lib.hid (Ms.to A_36.out hb42)
  have V_45 := Lib.hid (Ms.to V_37.out hb42)
  have R_46 := Lib.hid (Is.to R_38.out hb42)
  have I_47 := Lib.hid (Is.to I_39.out hb42)
  have HB_48 := Lib.hid (bt HB_40.out hb42)
  have Q_49 := Lib.hid hn41.sl
  clear hn41 hb42
  go_wp2_with fail
  refine (rmul_id _ _ _ _ _ V_45.out RI.out Q_49.out RSQ.out k1 k3 IM.out).mono ?_
  rintro e x52 ⟨vp, rfl, hn50, hb51⟩
  have A_53 := Lib.hid (Ms.to A_44.out hb51)
  have V_54 := Lib.hid (Ms.to V_45.out hb51)
  have R_55 := Lib.hid (Is.to R_46.out hb51)
  have I_56 := Lib.hid (Is.to I_47.out hb51)
  have Q_57 := Lib.hid (Ms.to Q_49.out hb51)
  have HB_58 := Lib.hid (bt HB_48.out hb51)
  have P_59 := Lib.hid hn50.sl
  clear hn50 hb51
  go_wp2_with fail
  refine (ridentity_any n _ k3).mono ?_
  rintro e x62 ⟨ve, rfl, hn60, hb61⟩
  have A_63 := Lib.hid (Ms.to A_53.out hb61)
  have V_64 := Lib.hid (Ms.to V_54.out hb61)
  have R_65 := Lib.hid (Is.to R_55.out hb61)
  have I_66 := Lib.hid (Is.to I_56.out hb61)
  have Q_67 := Lib.hid (Ms.to Q_57.out hb61)
  have P_68 := Lib.hid (Ms.to P_59.out hb61)
  have HB_69 := Lib.hid (bt HB_58.out hb61)
  have E_70 := Lib.hid hn60.sl
  clear hn60 hb61
  go_wp2_with fail
  refine (msame_c _ _ _ _ P_68.out E_70.out).mono ?_
  rintro e x72 ⟨rfl, hd71⟩
  have A_73 := Lib.hid (Ms.dr A_63.out hd71)
  have V_74 := Lib.hid (Ms.dr V_64.out hd71)
  have R_75 := Lib.hid (Is.dr R_65.out hd71)
  have I_76 := Lib.hid (Is.dr I_66.out hd71)
  have Q_77 := Lib.hid (Ms.dr Q_67.out hd71)
  have P_78 := Lib.hid (Ms.dr P_68.out hd71)
  have E_79 := Lib.hid (Ms.dr E_70.out hd71)
  have HB_80 := Lib.hid (bd2 HB_69.out hd71)
  clear hd71
  go_wp2_with fail
  go_ret
  exact ⟨by first | rfl | simp, HB_80.out⟩
theorem leftlaw_walk (v0 : Value) (a : List (List Nat)) (w : World) (h0 : Ms w v0 a) : Calls Try.prog 9 #[v0] w (lawPost w) := by
  by_cases s0 : smallB a = true
  · by_cases hv : validB a = true
    · obtain ⟨r, n, hR, k0, k2, k1, k3⟩ := Rect.of_valid h0 hv
      have hle := indF_le hR
      by_cases hK : (indF n (el a) r).length = n
      · exact left_full v0 a w h0 s0 hR k0 k1 k2 k3 hK
      · exact left_divl v0 a w h0 s0 hR k0 k1 k2 k3 rfl (by omega)
    · exact left_inv v0 a w h0 s0 (by simpa using hv)
  · exact GfmatrixLeftInverse_e v0 a w h0 (by simpa using s0)
end Go.Proofs.Ytiibdoibcbokcaa
