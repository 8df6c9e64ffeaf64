/- The walk of the law on products. WRITTEN BY gen_Nb.py. -/
import Derived.Test.YtiibdoibcbokcaaNa
namespace Go.Proofs.Ytiibdoibcbokcaa
open Go Go.RowKit Lin
set_option linter.unusedVariables false

theorem bsame_c (v1 v2 : Value) (d : List Nat) (w : World) (h1 : Bs w v1 d) (h2 : Bs w v2 d) : Calls Try.prog 21 #[v1, v2] w fun e w' => e = .returned (.bool true) ∧ w = w' :=
  (same_any v1 v2 d d w h1 h2).mono fun _ _ ⟨h, hw⟩ => ⟨by rw [h]; simp, hw⟩
theorem smallB_short {m : List (List Nat)} (h : smallB m = true) : Short m := by
  obtain ⟨h1, h2⟩ := (smallB_iff m).1 h
  exact ⟨by omega, fun i hi => by have := h2 i hi; omega⟩
theorem valid_of_rect {r n : Nat} {m : List (List Nat)} (hR : Rect r n m) (h0 : 0 < r) (hn0 : 0 < n) (hr64 : r ≤ 64) (hn64 : n ≤ 64) : validB m = true :=
  (validB_iff m).2 ⟨by rw [hR.len]; omega, by rw [hR.len]; omega, by rw [(hR.row 0 h0).1]; omega, by rw [(hR.row 0 h0).1]; omega, fun i hi => by rw [hR.len] at hi; rw [(hR.row i hi).1, (hR.row 0 h0).1]⟩

set_option maxHeartbeats 8000000 in
set_option maxRecDepth 100000 in
theorem prod_e1 (v0 v1 v2 : Value) (a b : List (List Nat)) (l : List Nat) (w : World) (h0 : Ms w v0 a) (h1 : Ms w v1 b) (h2 : Bs w v2 l) (s0 : smallB a = false) : Calls Try.prog 4 #[v0, v1, v2] w (lawPost w) := by
  have A := Lib.hid h0
  have B := Lib.hid h1
  have S0 := Lib.hid s0
  clear h0 h1 h2 s0
  go_enter Try.func4, Try.ntmps4
  go_wp2_with fail
  refine (awake_any _).mono ?_
  rintro e x2 ⟨rfl, hb1⟩
  have A_3 := Lib.hid (Ms.to A.out hb1)
  have B_4 := Lib.hid (Ms.to B.out hb1)
  have HB_5 := Lib.hid (hb1)
  clear hb1
  go_wp2_with fail
  refine (small_b _ a _ false A_3.out S0.out).mono ?_
  rintro e w' ⟨rfl, rfl⟩
  go_wp2_with fail
  go_ret
  exact ⟨by first | rfl | simp, HB_5.out⟩
set_option maxHeartbeats 8000000 in
set_option maxRecDepth 100000 in
theorem prod_e2 (v0 v1 v2 : Value) (a b : List (List Nat)) (l : List Nat) (w : World) (h0 : Ms w v0 a) (h1 : Ms w v1 b) (h2 : Bs w v2 l) (s0 : smallB a = true) (s1 : smallB b = false) : Calls Try.prog 4 #[v0, v1, v2] w (lawPost w) := by
  have A := Lib.hid h0
  have B := Lib.hid h1
  have S0 := Lib.hid s0
  have S1 := Lib.hid s1
  clear h0 h1 h2 s0 s1
  go_enter Try.func4, Try.ntmps4
  go_wp2_with fail
  refine (awake_any _).mono ?_
  rintro e x2 ⟨rfl, hb1⟩
  have A_3 := Lib.hid (Ms.to A.out hb1)
  have B_4 := Lib.hid (Ms.to B.out hb1)
  have HB_5 := Lib.hid (hb1)
  clear hb1
  go_wp2_with fail
  refine (small_b _ a _ true A_3.out S0.out).mono ?_
  rintro e w' ⟨rfl, rfl⟩
  go_wp2_with fail
  refine (small_b _ b _ false B_4.out S1.out).mono ?_
  rintro e w' ⟨rfl, rfl⟩
  go_wp2_with fail
  go_ret
  exact ⟨by first | rfl | simp, HB_5.out⟩
set_option maxHeartbeats 8000000 in
set_option maxRecDepth 100000 in
theorem prod_e3 (v0 v1 v2 : Value) (a b : List (List Nat)) (l : List Nat) (w : World) (h0 : Ms w v0 a) (h1 : Ms w v1 b) (h2 : Bs w v2 l) (s0 : smallB a = true) (s1 : smallB b = true) (hl : 10 < l.length) : Calls Try.prog 4 #[v0, v1, v2] w (lawPost w) := by
  have A := Lib.hid h0
  have B := Lib.hid h1
  have S0 := Lib.hid s0
  have S1 := Lib.hid s1
  obtain ⟨A2, c2, rfl⟩ := h2.form
  generalize l.length = q at *
  have hd : decide ((10 : Int) < (q : Int)) = true := by simp; omega
  clear h0 h1 h2 s0 s1 hl
  go_enter Try.func4, Try.ntmps4
  go_wp2_with fail
  refine (awake_any _).mono ?_
  rintro e x2 ⟨rfl, hb1⟩
  have A_3 := Lib.hid (Ms.to A.out hb1)
  have B_4 := Lib.hid (Ms.to B.out hb1)
  have HB_5 := Lib.hid (hb1)
  clear hb1
  go_wp2_with fail
  refine (small_b _ a _ true A_3.out S0.out).mono ?_
  rintro e w' ⟨rfl, rfl⟩
  go_wp2_with fail
  refine (small_b _ b _ true B_4.out S1.out).mono ?_
  rintro e w' ⟨rfl, rfl⟩
  go_wp2_with fail
  go_ret
  exact ⟨by first | rfl | simp, HB_5.out⟩
set_option maxHeartbeats 8000000 in
set_option maxRecDepth 100000 in
theorem prod_t_ok_ok (v0 v1 v2 : Value) (a b : List (List Nat)) (l : List Nat) (w : World) (h0 : Ms w v0 a) (h1 : Ms w v1 b) (h2 : Bs w v2 l) (s0 : smallB a = true) (s1 : smallB b = true) (hl : l.length ≤ 10) {r n : Nat} (hR : Rect r n a) (k0 : 0 < r) (k1 : 0 < n) (k2 : r ≤ 64) (k3 : n ≤ 64) (hl2 : l.length = n) {c : Nat} (hR2 : Rect n c b) (k4 : 0 < c) (k5 : c ≤ 64) : Calls Try.prog 4 #[v0, v1, v2] w (lawPost w) := by
  have A := Lib.hid h0
  have B := Lib.hid h1
  have L := Lib.hid h2
  have S0 := Lib.hid s0
  have S1 := Lib.hid s1
  have RA := Lib.hid hR
  have VA := Lib.hid (valid_of_rect hR k0 k1 k2 k3)
  obtain ⟨ba, oa, ca, rfl, -, hat⟩ := Ms.open_ h0 hR k0 k1
  obtain ⟨b1, o1, c1, z1, -⟩ := hat 0 k0
  rw [Nat.add_zero] at z1
  have Z := Lib.hid z1
  have hrI : (0 : Int) < (r : Int) := by omega
  clear hat z1
  have RB := Lib.hid hR2
  have VB := Lib.hid (valid_of_rect hR2 k1 k4 k3 k5)
  obtain ⟨bb, ob, cb, rfl, -, -⟩ := Ms.open_ h1 hR2 k1 k4
  have gd : ((n : Int) != (n : Int)) = false := by simp
  obtain ⟨A2, c2, rfl⟩ := h2.form
  obtain ⟨q0, hq0⟩ : ∃ q0, l.length = q0 := ⟨_, rfl⟩
  have Q := Lib.hid hq0
  have hd : decide ((10 : Int) < (q0 : Int)) = false := by simp; omega
  have gl : ((q0 : Int) != (n : Int)) = false := by simp; omega
  have HL2 := Lib.hid hl2
  rw [hq0] at L ⊢
  clear h0 h1 h2 s0 s1 hq0 hl hl2 hR hR2
  go_enter Try.func4, Try.ntmps4
  go_wp2_with fail
  refine (awake_any _).mono ?_
  rintro e x2 ⟨rfl, hb1⟩
  have A_3 := Lib.hid (Ms.to A.out hb1)
  have B_4 := Lib.hid (Ms.to B.out hb1)
  have L_5 := Lib.hid (Bs.to L.out hb1)
  have HB_6 := Lib.hid (hb1)
  have z_7 := (HB_6.out.cell (World.block_lt_of_cell? w _ Z.out)).trans Z.out
  clear hb1
  go_wp2_with fail
  refine (small_b _ a _ true A_3.out S0.out).mono ?_
  rintro e w' ⟨rfl, rfl⟩
  go_wp2_with fail
  refine (small_b _ b _ true B_4.out S1.out).mono ?_
  rintro e w' ⟨rfl, rfl⟩
  go_wp2_with fail
  refine (copied_any _ a _ A_3.out (smallB_short S0.out)).mono ?_
  rintro e x10 ⟨vx, rfl, hn8, hb9⟩
  have A_11 := Lib.hid (Ms.to A_3.out hb9)
  have B_12 := Lib.hid (Ms.to B_4.out hb9)
  have L_13 := Lib.hid (Bs.to L_5.out hb9)
  have HB_14 := Lib.hid (bt HB_6.out hb9)
  have z_15 := (HB_14.out.cell (World.block_lt_of_cell? w _ Z.out)).trans Z.out
  clear z_7
  have X_16 := Lib.hid hn8.sl
  clear hn8 hb9
  go_wp2_with fail
  refine (copied_any _ b _ B_12.out (smallB_short S1.out)).mono ?_
  rintro e x19 ⟨vy, rfl, hn17, hb18⟩
  have A_20 := Lib.hid (Ms.to A_11.out hb18)
  have B_21 := Lib.hid (Ms.to B_12.out hb18)
  have L_22 := Lib.hid (Bs.to L_13.out hb18)
  have X_23 := Lib.hid (Ms.to X_16.out hb18)
  have HB_24 := Lib.hid (bt HB_14.out hb18)
  have z_25 := (HB_24.out.cell (World.block_lt_of_cell? w _ Z.out)).trans Z.out
  clear z_15
  have Y_26 := Lib.hid hn17.sl
  clear hn17 hb18
  go_wp2_with fail
  refine (mul_ok _ _ a b _ X_23.out RA.out Y_26.out RB.out k0 k1 k4 k2 k3 k5).mono ?_
  rintro e x29 ⟨gp, capp, rfl, -, hn27, hb28⟩
  have A_30 := Lib.hid (Ms.to A_20.out hb28)
  have B_31 := Lib.hid (Ms.to B_21.out hb28)
  have L_32 := Lib.hid (Bs.to L_22.out hb28)
  have X_33 := Lib.hid (Ms.to X_23.out hb28)
  have Y_34 := Lib.hid (Ms.to Y_26.out hb28)
  have HB_35 := Lib.hid (bt HB_24.out hb28)
  have z_36 := (HB_35.out.cell (World.block_lt_of_cell? w _ Z.out)).trans Z.out
  clear z_25
  have P_37 := Lib.hid hn27.sl
  clear hn27 hb28
  go_wp2_with fail
  refine (apply_ok _ _ a l _ X_33.out RA.out k0 k1 k2 k3 L_32.out HL2.out).mono ?_
  rintro e x40 ⟨vq, rfl, hn38, hb39⟩
  have A_41 := Lib.hid (Ms.to A_30.out hb39)
  have B_42 := Lib.hid (Ms.to B_31.out hb39)
  have L_43 := Lib.hid (Bs.to L_32.out hb39)
  have X_44 := Lib.hid (Ms.to X_33.out hb39)
  have Y_45 := Lib.hid (Ms.to Y_34.out hb39)
  have P_46 := Lib.hid (Ms.to P_37.out hb39)
  have HB_47 := Lib.hid (bt HB_35.out hb39)
  have z_48 := (HB_47.out.cell (World.block_lt_of_cell? w _ Z.out)).trans Z.out
  clear z_36
  have Q_49 := Lib.hid hn38
  clear hn38 hb39
  go_wp2_with fail
  refine (msame_c _ _ a _ X_44.out A_41.out).mono ?_
  rintro e x51 ⟨rfl, hd50⟩
  have A_52 := Lib.hid (Ms.dr A_41.out hd50)
  have B_53 := Lib.hid (Ms.dr B_42.out hd50)
  have L_54 := Lib.hid (Bs.dr L_43.out hd50)
  have X_55 := Lib.hid (Ms.dr X_44.out hd50)
  have Y_56 := Lib.hid (Ms.dr Y_45.out hd50)
  have P_57 := Lib.hid (Ms.dr P_46.out hd50)
  have Q_58 := Lib.hid (Bs.dr Q_49.out hd50)
  have HB_59 := Lib.hid (bd2 HB_47.out hd50)
  have z_60 := (HB_59.out.cell (World.block_lt_of_cell? w _ Z.out)).trans Z.out
  clear z_48
  clear hd50
  go_wp2_with fail
  refine (msame_c _ _ b _ Y_56.out B_53.out).mono ?_
  rintro e x62 ⟨rfl, hd61⟩
  have A_63 := Lib.hid (Ms.dr A_52.out hd61)
  have B_64 := Lib.hid (Ms.dr B_53.out hd61)
  have L_65 := Lib.hid (Bs.dr L_54.out hd61)
  have X_66 := Lib.hid (Ms.dr X_55.out hd61)
  have Y_67 := Lib.hid (Ms.dr Y_56.out hd61)
  have P_68 := Lib.hid (Ms.dr P_57.out hd61)
  have Q_69 := Lib.hid (Bs.dr Q_58.out hd61)
  have HB_70 := Lib.hid (bd2 HB_59.out hd61)
  have z_71 := (HB_70.out.cell (World.block_lt_of_cell? w _ Z.out)).trans Z.out
  clear z_60
  clear hd61
  go_wp2_with fail
  refine (rvalid_b _ a _ true A_63.out VA.out).mono ?_
  rintro e x73 ⟨rfl, hd72⟩
  have A_74 := Lib.hid (Ms.dr A_63.out hd72)
  have B_75 := Lib.hid (Ms.dr B_64.out hd72)
  have L_76 := Lib.hid (Bs.dr L_65.out hd72)
  have X_77 := Lib.hid (Ms.dr X_66.out hd72)
  have Y_78 := Lib.hid (Ms.dr Y_67.out hd72)
  have P_79 := Lib.hid (Ms.dr P_68.out hd72)
  have Q_80 := Lib.hid (Bs.dr Q_69.out hd72)
  have HB_81 := Lib.hid (bd2 HB_70.out hd72)
  have z_82 := (HB_81.out.cell (World.block_lt_of_cell? w _ Z.out)).trans Z.out
  clear z_71
  clear hd72
  go_wp2_with fail
  refine (rapply_any _ _ a l _ A_74.out RA.out k0 k1 k2 k3 L_76.out HL2.out).mono ?_
  rintro e x85 ⟨vw, rfl, hn83, hb84⟩
  have A_86 := Lib.hid (Ms.to A_74.out hb84)
  have B_87 := Lib.hid (Ms.to B_75.out hb84)
  have L_88 := Lib.hid (Bs.to L_76.out hb84)
  have X_89 := Lib.hid (Ms.to X_77.out hb84)
  have Y_90 := Lib.hid (Ms.to Y_78.out hb84)
  have P_91 := Lib.hid (Ms.to P_79.out hb84)
  have Q_92 := Lib.hid (Bs.to Q_80.out hb84)
  have HB_93 := Lib.hid (bt HB_81.out hb84)
  have z_94 := (HB_93.out.cell (World.block_lt_of_cell? w _ Z.out)).trans Z.out
  clear z_82
  have W_95 := Lib.hid hn83
  clear hn83 hb84
  go_wp2_with fail
  refine (bsame_c _ _ _ _ Q_92.out W_95.out).mono ?_
  rintro e w' ⟨rfl, rfl⟩
  go_wp2_with fail
  refine (rvalid_b _ a _ true A_86.out VA.out).mono ?_
  rintro e x97 ⟨rfl, hd96⟩
  have A_98 := Lib.hid (Ms.dr A_86.out hd96)
  have B_99 := Lib.hid (Ms.dr B_87.out hd96)
  have L_100 := Lib.hid (Bs.dr L_88.out hd96)
  have X_101 := Lib.hid (Ms.dr X_89.out hd96)
  have Y_102 := Lib.hid (Ms.dr Y_90.out hd96)
  have P_103 := Lib.hid (Ms.dr P_91.out hd96)
  have Q_104 := Lib.hid (Bs.dr Q_92.out hd96)
  have W_105 := Lib.hid (Bs.dr W_95.out hd96)
  have HB_106 := Lib.hid (bd2 HB_93.out hd96)
  have z_107 := (HB_106.out.cell (World.block_lt_of_cell? w _ Z.out)).trans Z.out
  clear z_94
  clear hd96
  go_wp2_with fail
  refine (rvalid_b _ b _ true B_99.out VB.out).mono ?_
  rintro e x109 ⟨rfl, hd108⟩
  have A_110 := Lib.hid (Ms.dr A_98.out hd108)
  have B_111 := Lib.hid (Ms.dr B_99.out hd108)
  have L_112 := Lib.hid (Bs.dr L_100.out hd108)
  have X_113 := Lib.hid (Ms.dr X_101.out hd108)
  have Y_114 := Lib.hid (Ms.dr Y_102.out hd108)
  have P_115 := Lib.hid (Ms.dr P_103.out hd108)
  have Q_116 := Lib.hid (Bs.dr Q_104.out hd108)
  have W_117 := Lib.hid (Bs.dr W_105.out hd108)
  have HB_118 := Lib.hid (bd2 HB_106.out hd108)
  have z_119 := (HB_118.out.cell (World.block_lt_of_cell? w _ Z.out)).trans Z.out
  clear z_107
  clear hd108
  go_wp2_with fail
  refine (rmatmul_any _ _ a b _ A_110.out RA.out B_111.out RB.out k0 k1 k4 k2 k3 k5).mono ?_
  rintro e x122 ⟨vv, rfl, hn120, hb121⟩
  have A_123 := Lib.hid (Ms.to A_110.out hb121)
  have B_124 := Lib.hid (Ms.to B_111.out hb121)
  have L_125 := Lib.hid (Bs.to L_112.out hb121)
  have X_126 := Lib.hid (Ms.to X_113.out hb121)
  have Y_127 := Lib.hid (Ms.to Y_114.out hb121)
  have P_128 := Lib.hid (Ms.to P_115.out hb121)
  have Q_129 := Lib.hid (Bs.to Q_116.out hb121)
  have W_130 := Lib.hid (Bs.to W_117.out hb121)
  have HB_131 := Lib.hid (bt HB_118.out hb121)
  have z_132 := (HB_131.out.cell (World.block_lt_of_cell? w _ Z.out)).trans Z.out
  clear z_119
  have V_133 := Lib.hid hn120.sl
  clear hn120 hb121
  go_wp2_with fail
  refine (msame_c _ _ _ _ P_128.out V_133.out).mono ?_
  rintro e x135 ⟨rfl, hd134⟩
  have A_136 := Lib.hid (Ms.dr A_123.out hd134)
  have B_137 := Lib.hid (Ms.dr B_124.out hd134)
  have L_138 := Lib.hid (Bs.dr L_125.out hd134)
  have X_139 := Lib.hid (Ms.dr X_126.out hd134)
  have Y_140 := Lib.hid (Ms.dr Y_127.out hd134)
  have P_141 := Lib.hid (Ms.dr P_128.out hd134)
  have Q_142 := Lib.hid (Bs.dr Q_129.out hd134)
  have W_143 := Lib.hid (Bs.dr W_130.out hd134)
  have V_144 := Lib.hid (Ms.dr V_133.out hd134)
  have HB_145 := Lib.hid (bd2 HB_131.out hd134)
  have z_146 := (HB_145.out.cell (World.block_lt_of_cell? w _ Z.out)).trans Z.out
  clear z_132
  clear hd134
  go_wp2_with fail
  go_ret
  exact ⟨by first | rfl | simp, HB_145.out⟩
set_option maxHeartbeats 8000000 in
set_option maxRecDepth 100000 in
theorem prod_t_ok_vb (v0 v1 v2 : Value) (a b : List (List Nat)) (l : List Nat) (w : World) (h0 : Ms w v0 a) (h1 : Ms w v1 b) (h2 : Bs w v2 l) (s0 : smallB a = true) (s1 : smallB b = true) (hl : l.length ≤ 10) {r n : Nat} (hR : Rect r n a) (k0 : 0 < r) (k1 : 0 < n) (k2 : r ≤ 64) (k3 : n ≤ 64) (hl2 : l.length = n) (hv2 : validB b = false) : Calls Try.prog 4 #[v0, v1, v2] w (lawPost w) := by
  have A := Lib.hid h0
  have B := Lib.hid h1
  have L := Lib.hid h2
  have S0 := Lib.hid s0
  have S1 := Lib.hid s1
  have RA := Lib.hid hR
  have VA := Lib.hid (valid_of_rect hR k0 k1 k2 k3)
  obtain ⟨ba, oa, ca, rfl, -, hat⟩ := Ms.open_ h0 hR k0 k1
  obtain ⟨b1, o1, c1, z1, -⟩ := hat 0 k0
  rw [Nat.add_zero] at z1
  have Z := Lib.hid z1
  have hrI : (0 : Int) < (r : Int) := by omega
  clear hat z1
  have VB := Lib.hid hv2
  obtain ⟨A2, c2, rfl⟩ := h2.form
  obtain ⟨q0, hq0⟩ : ∃ q0, l.length = q0 := ⟨_, rfl⟩
  have Q := Lib.hid hq0
  have hd : decide ((10 : Int) < (q0 : Int)) = false := by simp; omega
  have gl : ((q0 : Int) != (n : Int)) = false := by simp; omega
  have HL2 := Lib.hid hl2
  rw [hq0] at L ⊢
  clear h0 h1 h2 s0 s1 hq0 hl hl2 hR hv2
  go_enter Try.func4, Try.ntmps4
  go_wp2_with fail
  refine (awake_any _).mono ?_
  rintro e x2 ⟨rfl, hb1⟩
  have A_3 := Lib.hid (Ms.to A.out hb1)
  have B_4 := Lib.hid (Ms.to B.out hb1)
  have L_5 := Lib.hid (Bs.to L.out hb1)
  have HB_6 := Lib.hid (hb1)
  have z_7 := (HB_6.out.cell (World.block_lt_of_cell? w _ Z.out)).trans Z.out
  clear hb1
  go_wp2_with fail
  refine (small_b _ a _ true A_3.out S0.out).mono ?_
  rintro e w' ⟨rfl, rfl⟩
  go_wp2_with fail
  refine (small_b _ b _ true B_4.out S1.out).mono ?_
  rintro e w' ⟨rfl, rfl⟩
  go_wp2_with fail
  refine (copied_any _ a _ A_3.out (smallB_short S0.out)).mono ?_
  rintro e x10 ⟨vx, rfl, hn8, hb9⟩
  have A_11 := Lib.hid (Ms.to A_3.out hb9)
  have B_12 := Lib.hid (Ms.to B_4.out hb9)
  have L_13 := Lib.hid (Bs.to L_5.out hb9)
  have HB_14 := Lib.hid (bt HB_6.out hb9)
  have z_15 := (HB_14.out.cell (World.block_lt_of_cell? w _ Z.out)).trans Z.out
  clear z_7
  have X_16 := Lib.hid hn8.sl
  clear hn8 hb9
  go_wp2_with fail
  refine (copied_any _ b _ B_12.out (smallB_short S1.out)).mono ?_
  rintro e x19 ⟨vy, rfl, hn17, hb18⟩
  have A_20 := Lib.hid (Ms.to A_11.out hb18)
  have B_21 := Lib.hid (Ms.to B_12.out hb18)
  have L_22 := Lib.hid (Bs.to L_13.out hb18)
  have X_23 := Lib.hid (Ms.to X_16.out hb18)
  have HB_24 := Lib.hid (bt HB_14.out hb18)
  have z_25 := (HB_24.out.cell (World.block_lt_of_cell? w _ Z.out)).trans Z.out
  clear z_15
  have Y_26 := Lib.hid hn17.sl
  clear hn17 hb18
  go_wp2_with fail
  refine (mul_err _ _ a b _ X_23.out Y_26.out (Or.inr (Or.inl VB.out))).mono ?_
  rintro e w' ⟨rfl, rfl⟩
  go_wp2_with fail
  refine (apply_ok _ _ a l _ X_23.out RA.out k0 k1 k2 k3 L_22.out HL2.out).mono ?_
  rintro e x29 ⟨vq, rfl, hn27, hb28⟩
  have A_30 := Lib.hid (Ms.to A_20.out hb28)
  have B_31 := Lib.hid (Ms.to B_21.out hb28)
  have L_32 := Lib.hid (Bs.to L_22.out hb28)
  have X_33 := Lib.hid (Ms.to X_23.out hb28)
  have Y_34 := Lib.hid (Ms.to Y_26.out hb28)
  have HB_35 := Lib.hid (bt HB_24.out hb28)
  have z_36 := (HB_35.out.cell (World.block_lt_of_cell? w _ Z.out)).trans Z.out
  clear z_25
  have Q_37 := Lib.hid hn27
  clear hn27 hb28
  go_wp2_with fail
  refine (msame_c _ _ a _ X_33.out A_30.out).mono ?_
  rintro e x39 ⟨rfl, hd38⟩
  have A_40 := Lib.hid (Ms.dr A_30.out hd38)
  have B_41 := Lib.hid (Ms.dr B_31.out hd38)
  have L_42 := Lib.hid (Bs.dr L_32.out hd38)
  have X_43 := Lib.hid (Ms.dr X_33.out hd38)
  have Y_44 := Lib.hid (Ms.dr Y_34.out hd38)
  have Q_45 := Lib.hid (Bs.dr Q_37.out hd38)
  have HB_46 := Lib.hid (bd2 HB_35.out hd38)
  have z_47 := (HB_46.out.cell (World.block_lt_of_cell? w _ Z.out)).trans Z.out
  clear z_36
  clear hd38
  go_wp2_with fail
  refine (msame_c _ _ b _ Y_44.out B_41.out).mono ?_
  rintro e x49 ⟨rfl, hd48⟩
  have A_50 := Lib.hid (Ms.dr A_40.out hd48)
  have B_51 := Lib.hid (Ms.dr B_41.out hd48)
  have L_52 := Lib.hid (Bs.dr L_42.out hd48)
  have X_53 := Lib.hid (Ms.dr X_43.out hd48)
  have Y_54 := Lib.hid (Ms.dr Y_44.out hd48)
  have Q_55 := Lib.hid (Bs.dr Q_45.out hd48)
  have HB_56 := Lib.hid (bd2 HB_46.out hd48)
  have z_57 := (HB_56.out.cell (World.block_lt_of_cell? w _ Z.out)).trans Z.out
  clear z_47
  clear hd48
  go_wp2_with fail
  refine (rvalid_b _ a _ true A_50.out VA.out).mono ?_
  rintro e x59 ⟨rfl, hd58⟩
  have A_60 := Lib.hid (Ms.dr A_50.out hd58)
  have B_61 := Lib.hid (Ms.dr B_51.out hd58)
  have L_62 := Lib.hid (Bs.dr L_52.out hd58)
  have X_63 := Lib.hid (Ms.dr X_53.out hd58)
  have Y_64 := Lib.hid (Ms.dr Y_54.out hd58)
  have Q_65 := Lib.hid (Bs.dr Q_55.out hd58)
  have HB_66 := Lib.hid (bd2 HB_56.out hd58)
  have z_67 := (HB_66.out.cell (World.block_lt_of_cell? w _ Z.out)).trans Z.out
  clear z_57
  clear hd58
  go_wp2_with fail
  refine (rapply_any _ _ a l _ A_60.out RA.out k0 k1 k2 k3 L_62.out HL2.out).mono ?_
  rintro e x70 ⟨vw, rfl, hn68, hb69⟩
  have A_71 := Lib.hid (Ms.to A_60.out hb69)
  have B_72 := Lib.hid (Ms.to B_61.out hb69)
  have L_73 := Lib.hid (Bs.to L_62.out hb69)
  have X_74 := Lib.hid (Ms.to X_63.out hb69)
  have Y_75 := Lib.hid (Ms.to Y_64.out hb69)
  have Q_76 := Lib.hid (Bs.to Q_65.out hb69)
  have HB_77 := Lib.hid (bt HB_66.out hb69)
  have z_78 := (HB_77.out.cell (World.block_lt_of_cell? w _ Z.out)).trans Z.out
  clear z_67
  have W_79 := Lib.hid hn68
  clear hn68 hb69
  go_wp2_with fail
  refine (bsame_c _ _ _ _ Q_76.out W_79.out).mono ?_
  rintro e w' ⟨rfl, rfl⟩
  go_wp2_with fail
  refine (rvalid_b _ a _ true A_71.out VA.out).mono ?_
  rintro e x81 ⟨rfl, hd80⟩
  have A_82 := Lib.hid (Ms.dr A_71.out hd80)
  have B_83 := Lib.hid (Ms.dr B_72.out hd80)
  have L_84 := Lib.hid (Bs.dr L_73.out hd80)
  have X_85 := Lib.hid (Ms.dr X_74.out hd80)
  have Y_86 := Lib.hid (Ms.dr Y_75.out hd80)
  have Q_87 := Lib.hid (Bs.dr Q_76.out hd80)
  have W_88 := Lib.hid (Bs.dr W_79.out hd80)
  have HB_89 := Lib.hid (bd2 HB_77.out hd80)
  have z_90 := (HB_89.out.cell (World.block_lt_of_cell? w _ Z.out)).trans Z.out
  clear z_78
  clear hd80
  go_wp2_with fail
  refine (rvalid_b _ b _ false B_83.out VB.out).mono ?_
  rintro e x92 ⟨rfl, hd91⟩
  have A_93 := Lib.hid (Ms.dr A_82.out hd91)
  have B_94 := Lib.hid (Ms.dr B_83.out hd91)
  have L_95 := Lib.hid (Bs.dr L_84.out hd91)
  have X_96 := Lib.hid (Ms.dr X_85.out hd91)
  have Y_97 := Lib.hid (Ms.dr Y_86.out hd91)
  have Q_98 := Lib.hid (Bs.dr Q_87.out hd91)
  have W_99 := Lib.hid (Bs.dr W_88.out hd91)
  have HB_100 := Lib.hid (bd2 HB_89.out hd91)
  have z_101 := (HB_100.out.cell (World.block_lt_of_cell? w _ Z.out)).trans Z.out
  clear z_90
  clear hd91
  go_wp2_with fail
  go_ret
  exact ⟨by first | rfl | simp, HB_100.out⟩
set_option maxHeartbeats 8000000 in
set_option maxRecDepth 100000 in
theorem prod_t_ok_dim (v0 v1 v2 : Value) (a b : List (List Nat)) (l : List Nat) (w : World) (h0 : Ms w v0 a) (h1 : Ms w v1 b) (h2 : Bs w v2 l) (s0 : smallB a = true) (s1 : smallB b = true) (hl : l.length ≤ 10) {r n : Nat} (hR : Rect r n a) (k0 : 0 < r) (k1 : 0 < n) (k2 : r ≤ 64) (k3 : n ≤ 64) (hl2 : l.length = n) {r2 c : Nat} (hR2 : Rect r2 c b) (k4 : 0 < c) (k5 : c ≤ 64) (k6 : 0 < r2) (k7 : r2 ≤ 64) (hne : n ≠ r2) : Calls Try.prog 4 #[v0, v1, v2] w (lawPost w) := by
  have A := Lib.hid h0
  have B := Lib.hid h1
  have L := Lib.hid h2
  have S0 := Lib.hid s0
  have S1 := Lib.hid s1
  have RA := Lib.hid hR
  have VA := Lib.hid (valid_of_rect hR k0 k1 k2 k3)
  obtain ⟨ba, oa, ca, rfl, -, hat⟩ := Ms.open_ h0 hR k0 k1
  obtain ⟨b1, o1, c1, z1, -⟩ := hat 0 k0
  rw [Nat.add_zero] at z1
  have Z := Lib.hid z1
  have hrI : (0 : Int) < (r : Int) := by omega
  clear hat z1
  have RB := Lib.hid hR2
  have VB := Lib.hid (valid_of_rect hR2 k6 k4 k7 k5)
  obtain ⟨bb, ob, cb, rfl, -, -⟩ := Ms.open_ h1 hR2 k6 k4
  have gd : ((n : Int) != (r2 : Int)) = true := by simp; omega
  have NE := Lib.hid hne
  obtain ⟨A2, c2, rfl⟩ := h2.form
  obtain ⟨q0, hq0⟩ : ∃ q0, l.length = q0 := ⟨_, rfl⟩
  have Q := Lib.hid hq0
  have hd : decide ((10 : Int) < (q0 : Int)) = false := by simp; omega
  have gl : ((q0 : Int) != (n : Int)) = false := by simp; omega
  have HL2 := Lib.hid hl2
  rw [hq0] at L ⊢
  clear h0 h1 h2 s0 s1 hq0 hl hl2 hR hR2 hne
  go_enter Try.func4, Try.ntmps4
  go_wp2_with fail
  refine (awake_any _).mono ?_
  rintro e x2 ⟨rfl, hb1⟩
  have A_3 := Lib.hid (Ms.to A.out hb1)
  have B_4 := Lib.hid (Ms.to B.out hb1)
  have L_5 := Lib.hid (Bs.to L.out hb1)
  have HB_6 := Lib.hid (hb1)
  have z_7 := (HB_6.out.cell (World.block_lt_of_cell? w _ Z.out)).trans Z.out
  clear hb1
  go_wp2_with fail
  refine (small_b _ a _ true A_3.out S0.out).mono ?_
  rintro e w' ⟨rfl, rfl⟩
  go_wp2_with fail
  refine (small_b _ b _ true B_4.out S1.out).mono ?_
  rintro e w' ⟨rfl, rfl⟩
  go_wp2_with fail
  refine (copied_any _ a _ A_3.out (smallB_short S0.out)).mono ?_
  rintro e x10 ⟨vx, rfl, hn8, hb9⟩
  have A_11 := Lib.hid (Ms.to A_3.out hb9)
  have B_12 := Lib.hid (Ms.to B_4.out hb9)
  have L_13 := Lib.hid (Bs.to L_5.out hb9)
  have HB_14 := Lib.hid (bt HB_6.out hb9)
  have z_15 := (HB_14.out.cell (World.block_lt_of_cell? w _ Z.out)).trans Z.out
  clear z_7
  have X_16 := Lib.hid hn8.sl
  clear hn8 hb9
  go_wp2_with fail
  refine (copied_any _ b _ B_12.out (smallB_short S1.out)).mono ?_
  rintro e x19 ⟨vy, rfl, hn17, hb18⟩
  have A_20 := Lib.hid (Ms.to A_11.out hb18)
  have B_21 := Lib.hid (Ms.to B_12.out hb18)
  have L_22 := Lib.hid (Bs.to L_13.out hb18)
  have X_23 := Lib.hid (Ms.to X_16.out hb18)
  have HB_24 := Lib.hid (bt HB_14.out hb18)
  have z_25 := (HB_24.out.cell (World.block_lt_of_cell? w _ Z.out)).trans Z.out
  clear z_15
  have Y_26 := Lib.hid hn17.sl
  clear hn17 hb18
  go_wp2_with fail
  refine (mul_err _ _ a b _ X_23.out Y_26.out (Or.inr (Or.inr (by rw [(RA.out.row 0 k0).1, RB.out.len]; exact NE.out)))).mono ?_
  rintro e w' ⟨rfl, rfl⟩
  go_wp2_with fail
  refine (apply_ok _ _ a l _ X_23.out RA.out k0 k1 k2 k3 L_22.out HL2.out).mono ?_
  rintro e x29 ⟨vq, rfl, hn27, hb28⟩
  have A_30 := Lib.hid (Ms.to A_20.out hb28)
  have B_31 := Lib.hid (Ms.to B_21.out hb28)
  have L_32 := Lib.hid (Bs.to L_22.out hb28)
  have X_33 := Lib.hid (Ms.to X_23.out hb28)
  have Y_34 := Lib.hid (Ms.to Y_26.out hb28)
  have HB_35 := Lib.hid (bt HB_24.out hb28)
  have z_36 := (HB_35.out.cell (World.block_lt_of_cell? w _ Z.out)).trans Z.out
  clear z_25
  have Q_37 := Lib.hid hn27
  clear hn27 hb28
  go_wp2_with fail
  refine (msame_c _ _ a _ X_33.out A_30.out).mono ?_
  rintro e x39 ⟨rfl, hd38⟩
  have A_40 := Lib.hid (Ms.dr A_30.out hd38)
  have B_41 := Lib.hid (Ms.dr B_31.out hd38)
  have L_42 := Lib.hid (Bs.dr L_32.out hd38)
  have X_43 := Lib.hid (Ms.dr X_33.out hd38)
  have Y_44 := Lib.hid (Ms.dr Y_34.out hd38)
  have Q_45 := Lib.hid (Bs.dr Q_37.out hd38)
  have HB_46 := Lib.hid (bd2 HB_35.out hd38)
  have z_47 := (HB_46.out.cell (World.block_lt_of_cell? w _ Z.out)).trans Z.out
  clear z_36
  clear hd38
  go_wp2_with fail
  refine (msame_c _ _ b _ Y_44.out B_41.out).mono ?_
  rintro e x49 ⟨rfl, hd48⟩
  have A_50 := Lib.hid (Ms.dr A_40.out hd48)
  have B_51 := Lib.hid (Ms.dr B_41.out hd48)
  have L_52 := Lib.hid (Bs.dr L_42.out hd48)
  have X_53 := Lib.hid (Ms.dr X_43.out hd48)
  have Y_54 := Lib.hid (Ms.dr Y_44.out hd48)
  have Q_55 := Lib.hid (Bs.dr Q_45.out hd48)
  have HB_56 := Lib.hid (bd2 HB_46.out hd48)
  have z_57 := (HB_56.out.cell (World.block_lt_of_cell? w _ Z.out)).trans Z.out
  clear z_47
  clear hd48
  go_wp2_with fail
  refine (rvalid_b _ a _ true A_50.out VA.out).mono ?_
  rintro e x59 ⟨rfl, hd58⟩
  have A_60 := Lib.hid (Ms.dr A_50.out hd58)
  have B_61 := Lib.hid (Ms.dr B_51.out hd58)
  have L_62 := Lib.hid (Bs.dr L_52.out hd58)
  have X_63 := Lib.hid (Ms.dr X_53.out hd58)
  have Y_64 := Lib.hid (Ms.dr Y_54.out hd58)
  have Q_65 := Lib.hid (Bs.dr Q_55.out hd58)
  have HB_66 := Lib.hid (bd2 HB_56.out hd58)
  have z_67 := (HB_66.out.cell (World.block_lt_of_cell? w _ Z.out)).trans Z.out
  clear z_57
  clear hd58
  go_wp2_with fail
  refine (rapply_any _ _ a l _ A_60.out RA.out k0 k1 k2 k3 L_62.out HL2.out).mono ?_
  rintro e x70 ⟨vw, rfl, hn68, hb69⟩
  have A_71 := Lib.hid (Ms.to A_60.out hb69)
  have B_72 := Lib.hid (Ms.to B_61.out hb69)
  have L_73 := Lib.hid (Bs.to L_62.out hb69)
  have X_74 := Lib.hid (Ms.to X_63.out hb69)
  have Y_75 := Lib.hid (Ms.to Y_64.out hb69)
  have Q_76 := Lib.hid (Bs.to Q_65.out hb69)
  have HB_77 := Lib.hid (bt HB_66.out hb69)
  have z_78 := (HB_77.out.cell (World.block_lt_of_cell? w _ Z.out)).trans Z.out
  clear z_67
  have W_79 := Lib.hid hn68
  clear hn68 hb69
  go_wp2_with fail
  refine (bsame_c _ _ _ _ Q_76.out W_79.out).mono ?_
  rintro e w' ⟨rfl, rfl⟩
  go_wp2_with fail
  refine (rvalid_b _ a _ true A_71.out VA.out).mono ?_
  rintro e x81 ⟨rfl, hd80⟩
  have A_82 := Lib.hid (Ms.dr A_71.out hd80)
  have B_83 := Lib.hid (Ms.dr B_72.out hd80)
  have L_84 := Lib.hid (Bs.dr L_73.out hd80)
  have X_85 := Lib.hid (Ms.dr X_74.out hd80)
  have Y_86 := Lib.hid (Ms.dr Y_75.out hd80)
  have Q_87 := Lib.hid (Bs.dr Q_76.out hd80)
  have W_88 := Lib.hid (Bs.dr W_79.out hd80)
  have HB_89 := Lib.hid (bd2 HB_77.out hd80)
  have z_90 := (HB_89.out.cell (World.block_lt_of_cell? w _ Z.out)).trans Z.out
  clear z_78
  clear hd80
  go_wp2_with fail
  refine (rvalid_b _ b _ true B_83.out VB.out).mono ?_
  rintro e x92 ⟨rfl, hd91⟩
  have A_93 := Lib.hid (Ms.dr A_82.out hd91)
  have B_94 := Lib.hid (Ms.dr B_83.out hd91)
  have L_95 := Lib.hid (Bs.dr L_84.out hd91)
  have X_96 := Lib.hid (Ms.dr X_85.out hd91)
  have Y_97 := Lib.hid (Ms.dr Y_86.out hd91)
  have Q_98 := Lib.hid (Bs.dr Q_87.out hd91)
  have W_99 := Lib.hid (Bs.dr W_88.out hd91)
  have HB_100 := Lib.hid (bd2 HB_89.out hd91)
  have z_101 := (HB_100.out.cell (World.block_lt_of_cell? w _ Z.out)).trans Z.out
  clear z_90
  clear hd91
  go_wp2_with fail
  go_ret
  exact ⟨by first | rfl | simp, HB_100.out⟩
set_option maxHeartbeats 8000000 in
set_option maxRecDepth 100000 in
theorem prod_t_bad_ok (v0 v1 v2 : Value) (a b : List (List Nat)) (l : List Nat) (w : World) (h0 : Ms w v0 a) (h1 : Ms w v1 b) (h2 : Bs w v2 l) (s0 : smallB a = true) (s1 : smallB b = true) (hl : l.length ≤ 10) {r n : Nat} (hR : Rect r n a) (k0 : 0 < r) (k1 : 0 < n) (k2 : r ≤ 64) (k3 : n ≤ 64) (hl2 : l.length ≠ n) {c : Nat} (hR2 : Rect n c b) (k4 : 0 < c) (k5 : c ≤ 64) : Calls Try.prog 4 #[v0, v1, v2] w (lawPost w) := by
  have A := Lib.hid h0
  have B := Lib.hid h1
  have L := Lib.hid h2
  have S0 := Lib.hid s0
  have S1 := Lib.hid s1
  have RA := Lib.hid hR
  have VA := Lib.hid (valid_of_rect hR k0 k1 k2 k3)
  obtain ⟨ba, oa, ca, rfl, -, hat⟩ := Ms.open_ h0 hR k0 k1
  obtain ⟨b1, o1, c1, z1, -⟩ := hat 0 k0
  rw [Nat.add_zero] at z1
  have Z := Lib.hid z1
  have hrI : (0 : Int) < (r : Int) := by omega
  clear hat z1
  have RB := Lib.hid hR2
  have VB := Lib.hid (valid_of_rect hR2 k1 k4 k3 k5)
  obtain ⟨bb, ob, cb, rfl, -, -⟩ := Ms.open_ h1 hR2 k1 k4
  have gd : ((n : Int) != (n : Int)) = false := by simp
  obtain ⟨A2, c2, rfl⟩ := h2.form
  obtain ⟨q0, hq0⟩ : ∃ q0, l.length = q0 := ⟨_, rfl⟩
  have Q := Lib.hid hq0
  have hd : decide ((10 : Int) < (q0 : Int)) = false := by simp; omega
  have gl : ((q0 : Int) != (n : Int)) = true := by simp; omega
  have HL2 := Lib.hid hl2
  rw [hq0] at L ⊢
  clear h0 h1 h2 s0 s1 hq0 hl hl2 hR hR2
  go_enter Try.func4, Try.ntmps4
  go_wp2_with fail
  refine (awake_any _).mono ?_
  rintro e x2 ⟨rfl, hb1⟩
  have A_3 := Lib.hid (Ms.to A.out hb1)
  have B_4 := Lib.hid (Ms.to B.out hb1)
  have L_5 := Lib.hid (Bs.to L.out hb1)
  have HB_6 := Lib.hid (hb1)
  have z_7 := (HB_6.out.cell (World.block_lt_of_cell? w _ Z.out)).trans Z.out
  clear hb1
  go_wp2_with fail
  refine (small_b _ a _ true A_3.out S0.out).mono ?_
  rintro e w' ⟨rfl, rfl⟩
  go_wp2_with fail
  refine (small_b _ b _ true B_4.out S1.out).mono ?_
  rintro e w' ⟨rfl, rfl⟩
  go_wp2_with fail
  refine (copied_any _ a _ A_3.out (smallB_short S0.out)).mono ?_
  rintro e x10 ⟨vx, rfl, hn8, hb9⟩
  have A_11 := Lib.hid (Ms.to A_3.out hb9)
  have B_12 := Lib.hid (Ms.to B_4.out hb9)
  have L_13 := Lib.hid (Bs.to L_5.out hb9)
  have HB_14 := Lib.hid (bt HB_6.out hb9)
  have z_15 := (HB_14.out.cell (World.block_lt_of_cell? w _ Z.out)).trans Z.out
  clear z_7
  have X_16 := Lib.hid hn8.sl
  clear hn8 hb9
  go_wp2_with fail
  refine (copied_any _ b _ B_12.out (smallB_short S1.out)).mono ?_
  rintro e x19 ⟨vy, rfl, hn17, hb18⟩
  have A_20 := Lib.hid (Ms.to A_11.out hb18)
  have B_21 := Lib.hid (Ms.to B_12.out hb18)
  have L_22 := Lib.hid (Bs.to L_13.out hb18)
  have X_23 := Lib.hid (Ms.to X_16.out hb18)
  have HB_24 := Lib.hid (bt HB_14.out hb18)
  have z_25 := (HB_24.out.cell (World.block_lt_of_cell? w _ Z.out)).trans Z.out
  clear z_15
  have Y_26 := Lib.hid hn17.sl
  clear hn17 hb18
  go_wp2_with fail
  refine (mul_ok _ _ a b _ X_23.out RA.out Y_26.out RB.out k0 k1 k4 k2 k3 k5).mono ?_
  rintro e x29 ⟨gp, capp, rfl, -, hn27, hb28⟩
  have A_30 := Lib.hid (Ms.to A_20.out hb28)
  have B_31 := Lib.hid (Ms.to B_21.out hb28)
  have L_32 := Lib.hid (Bs.to L_22.out hb28)
  have X_33 := Lib.hid (Ms.to X_23.out hb28)
  have Y_34 := Lib.hid (Ms.to Y_26.out hb28)
  have HB_35 := Lib.hid (bt HB_24.out hb28)
  have z_36 := (HB_35.out.cell (World.block_lt_of_cell? w _ Z.out)).trans Z.out
  clear z_25
  have P_37 := Lib.hid hn27.sl
  clear hn27 hb28
  go_wp2_with fail
  refine (apply_err _ _ a l _ X_33.out L_32.out (Or.inr (by rw [(RA.out.row 0 k0).1]; exact fun e => HL2.out e.symm))).mono ?_
  rintro e w' ⟨rfl, rfl⟩
  go_wp2_with fail
  refine (msame_c _ _ a _ X_33.out A_30.out).mono ?_
  rintro e x39 ⟨rfl, hd38⟩
  have A_40 := Lib.hid (Ms.dr A_30.out hd38)
  have B_41 := Lib.hid (Ms.dr B_31.out hd38)
  have L_42 := Lib.hid (Bs.dr L_32.out hd38)
  have X_43 := Lib.hid (Ms.dr X_33.out hd38)
  have Y_44 := Lib.hid (Ms.dr Y_34.out hd38)
  have P_45 := Lib.hid (Ms.dr P_37.out hd38)
  have HB_46 := Lib.hid (bd2 HB_35.out hd38)
  have z_47 := (HB_46.out.cell (World.block_lt_of_cell? w _ Z.out)).trans Z.out
  clear z_36
  clear hd38
  go_wp2_with fail
  refine (msame_c _ _ b _ Y_44.out B_41.out).mono ?_
  rintro e x49 ⟨rfl, hd48⟩
  have A_50 := Lib.hid (Ms.dr A_40.out hd48)
  have B_51 := Lib.hid (Ms.dr B_41.out hd48)
  have L_52 := Lib.hid (Bs.dr L_42.out hd48)
  have X_53 := Lib.hid (Ms.dr X_43.out hd48)
  have Y_54 := Lib.hid (Ms.dr Y_44.out hd48)
  have P_55 := Lib.hid (Ms.dr P_45.out hd48)
  have HB_56 := Lib.hid (bd2 HB_46.out hd48)
  have z_57 := (HB_56.out.cell (World.block_lt_of_cell? w _ Z.out)).trans Z.out
  clear z_47
  clear hd48
  go_wp2_with fail
  refine (rvalid_b _ a _ true A_50.out VA.out).mono ?_
  rintro e x59 ⟨rfl, hd58⟩
  have A_60 := Lib.hid (Ms.dr A_50.out hd58)
  have B_61 := Lib.hid (Ms.dr B_51.out hd58)
  have L_62 := Lib.hid (Bs.dr L_52.out hd58)
  have X_63 := Lib.hid (Ms.dr X_53.out hd58)
  have Y_64 := Lib.hid (Ms.dr Y_54.out hd58)
  have P_65 := Lib.hid (Ms.dr P_55.out hd58)
  have HB_66 := Lib.hid (bd2 HB_56.out hd58)
  have z_67 := (HB_66.out.cell (World.block_lt_of_cell? w _ Z.out)).trans Z.out
  clear z_57
  clear hd58
  go_wp2_with fail
  refine (rvalid_b _ a _ true A_60.out VA.out).mono ?_
  rintro e x69 ⟨rfl, hd68⟩
  have A_70 := Lib.hid (Ms.dr A_60.out hd68)
  have B_71 := Lib.hid (Ms.dr B_61.out hd68)
  have L_72 := Lib.hid (Bs.dr L_62.out hd68)
  have X_73 := Lib.hid (Ms.dr X_63.out hd68)
  have Y_74 := Lib.hid (Ms.dr Y_64.out hd68)
  have P_75 := Lib.hid (Ms.dr P_65.out hd68)
  have HB_76 := Lib.hid (bd2 HB_66.out hd68)
  have z_77 := (HB_76.out.cell (World.block_lt_of_cell? w _ Z.out)).trans Z.out
  clear z_67
  clear hd68
  go_wp2_with fail
  refine (rvalid_b _ b _ true B_71.out VB.out).mono ?_
  rintro e x79 ⟨rfl, hd78⟩
  have A_80 := Lib.hid (Ms.dr A_70.out hd78)
  have B_81 := Lib.hid (Ms.dr B_71.out hd78)
  have L_82 := Lib.hid (Bs.dr L_72.out hd78)
  have X_83 := Lib.hid (Ms.dr X_73.out hd78)
  have Y_84 := Lib.hid (Ms.dr Y_74.out hd78)
  have P_85 := Lib.hid (Ms.dr P_75.out hd78)
  have HB_86 := Lib.hid (bd2 HB_76.out hd78)
  have z_87 := (HB_86.out.cell (World.block_lt_of_cell? w _ Z.out)).trans Z.out
  clear z_77
  clear hd78
  go_wp2_with fail
  refine (rmatmul_any _ _ a b _ A_80.out RA.out B_81.out RB.out k0 k1 k4 k2 k3 k5).mono ?_
  rintro e x90 ⟨vv, rfl, hn88, hb89⟩
  have A_91 := Lib.hid (Ms.to A_80.out hb89)
  have B_92 := Lib.hid (Ms.to B_81.out hb89)
  have L_93 := Lib.hid (Bs.to L_82.out hb89)
  have X_94 := Lib.hid (Ms.to X_83.out hb89)
  have Y_95 := Lib.hid (Ms.to Y_84.out hb89)
  have P_96 := Lib.hid (Ms.to P_85.out hb89)
  have HB_97 := Lib.hid (bt HB_86.out hb89)
  have z_98 := (HB_97.out.cell (World.block_lt_of_cell? w _ Z.out)).trans Z.out
  clear z_87
  have V_99 := Lib.hid hn88.sl
  clear hn88 hb89
  go_wp2_with fail
  refine (msame_c _ _ _ _ P_96.out V_99.out).mono ?_
  rintro e x101 ⟨rfl, hd100⟩
  have A_102 := Lib.hid (Ms.dr A_91.out hd100)
  have B_103 := Lib.hid (Ms.dr B_92.out hd100)
  have L_104 := Lib.hid (Bs.dr L_93.out hd100)
  have X_105 := Lib.hid (Ms.dr X_94.out hd100)
  have Y_106 := Lib.hid (Ms.dr Y_95.out hd100)
  have P_107 := Lib.hid (Ms.dr P_96.out hd100)
  have V_108 := Lib.hid (Ms.dr V_99.out hd100)
  have HB_109 := Lib.hid (bd2 HB_97.out hd100)
  have z_110 := (HB_109.out.cell (World.block_lt_of_cell? w _ Z.out)).trans Z.out
  clear z_98
  clear hd100
  go_wp2_with fail
  go_ret
  exact ⟨by first | rfl | simp, HB_109.out⟩
set_option maxHeartbeats 8000000 in
set_option maxRecDepth 100000 in
theorem prod_t_bad_vb (v0 v1 v2 : Value) (a b : List (List Nat)) (l : List Nat) (w : World) (h0 : Ms w v0 a) (h1 : Ms w v1 b) (h2 : Bs w v2 l) (s0 : smallB a = true) (s1 : smallB b = true) (hl : l.length ≤ 10) {r n : Nat} (hR : Rect r n a) (k0 : 0 < r) (k1 : 0 < n) (k2 : r ≤ 64) (k3 : n ≤ 64) (hl2 : l.length ≠ n) (hv2 : validB b = false) : Calls Try.prog 4 #[v0, v1, v2] w (lawPost w) := by
  have A := Lib.hid h0
  have B := Lib.hid h1
  have L := Lib.hid h2
  have S0 := Lib.hid s0
  have S1 := Lib.hid s1
  have RA := Lib.hid hR
  have VA := Lib.hid (valid_of_rect hR k0 k1 k2 k3)
  obtain ⟨ba, oa, ca, rfl, -, hat⟩ := Ms.open_ h0 hR k0 k1
  obtain ⟨b1, o1, c1, z1, -⟩ := hat 0 k0
  rw [Nat.add_zero] at z1
  have Z := Lib.hid z1
  have hrI : (0 : Int) < (r : Int) := by omega
  clear hat z1
  have VB := Lib.hid hv2
  obtain ⟨A2, c2, rfl⟩ := h2.form
  obtain ⟨q0, hq0⟩ : ∃ q0, l.length = q0 := ⟨_, rfl⟩
  have Q := Lib.hid hq0
  have hd : decide ((10 : Int) < (q0 : Int)) = false := by simp; omega
  have gl : ((q0 : Int) != (n : Int)) = true := by simp; omega
  have HL2 := Lib.hid hl2
  rw [hq0] at L ⊢
  clear h0 h1 h2 s0 s1 hq0 hl hl2 hR hv2
  go_enter Try.func4, Try.ntmps4
  go_wp2_with fail
  refine (awake_any _).mono ?_
  rintro e x2 ⟨rfl, hb1⟩
  have A_3 := Lib.hid (Ms.to A.out hb1)
  have B_4 := Lib.hid (Ms.to B.out hb1)
  have L_5 := Lib.hid (Bs.to L.out hb1)
  have HB_6 := Lib.hid (hb1)
  have z_7 := (HB_6.out.cell (World.block_lt_of_cell? w _ Z.out)).trans Z.out
  clear hb1
  go_wp2_with fail
  refine (small_b _ a _ true A_3.out S0.out).mono ?_
  rintro e w' ⟨rfl, rfl⟩
  go_wp2_with fail
  refine (small_b _ b _ true B_4.out S1.out).mono ?_
  rintro e w' ⟨rfl, rfl⟩
  go_wp2_with fail
  refine (copied_any _ a _ A_3.out (smallB_short S0.out)).mono ?_
  rintro e x10 ⟨vx, rfl, hn8, hb9⟩
  have A_11 := Lib.hid (Ms.to A_3.out hb9)
  have B_12 := Lib.hid (Ms.to B_4.out hb9)
  have L_13 := Lib.hid (Bs.to L_5.out hb9)
  have HB_14 := Lib.hid (bt HB_6.out hb9)
  have z_15 := (HB_14.out.cell (World.block_lt_of_cell? w _ Z.out)).trans Z.out
  clear z_7
  have X_16 := Lib.hid hn8.sl
  clear hn8 hb9
  go_wp2_with fail
  refine (copied_any _ b _ B_12.out (smallB_short S1.out)).mono ?_
  rintro e x19 ⟨vy, rfl, hn17, hb18⟩
  have A_20 := Lib.hid (Ms.to A_11.out hb18)
  have B_21 := Lib.hid (Ms.to B_12.out hb18)
  have L_22 := Lib.hid (Bs.to L_13.out hb18)
  have X_23 := Lib.hid (Ms.to X_16.out hb18)
  have HB_24 := Lib.hid (bt HB_14.out hb18)
  have z_25 := (HB_24.out.cell (World.block_lt_of_cell? w _ Z.out)).trans Z.out
  clear z_15
  have Y_26 := Lib.hid hn17.sl
  clear hn17 hb18
  go_wp2_with fail
  refine (mul_err _ _ a b _ X_23.out Y_26.out (Or.inr (Or.inl VB.out))).mono ?_
  rintro e w' ⟨rfl, rfl⟩
  go_wp2_with fail
  refine (apply_err _ _ a l _ X_23.out L_22.out (Or.inr (by rw [(RA.out.row 0 k0).1]; exact fun e => HL2.out e.symm))).mono ?_
  rintro e w' ⟨rfl, rfl⟩
  go_wp2_with fail
  refine (msame_c _ _ a _ X_23.out A_20.out).mono ?_
  rintro e x28 ⟨rfl, hd27⟩
  have A_29 := Lib.hid (Ms.dr A_20.out hd27)
  have B_30 := Lib.hid (Ms.dr B_21.out hd27)
  have L_31 := Lib.hid (Bs.dr L_22.out hd27)
  have X_32 := Lib.hid (Ms.dr X_23.out hd27)
  have Y_33 := Lib.hid (Ms.dr Y_26.out hd27)
  have HB_34 := Lib.hid (bd2 HB_24.out hd27)
  have z_35 := (HB_34.out.cell (World.block_lt_of_cell? w _ Z.out)).trans Z.out
  clear z_25
  clear hd27
  go_wp2_with fail
  refine (msame_c _ _ b _ Y_33.out B_30.out).mono ?_
  rintro e x37 ⟨rfl, hd36⟩
  have A_38 := Lib.hid (Ms.dr A_29.out hd36)
  have B_39 := Lib.hid (Ms.dr B_30.out hd36)
  have L_40 := Lib.hid (Bs.dr L_31.out hd36)
  have X_41 := Lib.hid (Ms.dr X_32.out hd36)
  have Y_42 := Lib.hid (Ms.dr Y_33.out hd36)
  have HB_43 := Lib.hid (bd2 HB_34.out hd36)
  have z_44 := (HB_43.out.cell (World.block_lt_of_cell? w _ Z.out)).trans Z.out
  clear z_35
  clear hd36
  go_wp2_with fail
  refine (rvalid_b _ a _ true A_38.out VA.out).mono ?_
  rintro e x46 ⟨rfl, hd45⟩
  have A_47 := Lib.hid (Ms.dr A_38.out hd45)
  have B_48 := Lib.hid (Ms.dr B_39.out hd45)
  have L_49 := Lib.hid (Bs.dr L_40.out hd45)
  have X_50 := Lib.hid (Ms.dr X_41.out hd45)
  have Y_51 := Lib.hid (Ms.dr Y_42.out hd45)
  have HB_52 := Lib.hid (bd2 HB_43.out hd45)
  have z_53 := (HB_52.out.cell (World.block_lt_of_cell? w _ Z.out)).trans Z.out
  clear z_44
  clear hd45
  go_wp2_with fail
  refine (rvalid_b _ a _ true A_47.out VA.out).mono ?_
  rintro e x55 ⟨rfl, hd54⟩
  have A_56 := Lib.hid (Ms.dr A_47.out hd54)
  have B_57 := Lib.hid (Ms.dr B_48.out hd54)
  have L_58 := Lib.hid (Bs.dr L_49.out hd54)
  have X_59 := Lib.hid (Ms.dr X_50.out hd54)
  have Y_60 := Lib.hid (Ms.dr Y_51.out hd54)
  have HB_61 := Lib.hid (bd2 HB_52.out hd54)
  have z_62 := (HB_61.out.cell (World.block_lt_of_cell? w _ Z.out)).trans Z.out
  clear z_53
  clear hd54
  go_wp2_with fail
  refine (rvalid_b _ b _ false B_57.out VB.out).mono ?_
  rintro e x64 ⟨rfl, hd63⟩
  have A_65 := Lib.hid (Ms.dr A_56.out hd63)
  have B_66 := Lib.hid (Ms.dr B_57.out hd63)
  have L_67 := Lib.hid (Bs.dr L_58.out hd63)
  have X_68 := Lib.hid (Ms.dr X_59.out hd63)
  have Y_69 := Lib.hid (Ms.dr Y_60.out hd63)
  have HB_70 := Lib.hid (bd2 HB_61.out hd63)
  have z_71 := (HB_70.out.cell (World.block_lt_of_cell? w _ Z.out)).trans Z.out
  clear z_62
  clear hd63
  go_wp2_with fail
  go_ret
  exact ⟨by first | rfl | simp, HB_70.out⟩
set_option maxHeartbeats 8000000 in
set_option maxRecDepth 100000 in
theorem prod_t_bad_dim (v0 v1 v2 : Value) (a b : List (List Nat)) (l : List Nat) (w : World) (h0 : Ms w v0 a) (h1 : Ms w v1 b) (h2 : Bs w v2 l) (s0 : smallB a = true) (s1 : smallB b = true) (hl : l.length ≤ 10) {r n : Nat} (hR : Rect r n a) (k0 : 0 < r) (k1 : 0 < n) (k2 : r ≤ 64) (k3 : n ≤ 64) (hl2 : l.length ≠ n) {r2 c : Nat} (hR2 : Rect r2 c b) (k4 : 0 < c) (k5 : c ≤ 64) (k6 : 0 < r2) (k7 : r2 ≤ 64) (hne : n ≠ r2) : Calls Try.prog 4 #[v0, v1, v2] w (lawPost w) := by
  have A := Lib.hid h0
  have B := Lib.hid h1
  have L := Lib.hid h2
  have S0 := Lib.hid s0
  have S1 := Lib.hid s1
  have RA := Lib.hid hR
  have VA := Lib.hid (valid_of_rect hR k0 k1 k2 k3)
  obtain ⟨ba, oa, ca, rfl, -, hat⟩ := Ms.open_ h0 hR k0 k1
  obtain ⟨b1, o1, c1, z1, -⟩ := hat 0 k0
  rw [Nat.add_zero] at z1
  have Z := Lib.hid z1
  have hrI : (0 : Int) < (r : Int) := by omega
  clear hat z1
  have RB := Lib.hid hR2
  have VB := Lib.hid (valid_of_rect hR2 k6 k4 k7 k5)
  obtain ⟨bb, ob, cb, rfl, -, -⟩ := Ms.open_ h1 hR2 k6 k4
  have gd : ((n : Int) != (r2 : Int)) = true := by simp; omega
  have NE := Lib.hid hne
  obtain ⟨A2, c2, rfl⟩ := h2.form
  obtain ⟨q0, hq0⟩ : ∃ q0, l.length = q0 := ⟨_, rfl⟩
  have Q := Lib.hid hq0
  have hd : decide ((10 : Int) < (q0 : Int)) = false := by simp; omega
  have gl : ((q0 : Int) != (n : Int)) = true := by simp; omega
  have HL2 := Lib.hid hl2
  rw [hq0] at L ⊢
  clear h0 h1 h2 s0 s1 hq0 hl hl2 hR hR2 hne
  go_enter Try.func4, Try.ntmps4
  go_wp2_with fail
  refine (awake_any _).mono ?_
  rintro e x2 ⟨rfl, hb1⟩
  have A_3 := Lib.hid (Ms.to A.out hb1)
  have B_4 := Lib.hid (Ms.to B.out hb1)
  have L_5 := Lib.hid (Bs.to L.out hb1)
  have HB_6 := Lib.hid (hb1)
  have z_7 := (HB_6.out.cell (World.block_lt_of_cell? w _ Z.out)).trans Z.out
  clear hb1
  go_wp2_with fail
  refine (small_b _ a _ true A_3.out S0.out).mono ?_
  rintro e w' ⟨rfl, rfl⟩
  go_wp2_with fail
  refine (small_b _ b _ true B_4.out S1.out).mono ?_
  rintro e w' ⟨rfl, rfl⟩
  go_wp2_with fail
  refine (copied_any _ a _ A_3.out (smallB_short S0.out)).mono ?_
  rintro e x10 ⟨vx, rfl, hn8, hb9⟩
  have A_11 := Lib.hid (Ms.to A_3.out hb9)
  have B_12 := Lib.hid (Ms.to B_4.out hb9)
  have L_13 := Lib.hid (Bs.to L_5.out hb9)
  have HB_14 := Lib.hid (bt HB_6.out hb9)
  have z_15 := (HB_14.out.cell (World.block_lt_of_cell? w _ Z.out)).trans Z.out
  clear z_7
  have X_16 := Lib.hid hn8.sl
  clear hn8 hb9
  go_wp2_with fail
  refine (copied_any _ b _ B_12.out (smallB_short S1.out)).mono ?_
  rintro e x19 ⟨vy, rfl, hn17, hb18⟩
  have A_20 := Lib.hid (Ms.to A_11.out hb18)
  have B_21 := Lib.hid (Ms.to B_12.out hb18)
  have L_22 := Lib.hid (Bs.to L_13.out hb18)
  have X_23 := Lib.hid (Ms.to X_16.out hb18)
  have HB_24 := Lib.hid (bt HB_14.out hb18)
  have z_25 := (HB_24.out.cell (World.block_lt_of_cell? w _ Z.out)).trans Z.out
  clear z_15
  have Y_26 := Lib.hid hn17.sl
  clear hn17 hb18
  go_wp2_with fail
  refine (mul_err _ _ a b _ X_23.out Y_26.out (Or.inr (Or.inr (by rw [(RA.out.row 0 k0).1, RB.out.len]; exact NE.out)))).mono ?_
  rintro e w' ⟨rfl, rfl⟩
  go_wp2_with fail
  refine (apply_err _ _ a l _ X_23.out L_22.out (Or.inr (by rw [(RA.out.row 0 k0).1]; exact fun e => HL2.out e.symm))).mono ?_
  rintro e w' ⟨rfl, rfl⟩
  go_wp2_with fail
  refine (msame_c _ _ a _ X_23.out A_20.out).mono ?_
  rintro e x28 ⟨rfl, hd27⟩
  have A_29 := Lib.hid (Ms.dr A_20.out hd27)
  have B_30 := Lib.hid (Ms.dr B_21.out hd27)
  have L_31 := Lib.hid (Bs.dr L_22.out hd27)
  have X_32 := Lib.hid (Ms.dr X_23.out hd27)
  have Y_33 := Lib.hid (Ms.dr Y_26.out hd27)
  have HB_34 := Lib.hid (bd2 HB_24.out hd27)
  have z_35 := (HB_34.out.cell (World.block_lt_of_cell? w _ Z.out)).trans Z.out
  clear z_25
  clear hd27
  go_wp2_with fail
  refine (msame_c _ _ b _ Y_33.out B_30.out).mono ?_
  rintro e x37 ⟨rfl, hd36⟩
  have A_38 := Lib.hid (Ms.dr A_29.out hd36)
  have B_39 := Lib.hid (Ms.dr B_30.out hd36)
  have L_40 := Lib.hid (Bs.dr L_31.out hd36)
  have X_41 := Lib.hid (Ms.dr X_32.out hd36)
  have Y_42 := Lib.hid (Ms.dr Y_33.out hd36)
  have HB_43 := Lib.hid (bd2 HB_34.out hd36)
  have z_44 := (HB_43.out.cell (World.block_lt_of_cell? w _ Z.out)).trans Z.out
  clear z_35
  clear hd36
  go_wp2_with fail
  refine (rvalid_b _ a _ true A_38.out VA.out).mono ?_
  rintro e x46 ⟨rfl, hd45⟩
  have A_47 := Lib.hid (Ms.dr A_38.out hd45)
  have B_48 := Lib.hid (Ms.dr B_39.out hd45)
  have L_49 := Lib.hid (Bs.dr L_40.out hd45)
  have X_50 := Lib.hid (Ms.dr X_41.out hd45)
  have Y_51 := Lib.hid (Ms.dr Y_42.out hd45)
  have HB_52 := Lib.hid (bd2 HB_43.out hd45)
  have z_53 := (HB_52.out.cell (World.block_lt_of_cell? w _ Z.out)).trans Z.out
  clear z_44
  clear hd45
  go_wp2_with fail
  refine (rvalid_b _ a _ true A_47.out VA.out).mono ?_
  rintro e x55 ⟨rfl, hd54⟩
  have A_56 := Lib.hid (Ms.dr A_47.out hd54)
  have B_57 := Lib.hid (Ms.dr B_48.out hd54)
  have L_58 := Lib.hid (Bs.dr L_49.out hd54)
  have X_59 := Lib.hid (Ms.dr X_50.out hd54)
  have Y_60 := Lib.hid (Ms.dr Y_51.out hd54)
  have HB_61 := Lib.hid (bd2 HB_52.out hd54)
  have z_62 := (HB_61.out.cell (World.block_lt_of_cell? w _ Z.out)).trans Z.out
  clear z_53
  clear hd54
  go_wp2_with fail
  refine (rvalid_b _ b _ true B_57.out VB.out).mono ?_
  rintro e x64 ⟨rfl, hd63⟩
  have A_65 := Lib.hid (Ms.dr A_56.out hd63)
  have B_66 := Lib.hid (Ms.dr B_57.out hd63)
  have L_67 := Lib.hid (Bs.dr L_58.out hd63)
  have X_68 := Lib.hid (Ms.dr X_59.out hd63)
  have Y_69 := Lib.hid (Ms.dr Y_60.out hd63)
  have HB_70 := Lib.hid (bd2 HB_61.out hd63)
  have z_71 := (HB_70.out.cell (World.block_lt_of_cell? w _ Z.out)).trans Z.out
  clear z_62
  clear hd63
  go_wp2_with fail
  go_ret
  exact ⟨by first | rfl | simp, HB_70.out⟩
set_option maxHeartbeats 8000000 in
set_option maxRecDepth 100000 in
theorem prod_f_bad_va (v0 v1 v2 : Value) (a b : List (List Nat)) (l : List Nat) (w : World) (h0 : Ms w v0 a) (h1 : Ms w v1 b) (h2 : Bs w v2 l) (s0 : smallB a = true) (s1 : smallB b = true) (hl : l.length ≤ 10) (hv : validB a = false) : Calls Try.prog 4 #[v0, v1, v2] w (lawPost w) := by
  have A := Lib.hid h0
  have B := Lib.hid h1
  have L := Lib.hid h2
  have S0 := Lib.hid s0
  have S1 := Lib.hid s1
  have VA := Lib.hid hv
  obtain ⟨A2, c2, rfl⟩ := h2.form
  obtain ⟨q0, hq0⟩ : ∃ q0, l.length = q0 := ⟨_, rfl⟩
  have Q := Lib.hid hq0
  have hd : decide ((10 : Int) < (q0 : Int)) = false := by simp; omega
  rw [hq0] at L ⊢
  clear h0 h1 h2 s0 s1 hq0 hl hv
  go_enter Try.func4, Try.ntmps4
  go_wp2_with fail
  refine (awake_any _).mono ?_
  rintro e x2 ⟨rfl, hb1⟩
  have A_3 := Lib.hid (Ms.to A.out hb1)
  have B_4 := Lib.hid (Ms.to B.out hb1)
  have L_5 := Lib.hid (Bs.to L.out hb1)
  have HB_6 := Lib.hid (hb1)
  clear hb1
  go_wp2_with fail
  refine (small_b _ a _ true A_3.out S0.out).mono ?_
  rintro e w' ⟨rfl, rfl⟩
  go_wp2_with fail
  refine (small_b _ b _ true B_4.out S1.out).mono ?_
  rintro e w' ⟨rfl, rfl⟩
  go_wp2_with fail
  refine (copied_any _ a _ A_3.out (smallB_short S0.out)).mono ?_
  rintro e x9 ⟨vx, rfl, hn7, hb8⟩
  have A_10 := Lib.hid (Ms.to A_3.out hb8)
  have B_11 := Lib.hid (Ms.to B_4.out hb8)
  have L_12 := Lib.hid (Bs.to L_5.out hb8)
  have HB_13 := Lib.hid (bt HB_6.out hb8)
  have X_14 := Lib.hid hn7.sl
  clear hn7 hb8
  go_wp2_with fail
  refine (copied_any _ b _ B_11.out (smallB_short S1.out)).mono ?_
  rintro e x17 ⟨vy, rfl, hn15, hb16⟩
  have A_18 := Lib.hid (Ms.to A_10.out hb16)
  have B_19 := Lib.hid (Ms.to B_11.out hb16)
  have L_20 := Lib.hid (Bs.to L_12.out hb16)
  have X_21 := Lib.hid (Ms.to X_14.out hb16)
  have HB_22 := Lib.hid (bt HB_13.out hb16)
  have Y_23 := Lib.hid hn15.sl
  clear hn15 hb16
  go_wp2_with fail
  refine (mul_err _ _ a b _ X_21.out Y_23.out (Or.inl VA.out)).mono ?_
  rintro e w' ⟨rfl, rfl⟩
  go_wp2_with fail
  refine (apply_err _ _ a l _ X_21.out L_20.out (Or.inl VA.out)).mono ?_
  rintro e w' ⟨rfl, rfl⟩
  go_wp2_with fail
  refine (msame_c _ _ a _ X_21.out A_18.out).mono ?_
  rintro e x25 ⟨rfl, hd24⟩
  have A_26 := Lib.hid (Ms.dr A_18.out hd24)
  have B_27 := Lib.hid (Ms.dr B_19.out hd24)
  have L_28 := Lib.hid (Bs.dr L_20.out hd24)
  have X_29 := Lib.hid (Ms.dr X_21.out hd24)
  have Y_30 := Lib.hid (Ms.dr Y_23.out hd24)
  have HB_31 := Lib.hid (bd2 HB_22.out hd24)
  clear hd24
  go_wp2_with fail
  refine (msame_c _ _ b _ Y_30.out B_27.out).mono ?_
  rintro e x33 ⟨rfl, hd32⟩
  have A_34 := Lib.hid (Ms.dr A_26.out hd32)
  have B_35 := Lib.hid (Ms.dr B_27.out hd32)
  have L_36 := Lib.hid (Bs.dr L_28.out hd32)
  have X_37 := Lib.hid (Ms.dr X_29.out hd32)
  have Y_38 := Lib.hid (Ms.dr Y_30.out hd32)
  have HB_39 := Lib.hid (bd2 HB_31.out hd32)
  clear hd32
  go_wp2_with fail
  refine (rvalid_b _ a _ false A_34.out VA.out).mono ?_
  rintro e x41 ⟨rfl, hd40⟩
  have A_42 := Lib.hid (Ms.dr A_34.out hd40)
  have B_43 := Lib.hid (Ms.dr B_35.out hd40)
  have L_44 := Lib.hid (Bs.dr L_36.out hd40)
  have X_45 := Lib.hid (Ms.dr X_37.out hd40)
  have Y_46 := Lib.hid (Ms.dr Y_38.out hd40)
  have HB_47 := Lib.hid (bd2 HB_39.out hd40)
  clear hd40
  go_wp2_with fail
  refine (rvalid_b _ a _ false A_42.out VA.out).mono ?_
  rintro e x49 ⟨rfl, hd48⟩
  have A_50 := Lib.hid (Ms.dr A_42.out hd48)
  have B_51 := Lib.hid (Ms.dr B_43.out hd48)
  have L_52 := Lib.hid (Bs.dr L_44.out hd48)
  have X_53 := Lib.hid (Ms.dr X_45.out hd48)
  have Y_54 := Lib.hid (Ms.dr Y_46.out hd48)
  have HB_55 := Lib.hid (bd2 HB_47.out hd48)
  clear hd48
  go_wp2_with fail
  go_ret
  exact ⟨by first | rfl | simp, HB_55.out⟩
theorem prodlaw_walk (v0 v1 v2 : Value) (a b : List (List Nat)) (l : List Nat) (w : World) (h0 : Ms w v0 a) (h1 : Ms w v1 b) (h2 : Bs w v2 l) : Calls Try.prog 4 #[v0, v1, v2] w (lawPost w) := by
  by_cases s0 : smallB a = true
  · by_cases s1 : smallB b = true
    · by_cases hl : l.length ≤ 10
      · by_cases hv : validB a = true
        · obtain ⟨r, n, hR, k0, k2, k1, k3⟩ := Rect.of_valid h0 hv
          by_cases hv2 : validB b = true
          · obtain ⟨r2, c, hR2, k6, k7, k4, k5⟩ := Rect.of_valid h1 hv2
            by_cases hne : n = r2
            · subst hne
              by_cases hl2 : l.length = n
              · exact prod_t_ok_ok v0 v1 v2 a b l w h0 h1 h2 s0 s1 hl hR k0 k1 k2 k3 hl2 hR2 k4 k5
              · exact prod_t_bad_ok v0 v1 v2 a b l w h0 h1 h2 s0 s1 hl hR k0 k1 k2 k3 hl2 hR2 k4 k5
            · by_cases hl2 : l.length = n
              · exact prod_t_ok_dim v0 v1 v2 a b l w h0 h1 h2 s0 s1 hl hR k0 k1 k2 k3 hl2 hR2 k4 k5 k6 k7 hne
              · exact prod_t_bad_dim v0 v1 v2 a b l w h0 h1 h2 s0 s1 hl hR k0 k1 k2 k3 hl2 hR2 k4 k5 k6 k7 hne
          · by_cases hl2 : l.length = n
            · exact prod_t_ok_vb v0 v1 v2 a b l w h0 h1 h2 s0 s1 hl hR k0 k1 k2 k3 hl2 (by simpa using hv2)
            · exact prod_t_bad_vb v0 v1 v2 a b l w h0 h1 h2 s0 s1 hl hR k0 k1 k2 k3 hl2 (by simpa using hv2)
        · exact prod_f_bad_va v0 v1 v2 a b l w h0 h1 h2 s0 s1 hl (by simpa using hv)
      · exact prod_e3 v0 v1 v2 a b l w h0 h1 h2 s0 s1 (by omega)
    · exact prod_e2 v0 v1 v2 a b l w h0 h1 h2 s0 (by simpa using s1)
  · exact prod_e1 v0 v1 v2 a b l w h0 h1 h2 (by simpa using s0)
end Go.Proofs.Ytiibdoibcbokcaa
