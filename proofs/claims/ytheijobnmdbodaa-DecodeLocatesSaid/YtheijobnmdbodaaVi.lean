/- The walk of the law DecodeLocates, another part. WRITTEN BY gen_Vfs.py i. -/
import Derived.Test.YtheijobnmdbodaaVf
namespace Go.Proofs.Ytheijobnmdbodaa
open Go Go.RowKit Lin
set_option linter.unusedVariables false
set_option linter.unusedSimpArgs false

set_option maxHeartbeats 4000000 in
set_option maxRecDepth 100000 in
theorem locw_same (D : List (List Nat)) (a : Nat) (K : List Nat) (C : List (List Nat)) (w : World) (h : D.length = 13) (hD : ∀ d ∈ D, B8 d) (ha : a < 256) (hK : K.length = 3) (hKb : ∀ x ∈ K, x < 256) (hC : C.length = 3) (hC8 : ∀ d ∈ C, B8 d) (hs : C.getD 0 [] ≠ zeroB.1 ∧ C.getD 1 [] ≠ zeroB.1 ∧ K.getD 0 0 % (1 + a % 13 + 3) = K.getD 1 0 % (1 + a % 13 + 3)) : Calls Try.prog 9 #[.agg (bcs D.flatten), .int .u8 (a : Int), .agg (bcs (lostL K C))] w (lawPost w) := by
  obtain ⟨m, hm⟩ : ∃ m, m = 1 + a % 13 := ⟨_, rfl⟩
  obtain ⟨N, hN⟩ : ∃ N, N = m + 3 := ⟨_, rfl⟩
  have hm1 : 1 ≤ m := by omega
  have hm13 : m ≤ 13 := by omega
  have LG := Lib.hid fun w => lgroup_N D a m N w h hD ha hm hN
  have R0 := Lib.hid (row_new w (bcs D.flatten) 38)
  have S13 := Lib.hid (size13 h hD)
  have GL : Hid ((grpG D m).length = N) := Lib.hid (by rw [grpG_len (by omega), hN])
  have G8 := Lib.hid (grpG_ok hD m)
  have NM := Lib.hid hN
  have CG : Hid (chk (grpG D m) = true) := Lib.hid (chk_group (by rw [List.length_take]; omega) (by rw [List.length_take]; omega))
  have hN4 : 4 ≤ N := by omega
  have hN16 : N ≤ 16 := by omega
  have HNI : (N : Int) ≤ 16 := by omega
  have LA := Lib.hid fun w b (hh : At8 w b 0 (lostL K C)) => lost_which hh
  have LC := Lib.hid fun w b (hh : At8 w b 0 (lostL K C)) i (hi : i < C.length) => lost_at hh hK hC8 hi
  have CL := Lib.hid hC
  obtain ⟨k0, hk0⟩ : ∃ k, K.getD 0 0 = k := ⟨_, rfl⟩
  obtain ⟨k1, hk1⟩ : ∃ k, K.getD 1 0 = k := ⟨_, rfl⟩
  obtain ⟨x, hx⟩ : ∃ x, C.getD 0 [] = x := ⟨_, rfl⟩
  obtain ⟨y, hy⟩ : ∃ y, C.getD 1 [] = y := ⟨_, rfl⟩
  have x8 : B8 x := by rw [← hx, getD_in (by rw [hC]; decide)]; exact hC8 _ (List.getElem_mem _)
  have y8 : B8 y := by rw [← hy, getD_in (by rw [hC]; decide)]; exact hC8 _ (List.getElem_mem _)
  have hkb0 : k0 < 256 := by rw [← hk0]; exact getD_bytes hKb 0
  have hkb1 : k1 < 256 := by rw [← hk1]; exact getD_bytes hKb 1
  have KK0 := Lib.hid hk0
  have KK1 := Lib.hid hk1
  have XX := Lib.hid hx
  have YY := Lib.hid hy
  have KL := Lib.hid hK
  obtain ⟨pa, hpa⟩ : ∃ p, k0 % N = p := ⟨_, rfl⟩
  obtain ⟨pb, hpb⟩ : ∃ p, k1 % N = p := ⟨_, rfl⟩
  rw [← hm, ← hN, hx, hy, hk0, hk1, hpa, hpb] at hs
  have hpaN : pa < N := by rw [← hpa]; exact Nat.mod_lt _ (by omega)
  have hpbN : pb < N := by rw [← hpb]; exact Nat.mod_lt _ (by omega)
  have ea : (k0 : Int).tmod (N : Int) = (pa : Int) := by rw [← hpa]; rfl
  have eb : (k1 : Int).tmod (N : Int) = (pb : Int) := by rw [← hpb]; rfl
  have wk0 : IntKind.i64.wrap (k0 : Int) = (k0 : Int) := by rw [IntKind.wrap_i64]; omega
  have wk1 : IntKind.i64.wrap (k1 : Int) = (k1 : Int) := by rw [IntKind.wrap_i64]; omega
  have hN0 : ¬ (N = 0) := by omega
  have hpaI : (pa : Int) < (N : Int) := by omega
  have hpbI : (pb : Int) < (N : Int) := by omega
  have hNz : ((N : Int) == 0) = false := by simp; omega
  have hNz2 : ¬ ((N : Int) = 0) := by omega
  obtain ⟨G, hG⟩ : ∃ G, grpG D m = G := ⟨_, rfl⟩
  rw [hG] at LG GL G8 CG
  have LOC := Lib.hid fun w v (h : Bl w v G) => loc_any v G w h (by rw [GL.out]; exact hN4) (by rw [GL.out]; exact hN16)
  have LG0 := Lib.hid fun k e (h : locR G k e) => loc_group CG.out h
  have ZZ : Hid ((#[.int .u8 0, .int .u8 0, .int .u8 0, .int .u8 0, .int .u8 0, .int .u8 0, .int .u8 0, .int .u8 0] : Array Value) = bcs zeroB.1) := Lib.hid rfl
  have EX : ∀ w', (binOp .eql 33 (.agg (bcs x)) (.agg #[.int .u8 0, .int .u8 0, .int .u8 0, .int .u8 0, .int .u8 0, .int .u8 0, .int .u8 0, .int .u8 0])).run Try.prog w' = .ok (.bool (decide (x = zeroB.1))) w' := fun q => by rw [ZZ.out]; exact eql8 x zeroB.1 x8 zeroB.2 q
  have EY : ∀ w', (binOp .eql 33 (.agg (bcs y)) (.agg #[.int .u8 0, .int .u8 0, .int .u8 0, .int .u8 0, .int .u8 0, .int .u8 0, .int .u8 0, .int .u8 0])).run Try.prog w' = .ok (.bool (decide (y = zeroB.1))) w' := fun q => by rw [ZZ.out]; exact eql8 y zeroB.1 y8 zeroB.2 q
  simp only [decide_eq_false hs.1] at EX
  simp only [decide_eq_false hs.2.1] at EY
  have hal : pa < G.length := by rw [GL.out]; exact hpaN
  have hbl : pb < G.length := by rw [GL.out]; exact hpbN
  have G18 := chg_ok G8.out hal x8
  have hl1 : (chg G pa x).length = N := by simp [chg]; exact GL.out
  have LOC1 := Lib.hid fun w v (h : Bl w v (chg G pa x)) => loc_any v (chg G pa x) w h (by rw [hl1]; exact hN4) (by rw [hl1]; exact hN16)
  have LG1 := Lib.hid fun k e (h : locR (chg G pa x) k e) => loc_one G8.out CG.out hal x8 hs.1 h
  have ga8 : B8 (G.getD pa []) := by rw [getD_in hal]; exact G8.out _ (List.getElem_mem _)
  obtain ⟨ga, hga⟩ : ∃ d, G.getD pa [] = d := ⟨_, rfl⟩
  obtain ⟨sa, hsa⟩ : ∃ d, xorB ga x = d := ⟨_, rfl⟩
  have CH1 : Hid (G.set pa sa = chg G pa x) := Lib.hid (by rw [chg, hga, hsa])
  have sa8 : B8 sa := by rw [← hsa]; rw [hga] at ga8; exact xorB_ok ga8 x8
  rw [hga] at ga8
  have GA := Lib.hid hga
  have SA := Lib.hid hsa
  have hab : ((pa : Int) == (pb : Int)) = true := by have := hs.2.2; simp; omega
  obtain ⟨G1, hG1⟩ : ∃ G1, chg G pa x = G1 := ⟨_, rfl⟩
  rw [hG1] at LOC1 LG1 CH1 hl1 G18
  have HL1 := Lib.hid hl1
  clear hga hsa hG1 G18 hl1
  clear h hD hK hKb hC hC8 hm hN hG hk0 hk1 hx hy hpa hpb hs
  obtain ⟨c0, hc0⟩ : ∃ c, bcs D.flatten = c := ⟨_, rfl⟩
  obtain ⟨c1, hc1⟩ : ∃ c, bcs (lostL K C) = c := ⟨_, rfl⟩
  have C0 := Lib.hid hc0
  have C1 := Lib.hid hc1
  rw [hc0] at R0 S13 LG ⊢
  rw [hc1]
  clear hc0 hc1
  go_enter Try.func9, Try.ntmps9
  go_wp2_with fail
  obtain ⟨W0, hW0⟩ : ∃ W0, (w.alloc (.cells c0 38)).alloc (.cells c1 51) = W0 := ⟨_, rfl⟩
  have HB0 : Hid (Below w.heap.size w W0) := Lib.hid (by rw [← hW0]; exact ((Below.refl w.heap.size w).alloc (Nat.le_refl _) _).alloc (by simp) _)
  have HX0 : Hid (Row W0 w.heap.size 38 c0) := Lib.hid (by rw [← hW0]; exact R0.out.alloc _)
  have HY0 : Hid (Row W0 (w.heap.size + 1) 51 (bcs (lostL K C))) := Lib.hid (by rw [← hW0, C1.out]; exact row_at (by simp) _ _)
  rw [hW0]
  clear hW0 R0
  refine (dawake_any _).mono ?_
  rintro e ux2 ⟨rfl, uhb1⟩
  have uhq3 : Below W0.heap.size W0 ux2 := uhb1
  have uX_4 := Lib.hid (Row.to HX0.out uhq3)
  have uL_5 := Lib.hid (Row.to HY0.out uhq3)
  have uHB_6 : Hid (Below w.heap.size w ux2) := Lib.hid (HB0.out.trans (uhq3.mono HB0.out.size))
  clear uhq3
  clear uhb1
  go_wp2_with (refine wpList_load_row rfl _ _ rfl _ rfl _ _ (0, 0) _ uX_4.out Try.underlying38 rfl S13.out ?_)
  obtain ⟨bx, hbx⟩ : ∃ b, w.heap.size + 1 = b := ⟨_, rfl⟩
  rw [hbx] at uL_5 ⊢
  clear hbx
  refine (LG.out _).mono ?_
  rintro e ux8 ⟨gg, cg, rfl, uhn9, hgg, uhb7⟩
  have uhq10 : Below ux2.heap.size ux2 ux8 := uhb7
  have uL_11 := Lib.hid (Row.to uL_5.out uhq10)
  have uHB_12 : Hid (Below w.heap.size w ux8) := Lib.hid (uHB_6.out.trans (uhq10.mono uHB_6.out.size))
  clear uhq10
  have uG_13 := Lib.hid uhn9
  clear uhb7 uhn9
  have HGG := Lib.hid (Nat.le_trans uHB_6.out.size hgg)
  clear hgg
  go_wp2_with fail
  refine (LOC.out _ _ uG_13.out.bl).mono ?_
  rintro e ux14 ⟨lk, le, rfl, lr, hb⟩
  obtain ⟨ek, ee⟩ := LG0.out _ _ lr
  rw [ek, ee]
  clear ek ee lr
  have uhq15 : Below ux8.heap.size ux8 ux14 := hb
  have uL_16 := Lib.hid (Row.to uL_11.out uhq15)
  have uG_17 := Lib.hid (OwnB.to uG_13.out uhq15)
  have uHB_18 : Hid (Below w.heap.size w ux14) := Lib.hid (uHB_12.out.trans (uhq15.mono uHB_12.out.size))
  clear uhq15
  clear hb
  go_wp2_with fail
  have h := (LA.out _ _ (Row.at8 uL_16.out)).cell (k := 0) (by rw [KL.out]; decide)
  rw [KK0.out] at h
  have k0c := Lib.hid h
  clear h
  have h := (LA.out _ _ (Row.at8 uL_16.out)).cell (k := 1) (by rw [KL.out]; decide)
  rw [KK1.out] at h
  have k1c := Lib.hid h
  clear h
  refine wp_region_held (P := Try.prog) (S := (fun w' : World => w'.cell? ⟨bx, 0 + 0, none⟩ = some (.int .u8 (k0 : Int)) ∧ w'.cell? ⟨bx, 0 + 1, none⟩ = some (.int .u8 (k1 : Int)))) rfl ?_
  change wpAnyH _ _ _ _ _ _ _ _ ux14.drew
  have uhz20 : Below ux14.heap.size ux14 ux14.drew := (Below.refl ux14.heap.size ux14).drew
  generalize ux14.drew = uwz19 at uhz20 ⊢
  have uhq21 : Below ux14.heap.size ux14 uwz19 := uhz20
  have uL_22 := Lib.hid (Row.to uL_16.out uhq21)
  have uG_23 := Lib.hid (OwnB.to uG_17.out uhq21)
  have uK0_24 := Lib.hid (cellTo k0c.out uhq21)
  have uK1_25 := Lib.hid (cellTo k1c.out uhq21)
  have uHB_26 : Hid (Below w.heap.size w uwz19) := Lib.hid (uHB_18.out.trans (uhq21.mono uHB_18.out.size))
  clear uhq21
  clear uhz20
  have uhS27 : (fun w' : World => w'.cell? ⟨bx, 0 + 0, none⟩ = some (.int .u8 (k0 : Int)) ∧ w'.cell? ⟨bx, 0 + 1, none⟩ = some (.int .u8 (k1 : Int))) uwz19 := ⟨uK0_24.out, uK1_25.out⟩
  refine takeD (i := 0) (v := .pointer (some ⟨bx, 0, none⟩)) (some 30) rfl rfl (by kernel_rfl) (by kernel_rfl) (by kernel_rfl) (fun _ _ _ h => h) (Or.inl ⟨by rfl, by rintro w' -; go_simp⟩) uhS27 ?_
  simp only [Act.put, List.setIfInBounds_toArray, List.set_cons_zero, List.set_cons_succ]
  refine takeD (i := 1) (v := .pointer (some ⟨bx, 0, none⟩)) (some 31) rfl rfl (by kernel_rfl) (by kernel_rfl) (by kernel_rfl) (fun _ _ _ h => h) (Or.inl ⟨by rfl, by rintro w' -; go_simp⟩) uhS27 ?_
  simp only [Act.put, List.setIfInBounds_toArray, List.set_cons_zero, List.set_cons_succ]
  refine takeD (i := 2) (v := .int .u8 (k0 : Int)) (some 32) rfl rfl (by kernel_rfl) (by kernel_rfl) (by kernel_rfl) (fun _ _ _ h => h) (Or.inl ⟨by rfl, by rintro w' h; have hc := h.1; go_simp⟩) uhS27 ?_
  simp only [Act.put, List.setIfInBounds_toArray, List.set_cons_zero, List.set_cons_succ]
  refine takeD (i := 3) (v := .int .i64 (k0 : Int)) (some 33) rfl rfl (by kernel_rfl) (by kernel_rfl) (by kernel_rfl) (fun _ _ _ h => h) (Or.inl ⟨by rfl, by rintro w' -; go_simp⟩) uhS27 ?_
  simp only [Act.put, List.setIfInBounds_toArray, List.set_cons_zero, List.set_cons_succ]
  refine takeD (i := 4) (v := .slice (some ⟨gg, 0, none⟩) N cg) (some 34) rfl rfl (by kernel_rfl) (by kernel_rfl) (by kernel_rfl) (fun _ _ _ h => h) (Or.inl ⟨by rfl, by rintro w' -; go_simp⟩) uhS27 ?_
  simp only [Act.put, List.setIfInBounds_toArray, List.set_cons_zero, List.set_cons_succ]
  refine takeD (i := 5) (v := .int .i64 (N : Int)) (some 35) rfl rfl (by kernel_rfl) (by kernel_rfl) (by kernel_rfl) (fun _ _ _ h => h) (Or.inl ⟨by rfl, by rintro w' -; go_simp⟩) uhS27 ?_
  simp only [Act.put, List.setIfInBounds_toArray, List.set_cons_zero, List.set_cons_succ]
  refine takeD (i := 6) (v := .int .i64 (pa : Int)) (some 36) rfl rfl (by kernel_rfl) (by kernel_rfl) (by kernel_rfl) (fun _ _ _ h => h) (Or.inl ⟨by rfl, by rintro w' -; go_simp⟩) uhS27 ?_
  simp only [Act.put, List.setIfInBounds_toArray, List.set_cons_zero, List.set_cons_succ]
  refine takeD (i := 7) (v := .pointer (some ⟨bx, 0, none⟩)) (some 37) rfl rfl (by kernel_rfl) (by kernel_rfl) (by kernel_rfl) (fun _ _ _ h => h) (Or.inl ⟨by rfl, by rintro w' -; go_simp⟩) uhS27 ?_
  simp only [Act.put, List.setIfInBounds_toArray, List.set_cons_zero, List.set_cons_succ]
  refine takeD (i := 8) (v := .pointer (some ⟨bx, 1, none⟩)) (some 38) rfl rfl (by kernel_rfl) (by kernel_rfl) (by kernel_rfl) (fun _ _ _ h => h) (Or.inl ⟨by rfl, by rintro w' -; go_simp⟩) uhS27 ?_
  simp only [Act.put, List.setIfInBounds_toArray, List.set_cons_zero, List.set_cons_succ]
  refine takeD (i := 9) (v := .int .u8 (k1 : Int)) (some 39) rfl rfl (by kernel_rfl) (by kernel_rfl) (by kernel_rfl) (fun _ _ _ h => h) (Or.inl ⟨by rfl, by rintro w' h; have hc := h.2; go_simp⟩) uhS27 ?_
  simp only [Act.put, List.setIfInBounds_toArray, List.set_cons_zero, List.set_cons_succ]
  refine takeD (i := 10) (v := .int .i64 (k1 : Int)) (some 40) rfl rfl (by kernel_rfl) (by kernel_rfl) (by kernel_rfl) (fun _ _ _ h => h) (Or.inl ⟨by rfl, by rintro w' -; go_simp⟩) uhS27 ?_
  simp only [Act.put, List.setIfInBounds_toArray, List.set_cons_zero, List.set_cons_succ]
  refine takeD (i := 11) (v := .slice (some ⟨gg, 0, none⟩) N cg) (some 41) rfl rfl (by kernel_rfl) (by kernel_rfl) (by kernel_rfl) (fun _ _ _ h => h) (Or.inl ⟨by rfl, by rintro w' -; go_simp⟩) uhS27 ?_
  simp only [Act.put, List.setIfInBounds_toArray, List.set_cons_zero, List.set_cons_succ]
  refine takeD (i := 12) (v := .int .i64 (N : Int)) (some 42) rfl rfl (by kernel_rfl) (by kernel_rfl) (by kernel_rfl) (fun _ _ _ h => h) (Or.inl ⟨by rfl, by rintro w' -; go_simp⟩) uhS27 ?_
  simp only [Act.put, List.setIfInBounds_toArray, List.set_cons_zero, List.set_cons_succ]
  refine takeD (i := 13) (v := .int .i64 (pb : Int)) (some 43) rfl rfl (by kernel_rfl) (by kernel_rfl) (by kernel_rfl) (fun _ _ _ h => h) (Or.inl ⟨by rfl, by rintro w' -; go_simp⟩) uhS27 ?_
  simp only [Act.put, List.setIfInBounds_toArray, List.set_cons_zero, List.set_cons_succ]
  refine takeD (i := 14) (v := .int .i64 (pa : Int)) (some 10) rfl rfl (by kernel_rfl) (by kernel_rfl) (by kernel_rfl) (fun _ _ _ h => h) (Or.inl ⟨by rfl, by rintro w' -; go_simp⟩) uhS27 ?_
  simp only [Act.put, List.setIfInBounds_toArray, List.set_cons_zero, List.set_cons_succ]
  refine takeD (i := 15) (v := .int .i64 (pb : Int)) (some 11) rfl rfl (by kernel_rfl) (by kernel_rfl) (by kernel_rfl) (fun _ _ _ h => h) (Or.inl ⟨by rfl, by rintro w' -; go_simp⟩) uhS27 ?_
  simp only [Act.put, List.setIfInBounds_toArray, List.set_cons_zero, List.set_cons_succ]
  refine wpAnyH_done (by kernel_rfl) ?_ _
  go_wp2_with fail
  have cx : Hid (At8 uwz19 bx 3 x) := Lib.hid (by have h := LC.out _ _ (Row.at8 uL_22.out) 0 (by rw [CL.out]; decide); rw [XX.out] at h; exact h)
  have cy : Hid (At8 uwz19 bx 11 y) := Lib.hid (by have h := LC.out _ _ (Row.at8 uL_22.out) 1 (by rw [CL.out]; decide); rw [YY.out] at h; exact h)
  refine wp_region_held (P := Try.prog) (S := (fun w' : World => At8 w' bx 3 x ∧ At8 w' bx 11 y)) rfl ?_
  change wpAnyH _ _ _ _ _ _ _ _ uwz19.drew
  have uhz29 : Below uwz19.heap.size uwz19 uwz19.drew := (Below.refl uwz19.heap.size uwz19).drew
  generalize uwz19.drew = uwz28 at uhz29 ⊢
  have uhq30 : Below uwz19.heap.size uwz19 uwz28 := uhz29
  have uG_31 := Lib.hid (OwnB.to uG_23.out uhq30)
  have uCX_32 := Lib.hid (At8.to cx.out uhq30)
  have uCY_33 := Lib.hid (At8.to cy.out uhq30)
  have uHB_34 : Hid (Below w.heap.size w uwz28) := Lib.hid (uHB_26.out.trans (uhq30.mono uHB_26.out.size))
  clear uhq30
  clear uhz29
  have uhS35 : (fun w' : World => At8 w' bx 3 x ∧ At8 w' bx 11 y) uwz28 := ⟨uCX_32.out, uCY_33.out⟩
  refine takeD (i := 0) (v := .pointer (some ⟨bx, 3, none⟩)) (some 44) rfl rfl (by kernel_rfl) (by kernel_rfl) (by kernel_rfl) (fun _ _ _ h => h) (Or.inl ⟨by rfl, by rintro w' -; go_simp⟩) uhS35 ?_
  simp only [Act.put, List.setIfInBounds_toArray, List.set_cons_zero, List.set_cons_succ]
  refine takeD (i := 1) (v := .pointer (some ⟨bx, 3, none⟩)) (some 45) rfl rfl (by kernel_rfl) (by kernel_rfl) (by kernel_rfl) (fun _ _ _ h => h) (Or.inl ⟨by rfl, by rintro w' -; go_simp⟩) uhS35 ?_
  simp only [Act.put, List.setIfInBounds_toArray, List.set_cons_zero, List.set_cons_succ]
  refine takeD (i := 2) (v := .agg (bcs x)) (some 46) rfl rfl (by kernel_rfl) (by kernel_rfl) (by kernel_rfl) (fun _ _ _ h => h) (yieldsIf_load8 (by rfl) _ _ rfl _ _ rfl x _ (fun w' h => h.1) Try.underlying33 rfl (size8 x8.1)) uhS35 ?_
  simp only [Act.put, List.setIfInBounds_toArray, List.set_cons_zero, List.set_cons_succ]
  refine takeD (i := 3) (v := .pointer (some ⟨bx, 3, none⟩)) (some 47) rfl rfl (by kernel_rfl) (by kernel_rfl) (by kernel_rfl) (fun _ _ _ h => h) (Or.inl ⟨by rfl, by rintro w' -; go_simp⟩) uhS35 ?_
  simp only [Act.put, List.setIfInBounds_toArray, List.set_cons_zero, List.set_cons_succ]
  refine takeD (i := 4) (v := .pointer (some ⟨bx, 11, none⟩)) (some 48) rfl rfl (by kernel_rfl) (by kernel_rfl) (by kernel_rfl) (fun _ _ _ h => h) (Or.inl ⟨by rfl, by rintro w' -; go_simp⟩) uhS35 ?_
  simp only [Act.put, List.setIfInBounds_toArray, List.set_cons_zero, List.set_cons_succ]
  refine takeD (i := 5) (v := .agg (bcs y)) (some 49) rfl rfl (by kernel_rfl) (by kernel_rfl) (by kernel_rfl) (fun _ _ _ h => h) (yieldsIf_load8 (by rfl) _ _ rfl _ _ rfl y _ (fun w' h => h.2) Try.underlying33 rfl (size8 y8.1)) uhS35 ?_
  simp only [Act.put, List.setIfInBounds_toArray, List.set_cons_zero, List.set_cons_succ]
  refine wpAnyH_ready (rs := [6, 7]) (by kernel_rfl) (by simp) ?_
  refine AllReadyH.cons rfl (fun K hK => ?_) (AllReadyH.cons rfl (fun K hK => ?_) AllReadyH.nil)
  · have HuK36 := Lib.hid hK
    clear hK
    rw [if_pos (by rfl)]
    refine wp_alloc8 rfl ?_
    obtain ⟨ux37, hxb⟩ : ∃ q, uwz28.alloc (.cells (bcs zeroB.1) 33) = q := ⟨_, rfl⟩
    have hbx : Below uwz28.heap.size uwz28 ux37 := by rw [← hxb]; exact (Below.refl _ _).alloc (Nat.le_refl _) _
    have hnr : Row ux37 uwz28.heap.size 33 (bcs zeroB.1) := by rw [← hxb]; exact row_new _ _ _
    have hle : uwz28.heap.size ≤ uwz28.heap.size := Nat.le_refl _
    obtain ⟨na, hnm⟩ : ∃ q, uwz28.heap.size = q := ⟨_, rfl⟩
    have Lna : Hid (uwz28.heap.size ≤ na) := Lib.hid (by rw [← hnm]; exact hle)
    rw [hnm] at hnr
    rw [hxb, hnm]
    have urw38 := Lib.hid hnr
    clear hnr hle
    have hQ : Below uwz28.heap.size uwz28 ux37 := hbx
    have uQ40 := Lib.hid hQ
    have uhq41 : Below uwz28.heap.size uwz28 ux37 := hQ
    have uG_42 := Lib.hid (OwnB.to uG_31.out uhq41)
    have uCX_43 := Lib.hid (At8.to uCX_32.out uhq41)
    have uCY_44 := Lib.hid (At8.to uCY_33.out uhq41)
    have uHB_45 : Hid (Below w.heap.size w ux37) := Lib.hid (uHB_34.out.trans (uhq41.mono uHB_34.out.size))
    clear uhq41
    clear hQ
    clear hbx hxb hnm
    have uhS46 : (fun w' : World => At8 w' bx 3 x ∧ At8 w' bx 11 y) ux37 := ⟨uCX_43.out, uCY_44.out⟩
    refine HuK36.out _ _ uhS46 fun _ => ?_
    try simp only [Act.put, List.setIfInBounds_toArray, List.set_cons_zero, List.set_cons_succ]
    refine wpAnyH_ready (rs := [7]) (by kernel_rfl) (by simp) ?_
    refine AllReadyH.cons rfl (fun uK47 huK47 => ?_) AllReadyH.nil
    have HuK47 := Lib.hid huK47
    clear huK47
    rw [if_pos (by rfl)]
    refine wp_alloc8 rfl ?_
    obtain ⟨ux48, hxb⟩ : ∃ q, ux37.alloc (.cells (bcs zeroB.1) 33) = q := ⟨_, rfl⟩
    have hbx : Below uwz28.heap.size uwz28 ux48 := by rw [← hxb]; exact uQ40.out.alloc uQ40.out.size _
    have hnr : Row ux48 ux37.heap.size 33 (bcs zeroB.1) := by rw [← hxb]; exact row_new _ _ _
    have h := Row.alloc urw38.out (.cells (bcs zeroB.1) 33)
    rw [hxb] at h
    have urw51 := Lib.hid h
    clear h
    have NE : Hid (na < ux37.heap.size) := Lib.hid (Row.lt urw38.out)
    have hle : uwz28.heap.size ≤ ux37.heap.size := uQ40.out.size
    obtain ⟨nb, hnm⟩ : ∃ q, ux37.heap.size = q := ⟨_, rfl⟩
    have Lnb : Hid (uwz28.heap.size ≤ nb) := Lib.hid (by rw [← hnm]; exact hle)
    rw [hnm] at hnr NE
    rw [hxb, hnm]
    have urw49 := Lib.hid hnr
    clear hnr hle
    have hQ : Below uwz28.heap.size uwz28 ux48 := hbx
    have uQ52 := Lib.hid hQ
    have uhq53 : Below uwz28.heap.size uwz28 ux48 := hQ
    have uG_54 := Lib.hid (OwnB.to uG_31.out uhq53)
    have uCX_55 := Lib.hid (At8.to uCX_32.out uhq53)
    have uCY_56 := Lib.hid (At8.to uCY_33.out uhq53)
    have uHB_57 : Hid (Below w.heap.size w ux48) := Lib.hid (uHB_34.out.trans (uhq53.mono uHB_34.out.size))
    clear uhq53
    clear hQ
    clear hbx hxb hnm
    have uhS58 : (fun w' : World => At8 w' bx 3 x ∧ At8 w' bx 11 y) ux48 := ⟨uCX_55.out, uCY_56.out⟩
    refine HuK47.out _ _ uhS58 fun _ => ?_
    try simp only [Act.put, List.setIfInBounds_toArray, List.set_cons_zero, List.set_cons_succ]
    refine wpAnyH_ready (rs := [8]) (by kernel_rfl) (by simp) ?_
    refine AllReadyH.cons rfl (fun uK59 huK59 => ?_) AllReadyH.nil
    have HuK59 := Lib.hid huK59
    clear huK59
    rw [if_pos (by rfl)]
    have th : ux48.there na 0 (bcs x).size := by rw [bcs_size, x8.1]; exact Row.there8 urw51.out (by rfl)
    refine wp_store8 _ _ _ rfl _ _ x rfl rfl th (size8 x8.1) ?_
    clear th
    obtain ⟨ux60, hxb⟩ : ∃ q, ux48.setCells na 0 (x.map bv) = q := ⟨_, rfl⟩
    have hbx : Below uwz28.heap.size uwz28 ux60 := by rw [← hxb]; exact below_setCells uQ52.out _ _ _ Lna.out
    have h := Row.put urw51.out (by rfl) x8.1
    rw [hxb] at h
    have urw61 := Lib.hid h
    clear h
    have h := Row.otherCells urw49.out (k := na) (by have := NE.out; omega) (x.map bv) 0
    rw [hxb] at h
    have urw62 := Lib.hid h
    clear h
    rw [hxb]
    have hQ : Below uwz28.heap.size uwz28 ux60 := hbx
    have uQ63 := Lib.hid hQ
    have uhq64 : Below uwz28.heap.size uwz28 ux60 := hQ
    have uG_65 := Lib.hid (OwnB.to uG_31.out uhq64)
    have uCX_66 := Lib.hid (At8.to uCX_32.out uhq64)
    have uCY_67 := Lib.hid (At8.to uCY_33.out uhq64)
    have uHB_68 : Hid (Below w.heap.size w ux60) := Lib.hid (uHB_34.out.trans (uhq64.mono uHB_34.out.size))
    clear uhq64
    clear hQ
    clear hbx hxb
    have uhS69 : (fun w' : World => At8 w' bx 3 x ∧ At8 w' bx 11 y) ux60 := ⟨uCX_66.out, uCY_67.out⟩
    refine HuK59.out _ _ uhS69 fun _ => ?_
    refine wpAnyH_ready (rs := [9]) (by kernel_rfl) (by simp) ?_
    refine AllReadyH.cons rfl (fun uK70 huK70 => ?_) AllReadyH.nil
    have HuK70 := Lib.hid huK70
    clear huK70
    rw [if_pos (by rfl)]
    have th : ux60.there nb 0 (bcs y).size := by rw [bcs_size, y8.1]; exact Row.there8 urw62.out (by rfl)
    refine wp_store8 _ _ _ rfl _ _ y rfl rfl th (size8 y8.1) ?_
    clear th
    obtain ⟨ux71, hxb⟩ : ∃ q, ux60.setCells nb 0 (y.map bv) = q := ⟨_, rfl⟩
    have hbx : Below uwz28.heap.size uwz28 ux71 := by rw [← hxb]; exact below_setCells uQ63.out _ _ _ Lnb.out
    have h := Row.put urw62.out (by rfl) y8.1
    rw [hxb] at h
    have urw72 := Lib.hid h
    clear h
    have h := Row.otherCells urw61.out (k := nb) (by have := NE.out; omega) (y.map bv) 0
    rw [hxb] at h
    have urw73 := Lib.hid h
    clear h
    rw [hxb]
    have hQ : Below uwz28.heap.size uwz28 ux71 := hbx
    have uQ74 := Lib.hid hQ
    have uhq75 : Below uwz28.heap.size uwz28 ux71 := hQ
    have uG_76 := Lib.hid (OwnB.to uG_31.out uhq75)
    have uCX_77 := Lib.hid (At8.to uCX_32.out uhq75)
    have uCY_78 := Lib.hid (At8.to uCY_33.out uhq75)
    have uHB_79 : Hid (Below w.heap.size w ux71) := Lib.hid (uHB_34.out.trans (uhq75.mono uHB_34.out.size))
    clear uhq75
    clear hQ
    clear hbx hxb
    have uhS80 : (fun w' : World => At8 w' bx 3 x ∧ At8 w' bx 11 y) ux71 := ⟨uCX_77.out, uCY_78.out⟩
    refine HuK70.out _ _ uhS80 fun _ => ?_
    refine wpAnyH_done (by kernel_rfl) ?_ _
    have XA := Lib.hid (Row.at8 urw73.out)
    have YB := Lib.hid (Row.at8 urw72.out)
    have GLT := Lib.hid (show gg < _ from (uG_31.out.lt gg rfl).2)
    go_wp2_with (first | (refine wpList_load8 rfl _ _ rfl _ _ rfl x _ XA.out Try.underlying33 rfl (size8 x8.1) ?_) | (refine wpList_load8w (by rfl) _ _ rfl _ _ rfl y _ YB.out Try.underlying33 rfl (size8 y8.1) ?_))
    have AG : Hid (At8 ux71 gg (pa * 8) ga) := Lib.hid (by have h := uG_76.out.bl.at8 hal; rw [GA.out, Nat.zero_add] at h; exact h)
    refine wp_region_held (P := Try.prog) (S := (fun w' : World => At8 w' na 0 x)) rfl ?_
    change wpAnyH _ _ _ _ _ _ _ _ ux71.drew
    have uhz82 : Below ux71.heap.size ux71 ux71.drew := (Below.refl ux71.heap.size ux71).drew
    generalize ux71.drew = uwz81 at uhz82 ⊢
    have uhq83 : Below ux71.heap.size ux71 uwz81 := uhz82
    have uG_84 := Lib.hid (OwnB.to uG_76.out uhq83)
    have uXA_85 := Lib.hid (At8.to XA.out uhq83)
    have uYB_86 := Lib.hid (At8.to YB.out uhq83)
    have uAG_87 := Lib.hid (At8.to AG.out uhq83)
    have uHB_88 : Hid (Below w.heap.size w uwz81) := Lib.hid (uHB_79.out.trans (uhq83.mono uHB_79.out.size))
    clear uhq83
    clear uhz82
    have uhS89 : (fun w' : World => At8 w' na 0 x) uwz81 := uXA_85.out
    refine takeD (i := 0) (v := .slice (some ⟨gg, 0, none⟩) N cg) (some 58) rfl rfl (by kernel_rfl) (by kernel_rfl) (by kernel_rfl) (fun _ _ _ h => h) (Or.inl ⟨by rfl, by rintro w' -; go_simp⟩) uhS89 ?_
    simp only [Act.put, List.setIfInBounds_toArray, List.set_cons_zero, List.set_cons_succ]
    refine takeD (i := 1) (v := .int .i64 (pa : Int)) (some 59) rfl rfl (by kernel_rfl) (by kernel_rfl) (by kernel_rfl) (fun _ _ _ h => h) (Or.inl ⟨by rfl, by rintro w' -; go_simp⟩) uhS89 ?_
    simp only [Act.put, List.setIfInBounds_toArray, List.set_cons_zero, List.set_cons_succ]
    refine takeD (i := 2) (v := .slice (some ⟨gg, 0, none⟩) N cg) (some 60) rfl rfl (by kernel_rfl) (by kernel_rfl) (by kernel_rfl) (fun _ _ _ h => h) (Or.inl ⟨by rfl, by rintro w' -; go_simp⟩) uhS89 ?_
    simp only [Act.put, List.setIfInBounds_toArray, List.set_cons_zero, List.set_cons_succ]
    refine takeD (i := 3) (v := .int .i64 (pa : Int)) (some 61) rfl rfl (by kernel_rfl) (by kernel_rfl) (by kernel_rfl) (fun _ _ _ h => h) (Or.inl ⟨by rfl, by rintro w' -; go_simp⟩) uhS89 ?_
    simp only [Act.put, List.setIfInBounds_toArray, List.set_cons_zero, List.set_cons_succ]
    refine takeD (i := 4) (v := .pointer (some ⟨gg, pa * 8, none⟩)) (some 62) rfl rfl (by kernel_rfl) (by kernel_rfl) (by kernel_rfl) (fun _ _ _ h => h) (Or.inl ⟨by rfl, by rintro w' -; go_simp⟩) uhS89 ?_
    simp only [Act.put, List.setIfInBounds_toArray, List.set_cons_zero, List.set_cons_succ]
    refine takeD (i := 6) (v := .agg (bcs x)) (some 64) rfl rfl (by kernel_rfl) (by kernel_rfl) (by kernel_rfl) (fun _ _ _ h => h) (yieldsIf_load8 (by rfl) _ _ rfl _ _ rfl x _ (fun w' h => h) Try.underlying33 rfl (size8 x8.1)) uhS89 ?_
    simp only [Act.put, List.setIfInBounds_toArray, List.set_cons_zero, List.set_cons_succ]
    refine wpAnyH_ready (rs := [5]) (by kernel_rfl) (by simp) ?_
    refine AllReadyH.cons rfl (fun uK90 huK90 => ?_) AllReadyH.nil
    have HuK90 := Lib.hid huK90
    clear huK90
    rw [if_pos (by rfl)]
    refine wp_load8 _ _ rfl _ _ rfl ga _ uAG_87.out Try.underlying33 rfl (size8 ga8.1) ?_
    refine HuK90.out _ _ uhS89 fun _ => ?_
    try simp only [Act.put, List.setIfInBounds_toArray, List.set_cons_zero, List.set_cons_succ]
    refine wpAnyH_ready (rs := [7]) (by kernel_rfl) (by simp) ?_
    refine AllReadyH.cons rfl (fun uK91 huK91 => ?_) AllReadyH.nil
    have HuK91 := Lib.hid huK91
    clear huK91
    rw [if_pos (by rfl)]
    go_simp
    go_at_call 26
    refine (xor_b ga x sa _ ga8 x8 SA.out).mono ?_
    rintro e ux92 ⟨rfl, hb⟩
    have uhq93 : Below uwz81.heap.size uwz81 ux92 := hb
    have uG_94 := Lib.hid (OwnB.to uG_84.out uhq93)
    have uXA_95 := Lib.hid (At8.to uXA_85.out uhq93)
    have uYB_96 := Lib.hid (At8.to uYB_86.out uhq93)
    have uAG_97 := Lib.hid (At8.to uAG_87.out uhq93)
    have uHB_98 : Hid (Below w.heap.size w ux92) := Lib.hid (uHB_88.out.trans (uhq93.mono uHB_88.out.size))
    clear uhq93
    clear hb
    have uhS99 : (fun w' : World => At8 w' na 0 x) ux92 := uXA_95.out
    refine HuK91.out _ _ uhS99 fun _ => ?_
    try simp only [Act.put, List.setIfInBounds_toArray, List.set_cons_zero, List.set_cons_succ]
    refine takeD (i := 8) (v := .pointer (some ⟨gg, pa * 8, none⟩)) (some 66) rfl rfl (by kernel_rfl) (by kernel_rfl) (by kernel_rfl) (fun _ _ _ h => h) (Or.inl ⟨by rfl, by rintro w' -; go_simp⟩) uhS99 ?_
    simp only [Act.put, List.setIfInBounds_toArray, List.set_cons_zero, List.set_cons_succ]
    refine wpAnyH_ready (rs := [9]) (by kernel_rfl) (by simp) ?_
    refine AllReadyH.cons rfl (fun uK100 huK100 => ?_) AllReadyH.nil
    have HuK100 := Lib.hid huK100
    clear huK100
    rw [if_pos (by rfl)]
    have th : ux92.there gg (pa * 8) (bcs sa).size := by rw [bcs_size, sa8.1]; exact uG_94.out.there hal
    refine wp_store8 _ _ _ rfl _ _ sa rfl rfl th (size8 sa8.1) ?_
    clear th
    obtain ⟨ux101, hxb⟩ : ∃ q, ux92.setCells gg (pa * 8) (sa.map bv) = q := ⟨_, rfl⟩
    have h := OwnB.set uG_94.out hal sa8
    rw [hxb, CH1.out] at h
    have uZG102 := Lib.hid h
    clear h
    have h := World.rangeAt_setCells_apart uYB_96.out gg (pa * 8) (sa.map bv) (Or.inl (by have := Lnb.out; have := GLT.out; omega))
    rw [hxb] at h
    have uZB103 := Lib.hid h
    clear h
    have h := World.rangeAt_setCells_apart uXA_95.out gg (pa * 8) (sa.map bv) (Or.inl (by have := Lna.out; have := GLT.out; omega))
    rw [hxb] at h
    have uZX105 := Lib.hid h
    clear h
    have uHBz104 : Hid (Below w.heap.size w ux101) := Lib.hid (by rw [← hxb]; exact below_setCells uHB_98.out _ _ _ HGG.out)
    rw [hxb]
    clear hxb
    have uhS106 : (fun w' : World => At8 w' na 0 x) ux101 := uZX105.out
    refine HuK100.out _ _ uhS106 fun _ => ?_
    refine wpAnyH_done (by kernel_rfl) ?_ _
    go_wp2_with fail
    refine (LOC1.out _ _ uZG102.out.bl).mono ?_
    rintro e ux107 ⟨lk, le, rfl, lr, hb⟩
    obtain ⟨ek, ee⟩ := LG1.out _ _ lr
    rw [ek, ee]
    clear ek ee lr
    have uhq108 : Below ux101.heap.size ux101 ux107 := hb
    have uG_109 := Lib.hid (OwnB.to uZG102.out uhq108)
    have uYB_110 := Lib.hid (At8.to uZB103.out uhq108)
    have uXA_111 := Lib.hid (At8.to uZX105.out uhq108)
    have uHB_112 : Hid (Below w.heap.size w ux107) := Lib.hid (uHBz104.out.trans (uhq108.mono uHBz104.out.size))
    clear uhq108
    clear hb
    go_wp2_with fail
    go_ret
    exact ⟨by first | rfl | simp, uHB_112.out⟩
  · have HuK36 := Lib.hid hK
    clear hK
    rw [if_pos (by rfl)]
    refine wp_alloc8 rfl ?_
    obtain ⟨ux37, hxb⟩ : ∃ q, uwz28.alloc (.cells (bcs zeroB.1) 33) = q := ⟨_, rfl⟩
    have hbx : Below uwz28.heap.size uwz28 ux37 := by rw [← hxb]; exact (Below.refl _ _).alloc (Nat.le_refl _) _
    have hnr : Row ux37 uwz28.heap.size 33 (bcs zeroB.1) := by rw [← hxb]; exact row_new _ _ _
    have hle : uwz28.heap.size ≤ uwz28.heap.size := Nat.le_refl _
    obtain ⟨nb, hnm⟩ : ∃ q, uwz28.heap.size = q := ⟨_, rfl⟩
    have Lnb : Hid (uwz28.heap.size ≤ nb) := Lib.hid (by rw [← hnm]; exact hle)
    rw [hnm] at hnr
    rw [hxb, hnm]
    have urw38 := Lib.hid hnr
    clear hnr hle
    have hQ : Below uwz28.heap.size uwz28 ux37 := hbx
    have uQ40 := Lib.hid hQ
    have uhq41 : Below uwz28.heap.size uwz28 ux37 := hQ
    have uG_42 := Lib.hid (OwnB.to uG_31.out uhq41)
    have uCX_43 := Lib.hid (At8.to uCX_32.out uhq41)
    have uCY_44 := Lib.hid (At8.to uCY_33.out uhq41)
    have uHB_45 : Hid (Below w.heap.size w ux37) := Lib.hid (uHB_34.out.trans (uhq41.mono uHB_34.out.size))
    clear uhq41
    clear hQ
    clear hbx hxb hnm
    have uhS46 : (fun w' : World => At8 w' bx 3 x ∧ At8 w' bx 11 y) ux37 := ⟨uCX_43.out, uCY_44.out⟩
    refine HuK36.out _ _ uhS46 fun _ => ?_
    try simp only [Act.put, List.setIfInBounds_toArray, List.set_cons_zero, List.set_cons_succ]
    refine wpAnyH_ready (rs := [6]) (by kernel_rfl) (by simp) ?_
    refine AllReadyH.cons rfl (fun uK47 huK47 => ?_) AllReadyH.nil
    have HuK47 := Lib.hid huK47
    clear huK47
    rw [if_pos (by rfl)]
    refine wp_alloc8 rfl ?_
    obtain ⟨ux48, hxb⟩ : ∃ q, ux37.alloc (.cells (bcs zeroB.1) 33) = q := ⟨_, rfl⟩
    have hbx : Below uwz28.heap.size uwz28 ux48 := by rw [← hxb]; exact uQ40.out.alloc uQ40.out.size _
    have hnr : Row ux48 ux37.heap.size 33 (bcs zeroB.1) := by rw [← hxb]; exact row_new _ _ _
    have h := Row.alloc urw38.out (.cells (bcs zeroB.1) 33)
    rw [hxb] at h
    have urw51 := Lib.hid h
    clear h
    have NE : Hid (nb < ux37.heap.size) := Lib.hid (Row.lt urw38.out)
    have hle : uwz28.heap.size ≤ ux37.heap.size := uQ40.out.size
    obtain ⟨na, hnm⟩ : ∃ q, ux37.heap.size = q := ⟨_, rfl⟩
    have Lna : Hid (uwz28.heap.size ≤ na) := Lib.hid (by rw [← hnm]; exact hle)
    rw [hnm] at hnr NE
    rw [hxb, hnm]
    have urw49 := Lib.hid hnr
    clear hnr hle
    have hQ : Below uwz28.heap.size uwz28 ux48 := hbx
    have uQ52 := Lib.hid hQ
    have uhq53 : Below uwz28.heap.size uwz28 ux48 := hQ
    have uG_54 := Lib.hid (OwnB.to uG_31.out uhq53)
    have uCX_55 := Lib.hid (At8.to uCX_32.out uhq53)
    have uCY_56 := Lib.hid (At8.to uCY_33.out uhq53)
    have uHB_57 : Hid (Below w.heap.size w ux48) := Lib.hid (uHB_34.out.trans (uhq53.mono uHB_34.out.size))
    clear uhq53
    clear hQ
    clear hbx hxb hnm
    have uhS58 : (fun w' : World => At8 w' bx 3 x ∧ At8 w' bx 11 y) ux48 := ⟨uCX_55.out, uCY_56.out⟩
    refine HuK47.out _ _ uhS58 fun _ => ?_
    try simp only [Act.put, List.setIfInBounds_toArray, List.set_cons_zero, List.set_cons_succ]
    refine wpAnyH_ready (rs := [8]) (by kernel_rfl) (by simp) ?_
    refine AllReadyH.cons rfl (fun uK59 huK59 => ?_) AllReadyH.nil
    have HuK59 := Lib.hid huK59
    clear huK59
    rw [if_pos (by rfl)]
    have th : ux48.there na 0 (bcs x).size := by rw [bcs_size, x8.1]; exact Row.there8 urw49.out (by rfl)
    refine wp_store8 _ _ _ rfl _ _ x rfl rfl th (size8 x8.1) ?_
    clear th
    obtain ⟨ux60, hxb⟩ : ∃ q, ux48.setCells na 0 (x.map bv) = q := ⟨_, rfl⟩
    have hbx : Below uwz28.heap.size uwz28 ux60 := by rw [← hxb]; exact below_setCells uQ52.out _ _ _ Lna.out
    have h := Row.put urw49.out (by rfl) x8.1
    rw [hxb] at h
    have urw61 := Lib.hid h
    clear h
    have h := Row.otherCells urw51.out (k := na) (by have := NE.out; omega) (x.map bv) 0
    rw [hxb] at h
    have urw62 := Lib.hid h
    clear h
    rw [hxb]
    have hQ : Below uwz28.heap.size uwz28 ux60 := hbx
    have uQ63 := Lib.hid hQ
    have uhq64 : Below uwz28.heap.size uwz28 ux60 := hQ
    have uG_65 := Lib.hid (OwnB.to uG_31.out uhq64)
    have uCX_66 := Lib.hid (At8.to uCX_32.out uhq64)
    have uCY_67 := Lib.hid (At8.to uCY_33.out uhq64)
    have uHB_68 : Hid (Below w.heap.size w ux60) := Lib.hid (uHB_34.out.trans (uhq64.mono uHB_34.out.size))
    clear uhq64
    clear hQ
    clear hbx hxb
    have uhS69 : (fun w' : World => At8 w' bx 3 x ∧ At8 w' bx 11 y) ux60 := ⟨uCX_66.out, uCY_67.out⟩
    refine HuK59.out _ _ uhS69 fun _ => ?_
    refine wpAnyH_ready (rs := [9]) (by kernel_rfl) (by simp) ?_
    refine AllReadyH.cons rfl (fun uK70 huK70 => ?_) AllReadyH.nil
    have HuK70 := Lib.hid huK70
    clear huK70
    rw [if_pos (by rfl)]
    have th : ux60.there nb 0 (bcs y).size := by rw [bcs_size, y8.1]; exact Row.there8 urw62.out (by rfl)
    refine wp_store8 _ _ _ rfl _ _ y rfl rfl th (size8 y8.1) ?_
    clear th
    obtain ⟨ux71, hxb⟩ : ∃ q, ux60.setCells nb 0 (y.map bv) = q := ⟨_, rfl⟩
    have hbx : Below uwz28.heap.size uwz28 ux71 := by rw [← hxb]; exact below_setCells uQ63.out _ _ _ Lnb.out
    have h := Row.put urw62.out (by rfl) y8.1
    rw [hxb] at h
    have urw72 := Lib.hid h
    clear h
    have h := Row.otherCells urw61.out (k := nb) (by have := NE.out; omega) (y.map bv) 0
    rw [hxb] at h
    have urw73 := Lib.hid h
    clear h
    rw [hxb]
    have hQ : Below uwz28.heap.size uwz28 ux71 := hbx
    have uQ74 := Lib.hid hQ
    have uhq75 : Below uwz28.heap.size uwz28 ux71 := hQ
    have uG_76 := Lib.hid (OwnB.to uG_31.out uhq75)
    have uCX_77 := Lib.hid (At8.to uCX_32.out uhq75)
    have uCY_78 := Lib.hid (At8.to uCY_33.out uhq75)
    have uHB_79 : Hid (Below w.heap.size w ux71) := Lib.hid (uHB_34.out.trans (uhq75.mono uHB_34.out.size))
    clear uhq75
    clear hQ
    clear hbx hxb
    have uhS80 : (fun w' : World => At8 w' bx 3 x ∧ At8 w' bx 11 y) ux71 := ⟨uCX_77.out, uCY_78.out⟩
    refine HuK70.out _ _ uhS80 fun _ => ?_
    refine wpAnyH_done (by kernel_rfl) ?_ _
    have XA := Lib.hid (Row.at8 urw73.out)
    have YB := Lib.hid (Row.at8 urw72.out)
    have GLT := Lib.hid (show gg < _ from (uG_31.out.lt gg rfl).2)
    go_wp2_with (first | (refine wpList_load8 rfl _ _ rfl _ _ rfl x _ XA.out Try.underlying33 rfl (size8 x8.1) ?_) | (refine wpList_load8w (by rfl) _ _ rfl _ _ rfl y _ YB.out Try.underlying33 rfl (size8 y8.1) ?_))
    have AG : Hid (At8 ux71 gg (pa * 8) ga) := Lib.hid (by have h := uG_76.out.bl.at8 hal; rw [GA.out, Nat.zero_add] at h; exact h)
    refine wp_region_held (P := Try.prog) (S := (fun w' : World => At8 w' na 0 x)) rfl ?_
    change wpAnyH _ _ _ _ _ _ _ _ ux71.drew
    have uhz82 : Below ux71.heap.size ux71 ux71.drew := (Below.refl ux71.heap.size ux71).drew
    generalize ux71.drew = uwz81 at uhz82 ⊢
    have uhq83 : Below ux71.heap.size ux71 uwz81 := uhz82
    have uG_84 := Lib.hid (OwnB.to uG_76.out uhq83)
    have uXA_85 := Lib.hid (At8.to XA.out uhq83)
    have uYB_86 := Lib.hid (At8.to YB.out uhq83)
    have uAG_87 := Lib.hid (At8.to AG.out uhq83)
    have uHB_88 : Hid (Below w.heap.size w uwz81) := Lib.hid (uHB_79.out.trans (uhq83.mono uHB_79.out.size))
    clear uhq83
    clear uhz82
    have uhS89 : (fun w' : World => At8 w' na 0 x) uwz81 := uXA_85.out
    refine takeD (i := 0) (v := .slice (some ⟨gg, 0, none⟩) N cg) (some 58) rfl rfl (by kernel_rfl) (by kernel_rfl) (by kernel_rfl) (fun _ _ _ h => h) (Or.inl ⟨by rfl, by rintro w' -; go_simp⟩) uhS89 ?_
    simp only [Act.put, List.setIfInBounds_toArray, List.set_cons_zero, List.set_cons_succ]
    refine takeD (i := 1) (v := .int .i64 (pa : Int)) (some 59) rfl rfl (by kernel_rfl) (by kernel_rfl) (by kernel_rfl) (fun _ _ _ h => h) (Or.inl ⟨by rfl, by rintro w' -; go_simp⟩) uhS89 ?_
    simp only [Act.put, List.setIfInBounds_toArray, List.set_cons_zero, List.set_cons_succ]
    refine takeD (i := 2) (v := .slice (some ⟨gg, 0, none⟩) N cg) (some 60) rfl rfl (by kernel_rfl) (by kernel_rfl) (by kernel_rfl) (fun _ _ _ h => h) (Or.inl ⟨by rfl, by rintro w' -; go_simp⟩) uhS89 ?_
    simp only [Act.put, List.setIfInBounds_toArray, List.set_cons_zero, List.set_cons_succ]
    refine takeD (i := 3) (v := .int .i64 (pa : Int)) (some 61) rfl rfl (by kernel_rfl) (by kernel_rfl) (by kernel_rfl) (fun _ _ _ h => h) (Or.inl ⟨by rfl, by rintro w' -; go_simp⟩) uhS89 ?_
    simp only [Act.put, List.setIfInBounds_toArray, List.set_cons_zero, List.set_cons_succ]
    refine takeD (i := 4) (v := .pointer (some ⟨gg, pa * 8, none⟩)) (some 62) rfl rfl (by kernel_rfl) (by kernel_rfl) (by kernel_rfl) (fun _ _ _ h => h) (Or.inl ⟨by rfl, by rintro w' -; go_simp⟩) uhS89 ?_
    simp only [Act.put, List.setIfInBounds_toArray, List.set_cons_zero, List.set_cons_succ]
    refine takeD (i := 6) (v := .agg (bcs x)) (some 64) rfl rfl (by kernel_rfl) (by kernel_rfl) (by kernel_rfl) (fun _ _ _ h => h) (yieldsIf_load8 (by rfl) _ _ rfl _ _ rfl x _ (fun w' h => h) Try.underlying33 rfl (size8 x8.1)) uhS89 ?_
    simp only [Act.put, List.setIfInBounds_toArray, List.set_cons_zero, List.set_cons_succ]
    refine wpAnyH_ready (rs := [5]) (by kernel_rfl) (by simp) ?_
    refine AllReadyH.cons rfl (fun uK90 huK90 => ?_) AllReadyH.nil
    have HuK90 := Lib.hid huK90
    clear huK90
    rw [if_pos (by rfl)]
    refine wp_load8 _ _ rfl _ _ rfl ga _ uAG_87.out Try.underlying33 rfl (size8 ga8.1) ?_
    refine HuK90.out _ _ uhS89 fun _ => ?_
    try simp only [Act.put, List.setIfInBounds_toArray, List.set_cons_zero, List.set_cons_succ]
    refine wpAnyH_ready (rs := [7]) (by kernel_rfl) (by simp) ?_
    refine AllReadyH.cons rfl (fun uK91 huK91 => ?_) AllReadyH.nil
    have HuK91 := Lib.hid huK91
    clear huK91
    rw [if_pos (by rfl)]
    go_simp
    go_at_call 26
    refine (xor_b ga x sa _ ga8 x8 SA.out).mono ?_
    rintro e ux92 ⟨rfl, hb⟩
    have uhq93 : Below uwz81.heap.size uwz81 ux92 := hb
    have uG_94 := Lib.hid (OwnB.to uG_84.out uhq93)
    have uXA_95 := Lib.hid (At8.to uXA_85.out uhq93)
    have uYB_96 := Lib.hid (At8.to uYB_86.out uhq93)
    have uAG_97 := Lib.hid (At8.to uAG_87.out uhq93)
    have uHB_98 : Hid (Below w.heap.size w ux92) := Lib.hid (uHB_88.out.trans (uhq93.mono uHB_88.out.size))
    clear uhq93
    clear hb
    have uhS99 : (fun w' : World => At8 w' na 0 x) ux92 := uXA_95.out
    refine HuK91.out _ _ uhS99 fun _ => ?_
    try simp only [Act.put, List.setIfInBounds_toArray, List.set_cons_zero, List.set_cons_succ]
    refine takeD (i := 8) (v := .pointer (some ⟨gg, pa * 8, none⟩)) (some 66) rfl rfl (by kernel_rfl) (by kernel_rfl) (by kernel_rfl) (fun _ _ _ h => h) (Or.inl ⟨by rfl, by rintro w' -; go_simp⟩) uhS99 ?_
    simp only [Act.put, List.setIfInBounds_toArray, List.set_cons_zero, List.set_cons_succ]
    refine wpAnyH_ready (rs := [9]) (by kernel_rfl) (by simp) ?_
    refine AllReadyH.cons rfl (fun uK100 huK100 => ?_) AllReadyH.nil
    have HuK100 := Lib.hid huK100
    clear huK100
    rw [if_pos (by rfl)]
    have th : ux92.there gg (pa * 8) (bcs sa).size := by rw [bcs_size, sa8.1]; exact uG_94.out.there hal
    refine wp_store8 _ _ _ rfl _ _ sa rfl rfl th (size8 sa8.1) ?_
    clear th
    obtain ⟨ux101, hxb⟩ : ∃ q, ux92.setCells gg (pa * 8) (sa.map bv) = q := ⟨_, rfl⟩
    have h := OwnB.set uG_94.out hal sa8
    rw [hxb, CH1.out] at h
    have uZG102 := Lib.hid h
    clear h
    have h := World.rangeAt_setCells_apart uYB_96.out gg (pa * 8) (sa.map bv) (Or.inl (by have := Lnb.out; have := GLT.out; omega))
    rw [hxb] at h
    have uZB103 := Lib.hid h
    clear h
    have h := World.rangeAt_setCells_apart uXA_95.out gg (pa * 8) (sa.map bv) (Or.inl (by have := Lna.out; have := GLT.out; omega))
    rw [hxb] at h
    have uZX105 := Lib.hid h
    clear h
    have uHBz104 : Hid (Below w.heap.size w ux101) := Lib.hid (by rw [← hxb]; exact below_setCells uHB_98.out _ _ _ HGG.out)
    rw [hxb]
    clear hxb
    have uhS106 : (fun w' : World => At8 w' na 0 x) ux101 := uZX105.out
    refine HuK100.out _ _ uhS106 fun _ => ?_
    refine wpAnyH_done (by kernel_rfl) ?_ _
    go_wp2_with fail
    refine (LOC1.out _ _ uZG102.out.bl).mono ?_
    rintro e ux107 ⟨lk, le, rfl, lr, hb⟩
    obtain ⟨ek, ee⟩ := LG1.out _ _ lr
    rw [ek, ee]
    clear ek ee lr
    have uhq108 : Below ux101.heap.size ux101 ux107 := hb
    have uG_109 := Lib.hid (OwnB.to uZG102.out uhq108)
    have uYB_110 := Lib.hid (At8.to uZB103.out uhq108)
    have uXA_111 := Lib.hid (At8.to uZX105.out uhq108)
    have uHB_112 : Hid (Below w.heap.size w ux107) := Lib.hid (uHBz104.out.trans (uhq108.mono uHBz104.out.size))
    clear uhq108
    clear hb
    go_wp2_with fail
    go_ret
    exact ⟨by first | rfl | simp, uHB_112.out⟩
end Go.Proofs.Ytheijobnmdbodaa
