/- Law walk: DesignComplete. WRITTEN BY gen_Zd.py. -/
import Derived.Test.YtnnacofjogfkeaaDoorZa
import Derived.Test.YtnnacofjogfkeaaDoorWa
namespace Go.Proofs.YtnnacofjogfkeaaDoor
open Go Go.RowKit Pl Co
set_option linter.unusedVariables false
set_option linter.unusedSimpArgs false

theorem Row.c1r {w : World} {D : Nat} {a b : Value} (h : w.rangeAt D 0 [a, b]) : w.cell? ⟨D, 1, none⟩ = some b := h 1 b rfl

set_option maxHeartbeats 4000000 in
set_option maxRecDepth 100000 in
theorem completelaw_bad0 (d n : Int) (w : World) (hK : Kd w) (hP : Pd w) (h1 : d < 2) : Calls Tryd.prog 3 #[.int .i64 d, .int .i64 n] w (lawPost w) := by
  have AW := Lib.hid (awake7 w hK hP)
  have CO := Lib.hid fun W => complete_bad d n W (by omega)
  clear hK hP
  go_enter Tryd.func3, Tryd.ntmps3
  go_wp2_with fail
  refine AW.out.mono ?_
  rintro e z1 ⟨rfl, hb1⟩
  have B1 := Lib.hid hb1
  clear hb1 AW
  go_wp2_with fail
  refine (CO.out z1).mono ?_
  rintro e z2 ⟨rfl, hb2⟩
  have B2 := Lib.hid (B1.out.trans (hb2.mono B1.out.size))
  have B3 := Lib.hid (B2.out.alloc B2.out.size (.cells #[.int .i64 0, .slice none 0 0] 25))
  clear hb2 CO
  go_wp2_with fail
  go_ret
  exact ⟨rfl, B3.out⟩
set_option maxHeartbeats 4000000 in
set_option maxRecDepth 100000 in
theorem completelaw_bad1 (d n : Int) (w : World) (hK : Kd w) (hP : Pd w) (h1 : ¬ d < 2) (h2 : 60 < d) : Calls Tryd.prog 3 #[.int .i64 d, .int .i64 n] w (lawPost w) := by
  have AW := Lib.hid (awake7 w hK hP)
  have CO := Lib.hid fun W => complete_bad d n W (by omega)
  clear hK hP
  go_enter Tryd.func3, Tryd.ntmps3
  go_wp2_with fail
  refine AW.out.mono ?_
  rintro e z1 ⟨rfl, hb1⟩
  have B1 := Lib.hid hb1
  clear hb1 AW
  go_wp2_with fail
  refine (CO.out z1).mono ?_
  rintro e z2 ⟨rfl, hb2⟩
  have B2 := Lib.hid (B1.out.trans (hb2.mono B1.out.size))
  have B3 := Lib.hid (B2.out.alloc B2.out.size (.cells #[.int .i64 0, .slice none 0 0] 25))
  clear hb2 CO
  go_wp2_with fail
  go_ret
  exact ⟨rfl, B3.out⟩
set_option maxHeartbeats 4000000 in
set_option maxRecDepth 100000 in
theorem completelaw_bad2 (d n : Int) (w : World) (hK : Kd w) (hP : Pd w) (h1 : ¬ d < 2) (h2 : ¬ 60 < d) (h3 : n < 2) : Calls Tryd.prog 3 #[.int .i64 d, .int .i64 n] w (lawPost w) := by
  have AW := Lib.hid (awake7 w hK hP)
  have CO := Lib.hid fun W => complete_bad d n W (by omega)
  clear hK hP
  go_enter Tryd.func3, Tryd.ntmps3
  go_wp2_with fail
  refine AW.out.mono ?_
  rintro e z1 ⟨rfl, hb1⟩
  have B1 := Lib.hid hb1
  clear hb1 AW
  go_wp2_with fail
  refine (CO.out z1).mono ?_
  rintro e z2 ⟨rfl, hb2⟩
  have B2 := Lib.hid (B1.out.trans (hb2.mono B1.out.size))
  have B3 := Lib.hid (B2.out.alloc B2.out.size (.cells #[.int .i64 0, .slice none 0 0] 25))
  clear hb2 CO
  go_wp2_with fail
  go_ret
  exact ⟨rfl, B3.out⟩
set_option maxHeartbeats 4000000 in
set_option maxRecDepth 100000 in
theorem completelaw_bad3 (d n : Int) (w : World) (hK : Kd w) (hP : Pd w) (h1 : ¬ d < 2) (h2 : ¬ 60 < d) (h3 : ¬ n < 2) (h4 : d < n) : Calls Tryd.prog 3 #[.int .i64 d, .int .i64 n] w (lawPost w) := by
  have AW := Lib.hid (awake7 w hK hP)
  have CO := Lib.hid fun W => complete_bad d n W (by omega)
  clear hK hP
  go_enter Tryd.func3, Tryd.ntmps3
  go_wp2_with fail
  refine AW.out.mono ?_
  rintro e z1 ⟨rfl, hb1⟩
  have B1 := Lib.hid hb1
  clear hb1 AW
  go_wp2_with fail
  refine (CO.out z1).mono ?_
  rintro e z2 ⟨rfl, hb2⟩
  have B2 := Lib.hid (B1.out.trans (hb2.mono B1.out.size))
  have B3 := Lib.hid (B2.out.alloc B2.out.size (.cells #[.int .i64 0, .slice none 0 0] 25))
  clear hb2 CO
  go_wp2_with fail
  go_ret
  exact ⟨rfl, B3.out⟩
set_option maxHeartbeats 4000000 in
set_option maxRecDepth 100000 in
theorem completelaw_big (v k : Nat) (w : World) (hK : Kd w) (hP : Pd w) (h2 : 2 ≤ k) (hkv : k ≤ v) (h60 : v ≤ 60) (hc : 4096 < ch v k) : Calls Tryd.prog 3 #[.int .i64 (v : Int), .int .i64 (k : Int)] w (lawPost w) := by
  have AW := Lib.hid (awake7 w hK hP)
  have CO := Lib.hid fun W => complete_gt W h2 hkv h60 hc
  have NM := Lib.hid fun W => rnum_any v k W h60 hkv
  have HC := Lib.hid hc
  have g1 : ¬ (v : Int) < 2 := by omega
  have g2 : ¬ (60 : Int) < (v : Int) := by omega
  have g3 : ¬ (k : Int) < 2 := by omega
  have g4 : ¬ v < k := by omega
  clear hK hP hc
  go_enter Tryd.func3, Tryd.ntmps3
  go_wp2_with fail
  refine AW.out.mono ?_
  rintro e z1 ⟨rfl, hb1⟩
  have B1 := Lib.hid hb1
  clear hb1 AW
  go_wp2_with fail
  refine (CO.out z1).mono ?_
  rintro e z2 ⟨rfl, hb2⟩
  have B2 := Lib.hid (B1.out.trans (hb2.mono B1.out.size))
  have B3 := Lib.hid (B2.out.alloc B2.out.size (.cells #[.int .i64 0, .slice none 0 0] 25))
  clear hb2 CO
  go_wp2_with fail
  refine (NM.out _).mono ?_
  rintro e z4 ⟨c, rfl, hw9, hcc⟩
  obtain rfl := hw9
  have B4 := B3
  have cI : (4096 : Int) < (c : Int) := by have := HC.out; omega
  go_wp2_with fail
  go_ret
  exact ⟨rfl, B4.out⟩
set_option maxHeartbeats 4000000 in
set_option maxRecDepth 100000 in
theorem completelaw_mid (v k : Nat) (w : World) (hK : Kd w) (hP : Pd w) (h2 : 2 ≤ k) (hkv : k ≤ v) (h60 : v ≤ 60) (hc : 1000 < ch v k ∧ ch v k ≤ 4096) : Calls Tryd.prog 3 #[.int .i64 (v : Int), .int .i64 (k : Int)] w (lawPost w) := by
  have HK0 := Lib.hid hK
  have HP0 := Lib.hid hP
  have AW := Lib.hid (awake7 w hK hP)
  have CO := Lib.hid fun W => complete_le W h2 hkv h60 (by omega)
  have NM := Lib.hid fun W => rnum_any v k W h60 hkv
  have RC := Lib.hid fun W => rcomplete_any v k W h2 hkv h60 (by omega)
  have LN := Lib.hid (comb_len v v k)
  have HC := Lib.hid hc
  have g1 : ¬ (v : Int) < 2 := by omega
  have g2 : ¬ (60 : Int) < (v : Int) := by omega
  have g3 : ¬ (k : Int) < 2 := by omega
  have g4 : ¬ v < k := by omega
  obtain ⟨N, hN⟩ : ∃ N, ch v k = N := ⟨_, rfl⟩
  rw [hN] at LN HC
  have HN := Lib.hid hN
  obtain ⟨L, hL⟩ : ∃ L, comb v v k = L := ⟨_, rfl⟩
  rw [hL] at LN CO RC
  clear hK hP hc hN hL
  go_enter Tryd.func3, Tryd.ntmps3
  go_wp2_with fail
  refine AW.out.mono ?_
  rintro e x2 ⟨rfl, hb1⟩
  have hq3 : Below w.heap.size w x2 := hb1
  have HB_4 : Hid (Below w.heap.size w x2) := Lib.hid (hq3)
  clear hq3
  clear hb1
  go_wp2_with fail
  refine (CO.out _).mono ?_
  rintro e x6 ⟨vv, rfl, hg7, hb5⟩
  obtain ⟨A1, k1, rfl⟩ := slform hg7
  rw [LN.out] at hg7 ⊢
  have hq8 : Below x2.heap.size x2 x6 := hb5
  have HB_9 : Hid (Below w.heap.size w x6) := Lib.hid (HB_4.out.trans (hq8.mono HB_4.out.size))
  clear hq8
  have G1_ := Lib.hid hg7
  have hba : Below x6.heap.size x6 (x6.alloc (.cells #[.int .i64 (v : Int), .slice A1 N k1] 25)) := (Below.refl _ _).alloc (Nat.le_refl _) _
  have RW := Lib.hid (row_new' x6 #[.int .i64 (v : Int), .slice A1 N k1] 25)
  clear hb5 hg7
  unfold dv
  go_wp2_with fail
  obtain ⟨D, hD⟩ : ∃ D, x6.heap.size = D := ⟨_, rfl⟩
  rw [hD] at RW ⊢
  obtain ⟨y1, hy⟩ : ∃ y, (x6.alloc (.cells #[.int .i64 (v : Int), .slice A1 N k1] 25)) = y := ⟨_, rfl⟩
  rw [hy] at RW hba ⊢
  have hq10 : Below x6.heap.size x6 y1 := hba
  have G_11 := Lib.hid (Gs.to G1_.out hq10)
  have HB_12 : Hid (Below w.heap.size w y1) := Lib.hid (HB_9.out.trans (hq10.mono HB_9.out.size))
  clear hq10
  clear hy hba hD
  refine (NM.out _).mono ?_
  rintro e x14 ⟨c, rfl, hw9, hcc⟩
  obtain rfl := hw9.symm
  obtain rfl : c = N := by have h1 := HC.out; have h2 := HN.out; rw [h2] at hcc; rcases hcc with h | h <;> omega
  clear hcc
  have cI : ¬ (4096 : Int) < (c : Int) := by have := HC.out; omega
  have cJ : (1000 : Int) < (c : Int) := by have := HC.out; omega
  have d0 := RW.out.cell 0
  have d1 := RW.out.cell 1
  go_wp2_with fail
  go_quiet (fail)
  go_wp2_with fail
  go_ret
  exact ⟨rfl, below_drewN HB_12.out _⟩
set_option maxHeartbeats 4000000 in
set_option maxRecDepth 100000 in
theorem completelaw_ok (v k : Nat) (w : World) (hK : Kd w) (hP : Pd w) (h2 : 2 ≤ k) (hkv : k ≤ v) (h60 : v ≤ 60) (hc : ch v k ≤ 1000) : Calls Tryd.prog 3 #[.int .i64 (v : Int), .int .i64 (k : Int)] w (lawPost w) := by
  have HK0 := Lib.hid hK
  have HP0 := Lib.hid hP
  have AW := Lib.hid (awake7 w hK hP)
  have CO := Lib.hid fun W => complete_le W h2 hkv h60 (by omega)
  have NM := Lib.hid fun W => rnum_any v k W h60 hkv
  have RC := Lib.hid fun W => rcomplete_any v k W h2 hkv h60 (by omega)
  have LN := Lib.hid (comb_len v v k)
  have HC := Lib.hid hc
  have g1 : ¬ (v : Int) < 2 := by omega
  have g2 : ¬ (60 : Int) < (v : Int) := by omega
  have g3 : ¬ (k : Int) < 2 := by omega
  have g4 : ¬ v < k := by omega
  obtain ⟨N, hN⟩ : ∃ N, ch v k = N := ⟨_, rfl⟩
  rw [hN] at LN HC
  have HN := Lib.hid hN
  obtain ⟨L, hL⟩ : ∃ L, comb v v k = L := ⟨_, rfl⟩
  rw [hL] at LN CO RC
  clear hK hP hc hN hL
  go_enter Tryd.func3, Tryd.ntmps3
  go_wp2_with fail
  refine AW.out.mono ?_
  rintro e x2 ⟨rfl, hb1⟩
  have hq3 : Below w.heap.size w x2 := hb1
  have HB_4 : Hid (Below w.heap.size w x2) := Lib.hid (hq3)
  clear hq3
  clear hb1
  go_wp2_with fail
  refine (CO.out _).mono ?_
  rintro e x6 ⟨vv, rfl, hg7, hb5⟩
  obtain ⟨A1, k1, rfl⟩ := slform hg7
  rw [LN.out] at hg7 ⊢
  have hq8 : Below x2.heap.size x2 x6 := hb5
  have HB_9 : Hid (Below w.heap.size w x6) := Lib.hid (HB_4.out.trans (hq8.mono HB_4.out.size))
  clear hq8
  have G1_ := Lib.hid hg7
  have hba : Below x6.heap.size x6 (x6.alloc (.cells #[.int .i64 (v : Int), .slice A1 N k1] 25)) := (Below.refl _ _).alloc (Nat.le_refl _) _
  have RW := Lib.hid (row_new' x6 #[.int .i64 (v : Int), .slice A1 N k1] 25)
  clear hb5 hg7
  unfold dv
  go_wp2_with fail
  obtain ⟨D, hD⟩ : ∃ D, x6.heap.size = D := ⟨_, rfl⟩
  rw [hD] at RW ⊢
  obtain ⟨y1, hy⟩ : ∃ y, (x6.alloc (.cells #[.int .i64 (v : Int), .slice A1 N k1] 25)) = y := ⟨_, rfl⟩
  rw [hy] at RW hba ⊢
  have hq10 : Below x6.heap.size x6 y1 := hba
  have G_11 := Lib.hid (Gs.to G1_.out hq10)
  have HB_12 : Hid (Below w.heap.size w y1) := Lib.hid (HB_9.out.trans (hq10.mono HB_9.out.size))
  clear hq10
  clear hy hba hD
  refine (NM.out _).mono ?_
  rintro e x14 ⟨c, rfl, hw9, hcc⟩
  obtain rfl := hw9.symm
  obtain rfl : c = N := by have h1 := HC.out; have h2 := HN.out; rw [h2] at hcc; rcases hcc with h | h <;> omega
  clear hcc
  have cI : ¬ (4096 : Int) < (c : Int) := by have := HC.out; omega
  have cJ : ¬ (1000 : Int) < (c : Int) := by have := HC.out; omega
  go_wp2_with fail
  refine wp_region_held (P := Tryd.prog) (S := (fun w' : World => w'.rangeAt D 0 [.int .i64 (v : Int), .slice A1 c k1])) rfl ?_
  change wpAnyH _ _ _ _ _ _ _ _ y1.drew
  have hz16 : Below y1.heap.size y1 y1.drew := (Below.refl y1.heap.size y1).drew
  generalize y1.drew = wz15 at hz16 ⊢
  have hq17 : Below y1.heap.size y1 wz15 := hz16
  have G_18 := Lib.hid (Gs.to G_11.out hq17)
  have R_19 := Lib.hid (Row.go RW.out hq17)
  have HB_20 : Hid (Below w.heap.size w wz15) := Lib.hid (HB_12.out.trans (hq17.mono HB_12.out.size))
  clear hq17
  clear hz16
  have hS21 : (fun w' : World => w'.rangeAt D 0 [.int .i64 (v : Int), .slice A1 c k1]) wz15 := R_19.out.ran2
  refine takeD (i := 0) (v := .int .i64 0) (some 62) rfl rfl (by kernel_rfl) (by kernel_rfl) (by kernel_rfl) (fun _ _ _ h => h) (Or.inl ⟨by rfl, by rintro w' -; go_simp⟩) hS21 ?_
  simp only [Act.put, List.setIfInBounds_toArray, List.set_cons_zero, List.set_cons_succ]
  refine takeD (i := 1) (v := .bool true) (some 63) rfl rfl (by kernel_rfl) (by kernel_rfl) (by kernel_rfl) (fun _ _ _ h => h) (Or.inl ⟨by rfl, by rintro w' -; go_simp⟩) hS21 ?_
  simp only [Act.put, List.setIfInBounds_toArray, List.set_cons_zero, List.set_cons_succ]
  refine takeD (i := 2) (v := .bool true) (some 64) rfl rfl (by kernel_rfl) (by kernel_rfl) (by kernel_rfl) (fun _ _ _ h => h) (Or.inl ⟨by rfl, by rintro w' -; go_simp⟩) hS21 ?_
  simp only [Act.put, List.setIfInBounds_toArray, List.set_cons_zero, List.set_cons_succ]
  refine takeD (i := 3) (v := .pointer (some ⟨D, 1, none⟩)) (some 65) rfl rfl (by kernel_rfl) (by kernel_rfl) (by kernel_rfl) (fun _ _ _ h => h) (Or.inl ⟨by rfl, by rintro w' -; go_simp⟩) hS21 ?_
  simp only [Act.put, List.setIfInBounds_toArray, List.set_cons_zero, List.set_cons_succ]
  refine takeD (i := 4) (v := .slice A1 c k1) (some 66) rfl rfl (by kernel_rfl) (by kernel_rfl) (by kernel_rfl) (fun _ _ _ h => h) (Or.inl ⟨by rfl, by rintro w' h; have hc := Row.c1r h; go_simp⟩) hS21 ?_
  simp only [Act.put, List.setIfInBounds_toArray, List.set_cons_zero, List.set_cons_succ]
  refine takeD (i := 5) (v := .int .i64 (c : Int)) (some 67) rfl rfl (by kernel_rfl) (by kernel_rfl) (by kernel_rfl) (fun _ _ _ h => h) (Or.inl ⟨by rfl, by rintro w' -; go_simp⟩) hS21 ?_
  simp only [Act.put, List.setIfInBounds_toArray, List.set_cons_zero, List.set_cons_succ]
  refine takeD (i := 6) (v := .int .i64 (c : Int)) (some 68) rfl rfl (by kernel_rfl) (by kernel_rfl) (by kernel_rfl) (fun _ _ _ h => h) (Or.inl ⟨by rfl, by rintro w' -; go_simp⟩) hS21 ?_
  simp only [Act.put, List.setIfInBounds_toArray, List.set_cons_zero, List.set_cons_succ]
  refine takeD (i := 7) (v := .bool true) (some 69) rfl rfl (by kernel_rfl) (by kernel_rfl) (by kernel_rfl) (fun _ _ _ h => h) (Or.inl ⟨by rfl, by rintro w' -; go_simp⟩) hS21 ?_
  simp only [Act.put, List.setIfInBounds_toArray, List.set_cons_zero, List.set_cons_succ]
  refine takeD (i := 8) (v := .bool true) (some 70) rfl rfl (by kernel_rfl) (by kernel_rfl) (by kernel_rfl) (fun _ _ _ h => h) (Or.inl ⟨by rfl, by rintro w' -; go_simp⟩) hS21 ?_
  simp only [Act.put, List.setIfInBounds_toArray, List.set_cons_zero, List.set_cons_succ]
  refine takeD (i := 9) (v := .bool true) (some 71) rfl rfl (by kernel_rfl) (by kernel_rfl) (by kernel_rfl) (fun _ _ _ h => h) (Or.inl ⟨by rfl, by rintro w' -; go_simp⟩) hS21 ?_
  simp only [Act.put, List.setIfInBounds_toArray, List.set_cons_zero, List.set_cons_succ]
  refine takeD (i := 10) (v := .int .i64 (c : Int)) (some 72) rfl rfl (by kernel_rfl) (by kernel_rfl) (by kernel_rfl) (fun _ _ _ h => h) (Or.inl ⟨by rfl, by rintro w' -; go_simp⟩) hS21 ?_
  simp only [Act.put, List.setIfInBounds_toArray, List.set_cons_zero, List.set_cons_succ]
  refine takeD (i := 11) (v := .bool false) (some 73) rfl rfl (by kernel_rfl) (by kernel_rfl) (by kernel_rfl) (fun _ _ _ h => h) (Or.inl ⟨by rfl, by rintro w' -; go_simp⟩) hS21 ?_
  simp only [Act.put, List.setIfInBounds_toArray, List.set_cons_zero, List.set_cons_succ]
  refine takeD (i := 12) (v := .bool false) (some 74) rfl rfl (by kernel_rfl) (by kernel_rfl) (by kernel_rfl) (fun _ _ _ h => h) (Or.inl ⟨by rfl, by rintro w' -; go_simp⟩) hS21 ?_
  simp only [Act.put, List.setIfInBounds_toArray, List.set_cons_zero, List.set_cons_succ]
  refine takeD (i := 13) (v := .agg #[.int .i64 (v : Int), .slice A1 c k1]) (some 75) rfl rfl (by kernel_rfl) (by kernel_rfl) (by kernel_rfl) (fun _ _ _ h => h) (yieldsIf_load_mid (by rfl) _ _ rfl _ _ rfl [.int .i64 (v : Int), .slice A1 c k1] _ (fun w' h => h) Tryd.underlying25 rfl (si2 _ _)) hS21 ?_
  simp only [Act.put, List.setIfInBounds_toArray, List.set_cons_zero, List.set_cons_succ]
  refine takeD (i := 14) (v := .int .i64 (v : Int)) (some 76) rfl rfl (by kernel_rfl) (by kernel_rfl) (by kernel_rfl) (fun _ _ _ h => h) (Or.inl ⟨by rfl, by rintro w' -; go_simp⟩) hS21 ?_
  simp only [Act.put, List.setIfInBounds_toArray, List.set_cons_zero, List.set_cons_succ]
  refine takeD (i := 15) (v := .int .i64 (k : Int)) (some 77) rfl rfl (by kernel_rfl) (by kernel_rfl) (by kernel_rfl) (fun _ _ _ h => h) (Or.inl ⟨by rfl, by rintro w' -; go_simp⟩) hS21 ?_
  simp only [Act.put, List.setIfInBounds_toArray, List.set_cons_zero, List.set_cons_succ]
  refine wpAnyH_ready (rs := [16]) (by kernel_rfl) (by simp) ?_
  refine AllReadyH.cons rfl (fun K22 hK22 => ?_) AllReadyH.nil
  have HK22 := Lib.hid hK22
  clear hK22
  rw [if_pos (by rfl)]
  go_simp
  refine (RC.out _).mono ?_
  rintro e x24 hrd
  obtain ⟨vr, rfl, hg25, hb23⟩ := rd_of hrd
  clear hrd
  unfold dv
  have hq26 : Below wz15.heap.size wz15 x24 := hb23
  have G_27 := Lib.hid (Gs.to G_18.out hq26)
  have R_28 := Lib.hid (Row.go R_19.out hq26)
  have HB_29 : Hid (Below w.heap.size w x24) := Lib.hid (HB_20.out.trans (hq26.mono HB_20.out.size))
  clear hq26
  have GR_ := Lib.hid hg25
  clear hg25 hb23
  have hS30 : (fun w' : World => w'.rangeAt D 0 [.int .i64 (v : Int), .slice A1 c k1]) x24 := R_28.out.ran2
  refine HK22.out _ _ hS30 fun _ => ?_
  try simp only [Act.put, List.setIfInBounds_toArray, List.set_cons_zero, List.set_cons_succ]
  refine wpAnyH_ready (rs := [17]) (by kernel_rfl) (by simp) ?_
  refine AllReadyH.cons rfl (fun K31 hK31 => ?_) AllReadyH.nil
  have HK31 := Lib.hid hK31
  clear hK31
  rw [if_pos (by rfl)]
  go_simp
  refine (same_ag v L _ _ _ G_27.out GR_.out).mono ?_
  rintro e x33 ⟨rfl, hb32⟩
  have hq34 : Below x24.heap.size x24 x33 := hb32
  have G_35 := Lib.hid (Gs.to G_27.out hq34)
  have R_36 := Lib.hid (Row.go R_28.out hq34)
  have Q_37 := Lib.hid (Gs.to GR_.out hq34)
  have HB_38 : Hid (Below w.heap.size w x33) := Lib.hid (HB_29.out.trans (hq34.mono HB_29.out.size))
  clear hq34
  clear hb32
  have hS39 : (fun w' : World => w'.rangeAt D 0 [.int .i64 (v : Int), .slice A1 c k1]) x33 := R_36.out.ran2
  refine HK31.out _ _ hS39 fun _ => ?_
  try simp only [Act.put, List.setIfInBounds_toArray, List.set_cons_zero, List.set_cons_succ]
  refine takeD (i := 18) (v := .bool true) (some 80) rfl rfl (by kernel_rfl) (by kernel_rfl) (by kernel_rfl) (fun _ _ _ h => h) (Or.inl ⟨by rfl, by rintro w' -; go_simp⟩) hS39 ?_
  simp only [Act.put, List.setIfInBounds_toArray, List.set_cons_zero, List.set_cons_succ]
  refine takeD (i := 19) (v := .bool true) (some 81) rfl rfl (by kernel_rfl) (by kernel_rfl) (by kernel_rfl) (fun _ _ _ h => h) (Or.inl ⟨by rfl, by rintro w' -; go_simp⟩) hS39 ?_
  simp only [Act.put, List.setIfInBounds_toArray, List.set_cons_zero, List.set_cons_succ]
  refine takeD (i := 20) (v := .bool true) (some 4) rfl rfl (by kernel_rfl) (by kernel_rfl) (by kernel_rfl) (fun _ _ _ h => h) (Or.inl ⟨by rfl, by rintro w' -; go_simp⟩) hS39 ?_
  simp only [Act.put, List.setIfInBounds_toArray, List.set_cons_zero, List.set_cons_succ]
  refine wpAnyH_done (by kernel_rfl) ?_ _
  go_wp2_with fail
  go_ret
  exact ⟨rfl, HB_38.out⟩
theorem completelaw_walk (d n : Int) (w : World) (hK : Kd w) (hP : Pd w) : Calls Tryd.prog 3 #[.int .i64 d, .int .i64 n] w (lawPost w) := by
  by_cases h1 : d < 2
  · exact completelaw_bad0 d n w hK hP h1
  by_cases h2 : 60 < d
  · exact completelaw_bad1 d n w hK hP h1 h2
  by_cases h3 : n < 2
  · exact completelaw_bad2 d n w hK hP h1 h2 h3
  by_cases h4 : d < n
  · exact completelaw_bad3 d n w hK hP h1 h2 h3 h4
  obtain ⟨v, rfl⟩ : ∃ v : Nat, d = (v : Int) := ⟨d.toNat, by omega⟩
  obtain ⟨k, rfl⟩ : ∃ k : Nat, n = (k : Int) := ⟨n.toNat, by omega⟩
  by_cases h5 : ch v k ≤ 1000
  · exact completelaw_ok v k w hK hP (by omega) (by omega) (by omega) h5
  by_cases h6 : ch v k ≤ 4096
  · exact completelaw_mid v k w hK hP (by omega) (by omega) (by omega) (by omega)
  · exact completelaw_big v k w hK hP (by omega) (by omega) (by omega) (by omega)
end Go.Proofs.YtnnacofjogfkeaaDoor
