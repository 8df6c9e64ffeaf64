/- Law walks: PlaneProjective, PlaneAffine. WRITTEN BY gen_Wa.py. -/
import Derived.Test.YtjbgfpbidjhlkaaDoorUp
import Derived.Test.YtjbgfpbidjhlkaaDoorUq
import Derived.Test.YtjbgfpbidjhlkaaDoorGK
namespace Go.Proofs.YtjbgfpbidjhlkaaDoor
open Go Go.RowKit Pl
set_option linter.unusedVariables false
set_option linter.unusedSimpArgs false

theorem Row.rng {w : World} {g : Nat} {t : TypeId} {cs : Array Value} (h : Row w g t cs) : w.rangeAt g 0 cs.toList := fun j v hv => by
  rw [Nat.zero_add, h.cell]; simpa using hv
theorem Row.ran2 {w : World} {g : Nat} {t : TypeId} {a b : Value} (h : Row w g t #[a, b]) : w.rangeAt g 0 [a, b] := h.rng
theorem si2 (a b : Value) : (Tryd.prog.info? 25).map (·.size) = some [a, b].length := by kernel_rfl
theorem same_ag (n : Nat) (L : List (List Nat)) (va vb : Value) (w : World) (ha : Gs w va L) (hb : Gs w vb L) : Calls Tryd.prog 14 #[.agg #[.int .i64 (n : Int), va], .agg #[.int .i64 (n : Int), vb]] w (bel (.bool true) w) := same_any n L va vb w ha hb

set_option maxHeartbeats 4000000 in
set_option maxRecDepth 100000 in
theorem projectivelaw_arg (q : Int) (w : World) (hK : Kd w) (hq : ∀ k, k < 7 → (kS k : Int) ≠ q) : Calls Tryd.prog 3 #[.int .i64 q] w (lawPost w) := by
  have KK := Lib.hid fun W (hb : Below w.heap.size w W) => hK.below hb
  have AW := Lib.hid (awake6 w hK)
  have C1 := Lib.hid fun W (h : Kd W) => proj_arg q W h hq
  have C2 := Lib.hid fun W => wrong_arg q W hq
  clear hK hq
  go_enter Tryd.func3, Tryd.ntmps3
  go_wp2_with fail
  refine AW.out.mono ?_
  rintro e w1 ⟨rfl, hb1⟩
  have B1 := Lib.hid hb1
  clear hb1
  go_wp2_with fail
  refine (C1.out _ (KK.out _ B1.out)).mono ?_
  rintro e w2 ⟨rfl, hb2⟩
  have B2 := Lib.hid (B1.out.trans (hb2.mono B1.out.size))
  have hba : Below w2.heap.size w2 (w2.alloc (.cells #[.int .i64 0, .slice none 0 0] 25)) := (Below.refl _ _).alloc (Nat.le_refl _) _
  have B3 := Lib.hid (B2.out.trans (hba.mono B2.out.size))
  have R3 := Lib.hid (row_new' w2 #[.int .i64 0, .slice none 0 0] 25)
  clear hb2 hba
  unfold dv
  go_wp2_with fail
  refine (C2.out _).mono ?_
  rintro e z1 ⟨rfl, hzz⟩
  obtain rfl := hzz.symm
  go_wp2_with fail
  refine (C2.out _).mono ?_
  rintro e z2 ⟨rfl, hzz⟩
  obtain rfl := hzz.symm
  go_wp2_with fail
  go_ret
  exact ⟨rfl, B3.out⟩
set_option maxHeartbeats 4000000 in
set_option maxRecDepth 100000 in
theorem projectivelaw_limit (q : Nat) (w : World) (hK : Kd w) (hq : q ∈ Sf.sizes) (h8 : q ∉ szs) : Calls Tryd.prog 3 #[.int .i64 (q : Int)] w (lawPost w) := by
  have KK := Lib.hid fun W (hb : Below w.heap.size w W) => hK.below hb
  have AW := Lib.hid (awake6 w hK)
  have C1 := Lib.hid fun W (h : Kd W) => proj_limit q W h hq h8
  have C2 := Lib.hid fun W => wrong_limit q W hq h8
  clear hK hq h8
  go_enter Tryd.func3, Tryd.ntmps3
  go_wp2_with fail
  refine AW.out.mono ?_
  rintro e w1 ⟨rfl, hb1⟩
  have B1 := Lib.hid hb1
  clear hb1
  go_wp2_with fail
  refine (C1.out _ (KK.out _ B1.out)).mono ?_
  rintro e w2 ⟨rfl, hb2⟩
  have B2 := Lib.hid (B1.out.trans (hb2.mono B1.out.size))
  have hba : Below w2.heap.size w2 (w2.alloc (.cells #[.int .i64 0, .slice none 0 0] 25)) := (Below.refl _ _).alloc (Nat.le_refl _) _
  have B3 := Lib.hid (B2.out.trans (hba.mono B2.out.size))
  have R3 := Lib.hid (row_new' w2 #[.int .i64 0, .slice none 0 0] 25)
  clear hb2 hba
  unfold dv
  go_wp2_with fail
  refine (C2.out _).mono ?_
  rintro e z1 ⟨rfl, hzz⟩
  obtain rfl := hzz.symm
  go_wp2_with fail
  refine (C2.out _).mono ?_
  rintro e z2 ⟨rfl, hzz⟩
  obtain rfl := hzz.symm
  go_wp2_with fail
  go_ret
  exact ⟨rfl, B3.out⟩
set_option maxHeartbeats 4000000 in
set_option maxRecDepth 100000 in
theorem projectivelaw_ok (q : Nat) (w : World) (hK : Kd w) (hq : q ∈ szs) : Calls Tryd.prog 3 #[.int .i64 (q : Int)] w (lawPost w) := by
  have HK0 := Lib.hid hK
  have AW := Lib.hid (awake6 w hK)
  have C1 := Lib.hid fun W (h : Kd W) => proj_ok q W h hq
  have C2 := Lib.hid fun W => wrong_ok q W hq
  have C3 := Lib.hid fun W => rproj_any q W hq
  obtain ⟨N, hN⟩ : ∃ N, cN q = N := ⟨_, rfl⟩
  obtain ⟨L, hL⟩ : ∃ L, (List.range (cN q)).map (line q) = L := ⟨_, rfl⟩
  rw [hL, hN] at C1 C3
  clear hK hq hN hL
  go_enter Tryd.func3, Tryd.ntmps3
  go_wp2_with fail
  refine AW.out.mono ?_
  rintro e x2 ⟨rfl, hb1⟩
  have hq3 : Below w.heap.size w x2 := hb1
  have K_4 := Lib.hid (Kd.below HK0.out hq3)
  have HB_5 : Hid (Below w.heap.size w x2) := Lib.hid (hq3)
  clear hq3
  clear hb1
  go_wp2_with fail
  refine (C1.out _ K_4.out).mono ?_
  rintro e x7 ⟨v, rfl, hg8, hb6⟩
  obtain ⟨A1, k1, rfl⟩ := slform hg8
  obtain ⟨n, hn⟩ : ∃ n, L.length = n := ⟨_, rfl⟩
  rw [hn] at hg8 ⊢
  clear hn
  have hq9 : Below x2.heap.size x2 x7 := hb6
  have HB_10 : Hid (Below w.heap.size w x7) := Lib.hid (HB_5.out.trans (hq9.mono HB_5.out.size))
  clear hq9
  have G1_ := Lib.hid hg8
  have hba : Below x7.heap.size x7 (x7.alloc (.cells #[.int .i64 (N : Int), .slice A1 n k1] 25)) := (Below.refl _ _).alloc (Nat.le_refl _) _
  have RW := Lib.hid (row_new' x7 #[.int .i64 (N : Int), .slice A1 n k1] 25)
  clear hb6 hg8
  unfold dv
  go_wp2_with fail
  obtain ⟨D, hD⟩ : ∃ D, x7.heap.size = D := ⟨_, rfl⟩
  rw [hD] at RW ⊢
  obtain ⟨y1, hy⟩ : ∃ y, (x7.alloc (.cells #[.int .i64 (N : Int), .slice A1 n k1] 25)) = y := ⟨_, rfl⟩
  rw [hy] at RW hba ⊢
  have hq11 : Below x7.heap.size x7 y1 := hba
  have G_12 := Lib.hid (Gs.to G1_.out hq11)
  have HB_13 : Hid (Below w.heap.size w y1) := Lib.hid (HB_10.out.trans (hq11.mono HB_10.out.size))
  clear hq11
  clear hy hba hD
  refine (C2.out _).mono ?_
  rintro e z1 ⟨rfl, hzz⟩
  obtain rfl := hzz.symm
  go_wp2_with fail
  refine wp_region_held (P := Tryd.prog) (S := (fun w' : World => w'.rangeAt D 0 [.int .i64 (N : Int), .slice A1 n k1])) rfl ?_
  change wpAnyH _ _ _ _ _ _ _ _ y1.drew
  have hz15 : Below y1.heap.size y1 y1.drew := (Below.refl y1.heap.size y1).drew
  generalize y1.drew = wz14 at hz15 ⊢
  have hq16 : Below y1.heap.size y1 wz14 := hz15
  have G_17 := Lib.hid (Gs.to G_12.out hq16)
  have R_18 := Lib.hid (Row.go RW.out hq16)
  have HB_19 : Hid (Below w.heap.size w wz14) := Lib.hid (HB_13.out.trans (hq16.mono HB_13.out.size))
  clear hq16
  clear hz15
  have hS20 : (fun w' : World => w'.rangeAt D 0 [.int .i64 (N : Int), .slice A1 n k1]) wz14 := R_18.out.ran2
  refine takeD (i := 0) (v := .int .i64 0) (some 30) rfl rfl (by kernel_rfl) (by kernel_rfl) (by kernel_rfl) (fun _ _ _ h => h) (Or.inl ⟨by rfl, by rintro w' -; go_simp⟩) hS20 ?_
  simp only [Act.put, List.setIfInBounds_toArray, List.set_cons_zero, List.set_cons_succ]
  refine takeD (i := 1) (v := .bool true) (some 31) rfl rfl (by kernel_rfl) (by kernel_rfl) (by kernel_rfl) (fun _ _ _ h => h) (Or.inl ⟨by rfl, by rintro w' -; go_simp⟩) hS20 ?_
  simp only [Act.put, List.setIfInBounds_toArray, List.set_cons_zero, List.set_cons_succ]
  refine takeD (i := 2) (v := .bool true) (some 32) rfl rfl (by kernel_rfl) (by kernel_rfl) (by kernel_rfl) (fun _ _ _ h => h) (Or.inl ⟨by rfl, by rintro w' -; go_simp⟩) hS20 ?_
  simp only [Act.put, List.setIfInBounds_toArray, List.set_cons_zero, List.set_cons_succ]
  refine takeD (i := 3) (v := .agg #[.int .i64 (N : Int), .slice A1 n k1]) (some 33) rfl rfl (by kernel_rfl) (by kernel_rfl) (by kernel_rfl) (fun _ _ _ h => h) (yieldsIf_load_mid (by rfl) _ _ rfl _ _ rfl [.int .i64 (N : Int), .slice A1 n k1] _ (fun w' h => h) Tryd.underlying25 rfl (si2 _ _)) hS20 ?_
  simp only [Act.put, List.setIfInBounds_toArray, List.set_cons_zero, List.set_cons_succ]
  refine takeD (i := 4) (v := .int .i64 (q : Int)) (some 34) rfl rfl (by kernel_rfl) (by kernel_rfl) (by kernel_rfl) (fun _ _ _ h => h) (Or.inl ⟨by rfl, by rintro w' -; go_simp⟩) hS20 ?_
  simp only [Act.put, List.setIfInBounds_toArray, List.set_cons_zero, List.set_cons_succ]
  refine wpAnyH_ready (rs := [5]) (by kernel_rfl) (by simp) ?_
  refine AllReadyH.cons rfl (fun K21 hK21 => ?_) AllReadyH.nil
  have HK21 := Lib.hid hK21
  clear hK21
  rw [if_pos (by rfl)]
  go_simp
  refine (C3.out _).mono ?_
  rintro e x23 ⟨vr, rfl, hg24, hb22⟩
  unfold dv
  have hq25 : Below wz14.heap.size wz14 x23 := hb22
  have G_26 := Lib.hid (Gs.to G_17.out hq25)
  have R_27 := Lib.hid (Row.go R_18.out hq25)
  have HB_28 : Hid (Below w.heap.size w x23) := Lib.hid (HB_19.out.trans (hq25.mono HB_19.out.size))
  clear hq25
  have GR_ := Lib.hid hg24
  clear hg24 hb22
  have hS29 : (fun w' : World => w'.rangeAt D 0 [.int .i64 (N : Int), .slice A1 n k1]) x23 := R_27.out.ran2
  refine HK21.out _ _ hS29 fun _ => ?_
  try simp only [Act.put, List.setIfInBounds_toArray, List.set_cons_zero, List.set_cons_succ]
  refine wpAnyH_ready (rs := [6]) (by kernel_rfl) (by simp) ?_
  refine AllReadyH.cons rfl (fun K30 hK30 => ?_) AllReadyH.nil
  have HK30 := Lib.hid hK30
  clear hK30
  rw [if_pos (by rfl)]
  go_simp
  refine (same_ag N L _ _ _ G_26.out GR_.out).mono ?_
  rintro e x32 ⟨rfl, hb31⟩
  have hq33 : Below x23.heap.size x23 x32 := hb31
  have G_34 := Lib.hid (Gs.to G_26.out hq33)
  have R_35 := Lib.hid (Row.go R_27.out hq33)
  have Q_36 := Lib.hid (Gs.to GR_.out hq33)
  have HB_37 : Hid (Below w.heap.size w x32) := Lib.hid (HB_28.out.trans (hq33.mono HB_28.out.size))
  clear hq33
  clear hb31
  have hS38 : (fun w' : World => w'.rangeAt D 0 [.int .i64 (N : Int), .slice A1 n k1]) x32 := R_35.out.ran2
  refine HK30.out _ _ hS38 fun _ => ?_
  try simp only [Act.put, List.setIfInBounds_toArray, List.set_cons_zero, List.set_cons_succ]
  refine takeD (i := 7) (v := .bool true) (some 37) rfl rfl (by kernel_rfl) (by kernel_rfl) (by kernel_rfl) (fun _ _ _ h => h) (Or.inl ⟨by rfl, by rintro w' -; go_simp⟩) hS38 ?_
  simp only [Act.put, List.setIfInBounds_toArray, List.set_cons_zero, List.set_cons_succ]
  refine takeD (i := 8) (v := .bool true) (some 2) rfl rfl (by kernel_rfl) (by kernel_rfl) (by kernel_rfl) (fun _ _ _ h => h) (Or.inl ⟨by rfl, by rintro w' -; go_simp⟩) hS38 ?_
  simp only [Act.put, List.setIfInBounds_toArray, List.set_cons_zero, List.set_cons_succ]
  refine wpAnyH_done (by kernel_rfl) ?_ _
  go_wp2_with fail
  go_ret
  exact ⟨rfl, HB_37.out⟩
theorem projectivelaw_walk (q : Int) (w : World) (hK : Kd w) : Calls Tryd.prog 3 #[.int .i64 q] w (lawPost w) := by
  by_cases hq : ∃ k, k < 7 ∧ (kS k : Int) = q
  · obtain ⟨k, hk, rfl⟩ := hq
    have qs := (kS_ok k hk).1
    by_cases h8 : kS k ∈ szs
    · exact projectivelaw_ok _ w hK h8
    · exact projectivelaw_limit _ w hK qs h8
  · exact projectivelaw_arg q w hK fun k hk e => hq ⟨k, hk, e⟩
set_option maxHeartbeats 4000000 in
set_option maxRecDepth 100000 in
theorem affinelaw_arg (q : Int) (w : World) (hK : Kd w) (hq : ∀ k, k < 7 → (kS k : Int) ≠ q) : Calls Tryd.prog 4 #[.int .i64 q] w (lawPost w) := by
  have KK := Lib.hid fun W (hb : Below w.heap.size w W) => hK.below hb
  have AW := Lib.hid (awake6 w hK)
  have C1 := Lib.hid fun W (h : Kd W) => affine_arg q W h hq
  have C2 := Lib.hid fun W => wrong_arg q W hq
  clear hK hq
  go_enter Tryd.func4, Tryd.ntmps4
  go_wp2_with fail
  refine AW.out.mono ?_
  rintro e w1 ⟨rfl, hb1⟩
  have B1 := Lib.hid hb1
  clear hb1
  go_wp2_with fail
  refine (C1.out _ (KK.out _ B1.out)).mono ?_
  rintro e w2 ⟨rfl, hb2⟩
  have B2 := Lib.hid (B1.out.trans (hb2.mono B1.out.size))
  have hba : Below w2.heap.size w2 (w2.alloc (.cells #[.int .i64 0, .slice none 0 0] 25)) := (Below.refl _ _).alloc (Nat.le_refl _) _
  have B3 := Lib.hid (B2.out.trans (hba.mono B2.out.size))
  have R3 := Lib.hid (row_new' w2 #[.int .i64 0, .slice none 0 0] 25)
  clear hb2 hba
  unfold dv
  go_wp2_with fail
  refine (C2.out _).mono ?_
  rintro e z1 ⟨rfl, hzz⟩
  obtain rfl := hzz.symm
  go_wp2_with fail
  refine (C2.out _).mono ?_
  rintro e z2 ⟨rfl, hzz⟩
  obtain rfl := hzz.symm
  go_wp2_with fail
  go_ret
  exact ⟨rfl, B3.out⟩
set_option maxHeartbeats 4000000 in
set_option maxRecDepth 100000 in
theorem affinelaw_limit (q : Nat) (w : World) (hK : Kd w) (hq : q ∈ Sf.sizes) (h8 : q ∉ szs) : Calls Tryd.prog 4 #[.int .i64 (q : Int)] w (lawPost w) := by
  have KK := Lib.hid fun W (hb : Below w.heap.size w W) => hK.below hb
  have AW := Lib.hid (awake6 w hK)
  have C1 := Lib.hid fun W (h : Kd W) => affine_limit q W h hq h8
  have C2 := Lib.hid fun W => wrong_limit q W hq h8
  clear hK hq h8
  go_enter Tryd.func4, Tryd.ntmps4
  go_wp2_with fail
  refine AW.out.mono ?_
  rintro e w1 ⟨rfl, hb1⟩
  have B1 := Lib.hid hb1
  clear hb1
  go_wp2_with fail
  refine (C1.out _ (KK.out _ B1.out)).mono ?_
  rintro e w2 ⟨rfl, hb2⟩
  have B2 := Lib.hid (B1.out.trans (hb2.mono B1.out.size))
  have hba : Below w2.heap.size w2 (w2.alloc (.cells #[.int .i64 0, .slice none 0 0] 25)) := (Below.refl _ _).alloc (Nat.le_refl _) _
  have B3 := Lib.hid (B2.out.trans (hba.mono B2.out.size))
  have R3 := Lib.hid (row_new' w2 #[.int .i64 0, .slice none 0 0] 25)
  clear hb2 hba
  unfold dv
  go_wp2_with fail
  refine (C2.out _).mono ?_
  rintro e z1 ⟨rfl, hzz⟩
  obtain rfl := hzz.symm
  go_wp2_with fail
  refine (C2.out _).mono ?_
  rintro e z2 ⟨rfl, hzz⟩
  obtain rfl := hzz.symm
  go_wp2_with fail
  go_ret
  exact ⟨rfl, B3.out⟩
set_option maxHeartbeats 4000000 in
set_option maxRecDepth 100000 in
theorem affinelaw_ok (q : Nat) (w : World) (hK : Kd w) (hq : q ∈ szs) : Calls Tryd.prog 4 #[.int .i64 (q : Int)] w (lawPost w) := by
  have HK0 := Lib.hid hK
  have AW := Lib.hid (awake6 w hK)
  have C1 := Lib.hid fun W (h : Kd W) => affine_ok q W h hq
  have C2 := Lib.hid fun W => wrong_ok q W hq
  have C3 := Lib.hid fun W => raff_any q W hq
  obtain ⟨N, hN⟩ : ∃ N, q * q = N := ⟨_, rfl⟩
  obtain ⟨L, hL⟩ : ∃ L, (List.range (q * q + q)).map (aff q) = L := ⟨_, rfl⟩
  rw [hL, hN] at C1 C3
  clear hK hq hN hL
  go_enter Tryd.func4, Tryd.ntmps4
  go_wp2_with fail
  refine AW.out.mono ?_
  rintro e x2 ⟨rfl, hb1⟩
  have hq3 : Below w.heap.size w x2 := hb1
  have K_4 := Lib.hid (Kd.below HK0.out hq3)
  have HB_5 : Hid (Below w.heap.size w x2) := Lib.hid (hq3)
  clear hq3
  clear hb1
  go_wp2_with fail
  refine (C1.out _ K_4.out).mono ?_
  rintro e x7 ⟨v, rfl, hg8, hb6⟩
  obtain ⟨A1, k1, rfl⟩ := slform hg8
  obtain ⟨n, hn⟩ : ∃ n, L.length = n := ⟨_, rfl⟩
  rw [hn] at hg8 ⊢
  clear hn
  have hq9 : Below x2.heap.size x2 x7 := hb6
  have HB_10 : Hid (Below w.heap.size w x7) := Lib.hid (HB_5.out.trans (hq9.mono HB_5.out.size))
  clear hq9
  have G1_ := Lib.hid hg8
  have hba : Below x7.heap.size x7 (x7.alloc (.cells #[.int .i64 (N : Int), .slice A1 n k1] 25)) := (Below.refl _ _).alloc (Nat.le_refl _) _
  have RW := Lib.hid (row_new' x7 #[.int .i64 (N : Int), .slice A1 n k1] 25)
  clear hb6 hg8
  unfold dv
  go_wp2_with fail
  obtain ⟨D, hD⟩ : ∃ D, x7.heap.size = D := ⟨_, rfl⟩
  rw [hD] at RW ⊢
  obtain ⟨y1, hy⟩ : ∃ y, (x7.alloc (.cells #[.int .i64 (N : Int), .slice A1 n k1] 25)) = y := ⟨_, rfl⟩
  rw [hy] at RW hba ⊢
  have hq11 : Below x7.heap.size x7 y1 := hba
  have G_12 := Lib.hid (Gs.to G1_.out hq11)
  have HB_13 : Hid (Below w.heap.size w y1) := Lib.hid (HB_10.out.trans (hq11.mono HB_10.out.size))
  clear hq11
  clear hy hba hD
  refine (C2.out _).mono ?_
  rintro e z1 ⟨rfl, hzz⟩
  obtain rfl := hzz.symm
  go_wp2_with fail
  refine wp_region_held (P := Tryd.prog) (S := (fun w' : World => w'.rangeAt D 0 [.int .i64 (N : Int), .slice A1 n k1])) rfl ?_
  change wpAnyH _ _ _ _ _ _ _ _ y1.drew
  have hz15 : Below y1.heap.size y1 y1.drew := (Below.refl y1.heap.size y1).drew
  generalize y1.drew = wz14 at hz15 ⊢
  have hq16 : Below y1.heap.size y1 wz14 := hz15
  have G_17 := Lib.hid (Gs.to G_12.out hq16)
  have R_18 := Lib.hid (Row.go RW.out hq16)
  have HB_19 : Hid (Below w.heap.size w wz14) := Lib.hid (HB_13.out.trans (hq16.mono HB_13.out.size))
  clear hq16
  clear hz15
  have hS20 : (fun w' : World => w'.rangeAt D 0 [.int .i64 (N : Int), .slice A1 n k1]) wz14 := R_18.out.ran2
  refine takeD (i := 0) (v := .int .i64 0) (some 30) rfl rfl (by kernel_rfl) (by kernel_rfl) (by kernel_rfl) (fun _ _ _ h => h) (Or.inl ⟨by rfl, by rintro w' -; go_simp⟩) hS20 ?_
  simp only [Act.put, List.setIfInBounds_toArray, List.set_cons_zero, List.set_cons_succ]
  refine takeD (i := 1) (v := .bool true) (some 31) rfl rfl (by kernel_rfl) (by kernel_rfl) (by kernel_rfl) (fun _ _ _ h => h) (Or.inl ⟨by rfl, by rintro w' -; go_simp⟩) hS20 ?_
  simp only [Act.put, List.setIfInBounds_toArray, List.set_cons_zero, List.set_cons_succ]
  refine takeD (i := 2) (v := .bool true) (some 32) rfl rfl (by kernel_rfl) (by kernel_rfl) (by kernel_rfl) (fun _ _ _ h => h) (Or.inl ⟨by rfl, by rintro w' -; go_simp⟩) hS20 ?_
  simp only [Act.put, List.setIfInBounds_toArray, List.set_cons_zero, List.set_cons_succ]
  refine takeD (i := 3) (v := .agg #[.int .i64 (N : Int), .slice A1 n k1]) (some 33) rfl rfl (by kernel_rfl) (by kernel_rfl) (by kernel_rfl) (fun _ _ _ h => h) (yieldsIf_load_mid (by rfl) _ _ rfl _ _ rfl [.int .i64 (N : Int), .slice A1 n k1] _ (fun w' h => h) Tryd.underlying25 rfl (si2 _ _)) hS20 ?_
  simp only [Act.put, List.setIfInBounds_toArray, List.set_cons_zero, List.set_cons_succ]
  refine takeD (i := 4) (v := .int .i64 (q : Int)) (some 34) rfl rfl (by kernel_rfl) (by kernel_rfl) (by kernel_rfl) (fun _ _ _ h => h) (Or.inl ⟨by rfl, by rintro w' -; go_simp⟩) hS20 ?_
  simp only [Act.put, List.setIfInBounds_toArray, List.set_cons_zero, List.set_cons_succ]
  refine wpAnyH_ready (rs := [5]) (by kernel_rfl) (by simp) ?_
  refine AllReadyH.cons rfl (fun K21 hK21 => ?_) AllReadyH.nil
  have HK21 := Lib.hid hK21
  clear hK21
  rw [if_pos (by rfl)]
  go_simp
  refine (C3.out _).mono ?_
  rintro e x23 ⟨vr, rfl, hg24, hb22⟩
  unfold dv
  have hq25 : Below wz14.heap.size wz14 x23 := hb22
  have G_26 := Lib.hid (Gs.to G_17.out hq25)
  have R_27 := Lib.hid (Row.go R_18.out hq25)
  have HB_28 : Hid (Below w.heap.size w x23) := Lib.hid (HB_19.out.trans (hq25.mono HB_19.out.size))
  clear hq25
  have GR_ := Lib.hid hg24
  clear hg24 hb22
  have hS29 : (fun w' : World => w'.rangeAt D 0 [.int .i64 (N : Int), .slice A1 n k1]) x23 := R_27.out.ran2
  refine HK21.out _ _ hS29 fun _ => ?_
  try simp only [Act.put, List.setIfInBounds_toArray, List.set_cons_zero, List.set_cons_succ]
  refine wpAnyH_ready (rs := [6]) (by kernel_rfl) (by simp) ?_
  refine AllReadyH.cons rfl (fun K30 hK30 => ?_) AllReadyH.nil
  have HK30 := Lib.hid hK30
  clear hK30
  rw [if_pos (by rfl)]
  go_simp
  refine (same_ag N L _ _ _ G_26.out GR_.out).mono ?_
  rintro e x32 ⟨rfl, hb31⟩
  have hq33 : Below x23.heap.size x23 x32 := hb31
  have G_34 := Lib.hid (Gs.to G_26.out hq33)
  have R_35 := Lib.hid (Row.go R_27.out hq33)
  have Q_36 := Lib.hid (Gs.to GR_.out hq33)
  have HB_37 : Hid (Below w.heap.size w x32) := Lib.hid (HB_28.out.trans (hq33.mono HB_28.out.size))
  clear hq33
  clear hb31
  have hS38 : (fun w' : World => w'.rangeAt D 0 [.int .i64 (N : Int), .slice A1 n k1]) x32 := R_35.out.ran2
  refine HK30.out _ _ hS38 fun _ => ?_
  try simp only [Act.put, List.setIfInBounds_toArray, List.set_cons_zero, List.set_cons_succ]
  refine takeD (i := 7) (v := .bool true) (some 37) rfl rfl (by kernel_rfl) (by kernel_rfl) (by kernel_rfl) (fun _ _ _ h => h) (Or.inl ⟨by rfl, by rintro w' -; go_simp⟩) hS38 ?_
  simp only [Act.put, List.setIfInBounds_toArray, List.set_cons_zero, List.set_cons_succ]
  refine takeD (i := 8) (v := .bool true) (some 2) rfl rfl (by kernel_rfl) (by kernel_rfl) (by kernel_rfl) (fun _ _ _ h => h) (Or.inl ⟨by rfl, by rintro w' -; go_simp⟩) hS38 ?_
  simp only [Act.put, List.setIfInBounds_toArray, List.set_cons_zero, List.set_cons_succ]
  refine wpAnyH_done (by kernel_rfl) ?_ _
  go_wp2_with fail
  go_ret
  exact ⟨rfl, HB_37.out⟩
theorem affinelaw_walk (q : Int) (w : World) (hK : Kd w) : Calls Tryd.prog 4 #[.int .i64 q] w (lawPost w) := by
  by_cases hq : ∃ k, k < 7 ∧ (kS k : Int) = q
  · obtain ⟨k, hk, rfl⟩ := hq
    have qs := (kS_ok k hk).1
    by_cases h8 : kS k ∈ szs
    · exact affinelaw_ok _ w hK h8
    · exact affinelaw_limit _ w hK qs h8
  · exact affinelaw_arg q w hK fun k hk e => hq ⟨k, hk, e⟩
end Go.Proofs.YtjbgfpbidjhlkaaDoor
