/- Layer 10: the walks of GeometryValid, GeometryLocate, GeometryShadow, GeometryAddress. WRITTEN BY gen_Kf.py. -/
import Derived.Test.YtgdhpcajiggnbaaKe
namespace Go.Proofs.Ytgdhpcajiggnbaa
open Go Go.RowKit
set_option linter.unusedVariables false
set_option linter.unusedSimpArgs false

set_option maxHeartbeats 4000000 in
set_option maxRecDepth 100000 in
theorem gvalid_walk (r b t s o : Int) (w : World) : Calls Try.prog 3 #[.agg #[.int .i64 r, .int .i64 b, .int .i64 t, .int .i64 s, .int .i64 o]] w (lawPost w) := by
  obtain ⟨v, hv⟩ : ∃ v, decide (Geo.GV r b t s o) = v := ⟨_, rfl⟩
  obtain ⟨z, hz⟩ : ∃ v, Geo.size r b t s o = v := ⟨_, rfl⟩
  obtain ⟨y, hy⟩ : ∃ v, Geo.band r b t s o = v := ⟨_, rfl⟩
  have V1 := Lib.hid fun w => pvalid_any r b t s o w
  have V2 := Lib.hid fun w => rvalid_any r b t s o w
  have Z1 := Lib.hid fun w => psize_any r b t s o w
  have Z2 := Lib.hid fun w => rsize_any r b t s o w
  have Y1 := Lib.hid fun w => pband_any r b t s o w
  have Y2 := Lib.hid fun w => rband_any r b t s o w
  rw [hv] at V1 V2
  rw [hz] at Z1 Z2
  rw [hy] at Y1 Y2
  clear hv hz hy
  obtain ⟨B0, hB0⟩ : ∃ B, w.heap.size = B := ⟨_, rfl⟩
  obtain ⟨W0, hW0⟩ : ∃ W, w.alloc (.cells #[.int .i64 r, .int .i64 b, .int .i64 t, .int .i64 s, .int .i64 o] 23) = W := ⟨_, rfl⟩
  have BW : Hid (Below w.heap.size w W0) := Lib.hid (by subst hW0; exact (Below.refl _ _).alloc (Nat.le_refl _) _)
  have R0 : Hid (Row W0 B0 23 #[.int .i64 r, .int .i64 b, .int .i64 t, .int .i64 s, .int .i64 o]) := Lib.hid (by subst hW0; exact gr_new w _ _ hB0)
  have c0 := R0.out.cell 0
  have c1 := R0.out.cell 1
  have c2 := R0.out.cell 2
  have c3 := R0.out.cell 3
  have c4 := R0.out.cell 4
  simp only [List.getElem?_toArray, List.getElem?_cons_zero, List.getElem?_cons_succ] at c0 c1 c2 c3 c4
  have HB0 := Lib.hid hB0
  have HW0 := Lib.hid hW0
  clear hB0 hW0
  go_enter Try.func3, Try.ntmps3
  go_wp2_with (first | rw [HB0.out] | rw [HW0.out])
  clear c0 c1 c2 c3 c4
  refine wp_region_held (P := Try.prog) (S := (fun w' : World => Below W0.heap.size W0 w')) rfl ?_
  change wpAnyH _ _ _ _ _ _ _ _ W0.drew
  have hz2 : Below W0.heap.size W0 W0.drew := (Below.refl W0.heap.size W0).drew
  generalize W0.drew = wz1 at hz2 ⊢
  have R_3 := Lib.hid (rw_fw R0.out (hz2))
  have hl4 := hz2
  have HT_5 : Hid (Below w.heap.size w wz1) := Lib.hid (BW.out.trans ((hl4).mono BW.out.size))
  refine wpAnyH_up (S' := (fun w' : World => Below wz1.heap.size wz1 w')) (fun w' h => hz2.trans (h.mono hz2.size)) ?_
  have hS6 : (fun w' : World => Below wz1.heap.size wz1 w') wz1 := Below.refl _ _
  refine wpAnyH_ready (rs := [0]) (by kernel_rfl) (by simp) ?_
  refine AllReadyH.cons rfl (fun K7 hK7 => ?_) AllReadyH.nil
  have HK7 := Lib.hid hK7
  clear hK7
  rw [if_pos (by rfl)]
  go_simp
  refine (awake10 _).mono ?_
  rintro e x8 ⟨rfl, hb9⟩
  have R_10 := Lib.hid (rw_fw R_3.out (hb9))
  have hl11 := hb9
  have HT_12 : Hid (Below w.heap.size w x8) := Lib.hid (HT_5.out.trans ((hl11).mono HT_5.out.size))
  clear hb9 
  have hb14 : Below wz1.heap.size wz1 x8 := hl11
  have hS13 : (fun w' : World => Below wz1.heap.size wz1 w') x8 := hb14
  refine HK7.out _ _ hS13 fun _ => ?_
  try simp only [Act.put, List.setIfInBounds_toArray, List.set_cons_zero, List.set_cons_succ]
  refine wpAnyH_up (S' := (fun w' : World => Below x8.heap.size x8 w')) (fun w' h => hb14.trans (h.mono hb14.size)) ?_
  have hS15 : (fun w' : World => Below x8.heap.size x8 w') x8 := Below.refl _ _
  refine takeD (i := 1) (v := .bool true) (some 4) rfl rfl (by kernel_rfl) (by kernel_rfl) (by kernel_rfl) (fun _ _ _ h => h) (Or.inl ⟨by rfl, by rintro w' -; go_simp⟩) hS15 ?_
  simp only [Act.put, List.setIfInBounds_toArray, List.set_cons_zero, List.set_cons_succ]
  refine takeD (i := 2) (v := .agg #[.int .i64 r, .int .i64 b, .int .i64 t, .int .i64 s, .int .i64 o]) (some 5) rfl rfl (by kernel_rfl) (by kernel_rfl) (by kernel_rfl) (fun _ _ _ h => h) (yieldsIf_load_mid (by rfl) _ _ rfl B0 0 rfl (#[.int .i64 r, .int .i64 b, .int .i64 t, .int .i64 s, .int .i64 o]).toList _ (fun w' h => gr_rng (rw_fw R_10.out h)) Try.underlying23 rfl (by kernel_rfl)) hS15 ?_
  simp only [Act.put, List.setIfInBounds_toArray, List.set_cons_zero, List.set_cons_succ]
  refine takeD (i := 4) (v := .agg #[.int .i64 r, .int .i64 b, .int .i64 t, .int .i64 s, .int .i64 o]) (some 7) rfl rfl (by kernel_rfl) (by kernel_rfl) (by kernel_rfl) (fun _ _ _ h => h) (yieldsIf_load_mid (by rfl) _ _ rfl B0 0 rfl (#[.int .i64 r, .int .i64 b, .int .i64 t, .int .i64 s, .int .i64 o]).toList _ (fun w' h => gr_rng (rw_fw R_10.out h)) Try.underlying23 rfl (by kernel_rfl)) hS15 ?_
  simp only [Act.put, List.setIfInBounds_toArray, List.set_cons_zero, List.set_cons_succ]
  refine wpAnyH_ready (rs := [3]) (by kernel_rfl) (by simp) ?_
  refine AllReadyH.cons rfl (fun K16 hK16 => ?_) AllReadyH.nil
  have HK16 := Lib.hid hK16
  clear hK16
  rw [if_pos (by rfl)]
  go_simp
  refine (V1.out _).mono ?_
  rintro e x17 ⟨rfl, hb18⟩
  have R_19 := Lib.hid (rw_fw R_10.out (hb18))
  have hl20 := hb18
  have HT_21 : Hid (Below w.heap.size w x17) := Lib.hid (HT_12.out.trans ((hl20).mono HT_12.out.size))
  clear hb18 
  have hb23 : Below x8.heap.size x8 x17 := hl20
  have hS22 : (fun w' : World => Below x8.heap.size x8 w') x17 := hb23
  refine HK16.out _ _ hS22 fun _ => ?_
  try simp only [Act.put, List.setIfInBounds_toArray, List.set_cons_zero, List.set_cons_succ]
  refine wpAnyH_up (S' := (fun w' : World => Below x17.heap.size x17 w')) (fun w' h => hb23.trans (h.mono hb23.size)) ?_
  have hS24 : (fun w' : World => Below x17.heap.size x17 w') x17 := Below.refl _ _
  refine wpAnyH_ready (rs := [5]) (by kernel_rfl) (by simp) ?_
  refine AllReadyH.cons rfl (fun K25 hK25 => ?_) AllReadyH.nil
  have HK25 := Lib.hid hK25
  clear hK25
  rw [if_pos (by rfl)]
  go_simp
  refine (V2.out _).mono ?_
  rintro e x26 ⟨rfl, hb27⟩
  have R_28 := Lib.hid (rw_fw R_19.out (hb27))
  have hl29 := hb27
  have HT_30 : Hid (Below w.heap.size w x26) := Lib.hid (HT_21.out.trans ((hl29).mono HT_21.out.size))
  clear hb27 
  have hb32 : Below x17.heap.size x17 x26 := hl29
  have hS31 : (fun w' : World => Below x17.heap.size x17 w') x26 := hb32
  refine HK25.out _ _ hS31 fun _ => ?_
  try simp only [Act.put, List.setIfInBounds_toArray, List.set_cons_zero, List.set_cons_succ]
  refine wpAnyH_up (S' := (fun w' : World => Below x26.heap.size x26 w')) (fun w' h => hb32.trans (h.mono hb32.size)) ?_
  have hS33 : (fun w' : World => Below x26.heap.size x26 w') x26 := Below.refl _ _
  refine takeD (i := 6) (v := .bool true) (some 9) rfl rfl (by kernel_rfl) (by kernel_rfl) (by kernel_rfl) (fun _ _ _ h => h) (Or.inl ⟨by rfl, by rintro w' -; go_simp⟩) hS33 ?_
  simp only [Act.put, List.setIfInBounds_toArray, List.set_cons_zero, List.set_cons_succ]
  refine takeD (i := 7) (v := .bool true) (some 10) rfl rfl (by kernel_rfl) (by kernel_rfl) (by kernel_rfl) (fun _ _ _ h => h) (Or.inl ⟨by rfl, by rintro w' -; go_simp⟩) hS33 ?_
  simp only [Act.put, List.setIfInBounds_toArray, List.set_cons_zero, List.set_cons_succ]
  refine takeD (i := 8) (v := .bool true) (some 11) rfl rfl (by kernel_rfl) (by kernel_rfl) (by kernel_rfl) (fun _ _ _ h => h) (Or.inl ⟨by rfl, by rintro w' -; go_simp⟩) hS33 ?_
  simp only [Act.put, List.setIfInBounds_toArray, List.set_cons_zero, List.set_cons_succ]
  refine takeD (i := 9) (v := .agg #[.int .i64 r, .int .i64 b, .int .i64 t, .int .i64 s, .int .i64 o]) (some 12) rfl rfl (by kernel_rfl) (by kernel_rfl) (by kernel_rfl) (fun _ _ _ h => h) (yieldsIf_load_mid (by rfl) _ _ rfl B0 0 rfl (#[.int .i64 r, .int .i64 b, .int .i64 t, .int .i64 s, .int .i64 o]).toList _ (fun w' h => gr_rng (rw_fw R_28.out h)) Try.underlying23 rfl (by kernel_rfl)) hS33 ?_
  simp only [Act.put, List.setIfInBounds_toArray, List.set_cons_zero, List.set_cons_succ]
  refine takeD (i := 11) (v := .agg #[.int .i64 r, .int .i64 b, .int .i64 t, .int .i64 s, .int .i64 o]) (some 14) rfl rfl (by kernel_rfl) (by kernel_rfl) (by kernel_rfl) (fun _ _ _ h => h) (yieldsIf_load_mid (by rfl) _ _ rfl B0 0 rfl (#[.int .i64 r, .int .i64 b, .int .i64 t, .int .i64 s, .int .i64 o]).toList _ (fun w' h => gr_rng (rw_fw R_28.out h)) Try.underlying23 rfl (by kernel_rfl)) hS33 ?_
  simp only [Act.put, List.setIfInBounds_toArray, List.set_cons_zero, List.set_cons_succ]
  refine wpAnyH_ready (rs := [10]) (by kernel_rfl) (by simp) ?_
  refine AllReadyH.cons rfl (fun K34 hK34 => ?_) AllReadyH.nil
  have HK34 := Lib.hid hK34
  clear hK34
  rw [if_pos (by rfl)]
  go_simp
  refine (Z1.out _).mono ?_
  rintro e x35 ⟨rfl, hb36⟩
  have R_37 := Lib.hid (rw_fw R_28.out (hb36))
  have hl38 := hb36
  have HT_39 : Hid (Below w.heap.size w x35) := Lib.hid (HT_30.out.trans ((hl38).mono HT_30.out.size))
  clear hb36 
  have hb41 : Below x26.heap.size x26 x35 := hl38
  have hS40 : (fun w' : World => Below x26.heap.size x26 w') x35 := hb41
  refine HK34.out _ _ hS40 fun _ => ?_
  try simp only [Act.put, List.setIfInBounds_toArray, List.set_cons_zero, List.set_cons_succ]
  refine wpAnyH_up (S' := (fun w' : World => Below x35.heap.size x35 w')) (fun w' h => hb41.trans (h.mono hb41.size)) ?_
  have hS42 : (fun w' : World => Below x35.heap.size x35 w') x35 := Below.refl _ _
  refine wpAnyH_ready (rs := [12]) (by kernel_rfl) (by simp) ?_
  refine AllReadyH.cons rfl (fun K43 hK43 => ?_) AllReadyH.nil
  have HK43 := Lib.hid hK43
  clear hK43
  rw [if_pos (by rfl)]
  go_simp
  refine (Z2.out _).mono ?_
  rintro e x44 ⟨rfl, hb45⟩
  have R_46 := Lib.hid (rw_fw R_37.out (hb45))
  have hl47 := hb45
  have HT_48 : Hid (Below w.heap.size w x44) := Lib.hid (HT_39.out.trans ((hl47).mono HT_39.out.size))
  clear hb45 
  have hb50 : Below x35.heap.size x35 x44 := hl47
  have hS49 : (fun w' : World => Below x35.heap.size x35 w') x44 := hb50
  refine HK43.out _ _ hS49 fun _ => ?_
  try simp only [Act.put, List.setIfInBounds_toArray, List.set_cons_zero, List.set_cons_succ]
  refine wpAnyH_up (S' := (fun w' : World => Below x44.heap.size x44 w')) (fun w' h => hb50.trans (h.mono hb50.size)) ?_
  have hS51 : (fun w' : World => Below x44.heap.size x44 w') x44 := Below.refl _ _
  refine takeD (i := 13) (v := .bool true) (some 16) rfl rfl (by kernel_rfl) (by kernel_rfl) (by kernel_rfl) (fun _ _ _ h => h) (Or.inl ⟨by rfl, by rintro w' -; go_simp⟩) hS51 ?_
  simp only [Act.put, List.setIfInBounds_toArray, List.set_cons_zero, List.set_cons_succ]
  refine takeD (i := 14) (v := .bool true) (some 17) rfl rfl (by kernel_rfl) (by kernel_rfl) (by kernel_rfl) (fun _ _ _ h => h) (Or.inl ⟨by rfl, by rintro w' -; go_simp⟩) hS51 ?_
  simp only [Act.put, List.setIfInBounds_toArray, List.set_cons_zero, List.set_cons_succ]
  refine takeD (i := 15) (v := .bool true) (some 18) rfl rfl (by kernel_rfl) (by kernel_rfl) (by kernel_rfl) (fun _ _ _ h => h) (Or.inl ⟨by rfl, by rintro w' -; go_simp⟩) hS51 ?_
  simp only [Act.put, List.setIfInBounds_toArray, List.set_cons_zero, List.set_cons_succ]
  refine takeD (i := 16) (v := .agg #[.int .i64 r, .int .i64 b, .int .i64 t, .int .i64 s, .int .i64 o]) (some 19) rfl rfl (by kernel_rfl) (by kernel_rfl) (by kernel_rfl) (fun _ _ _ h => h) (yieldsIf_load_mid (by rfl) _ _ rfl B0 0 rfl (#[.int .i64 r, .int .i64 b, .int .i64 t, .int .i64 s, .int .i64 o]).toList _ (fun w' h => gr_rng (rw_fw R_46.out h)) Try.underlying23 rfl (by kernel_rfl)) hS51 ?_
  simp only [Act.put, List.setIfInBounds_toArray, List.set_cons_zero, List.set_cons_succ]
  refine takeD (i := 18) (v := .agg #[.int .i64 r, .int .i64 b, .int .i64 t, .int .i64 s, .int .i64 o]) (some 21) rfl rfl (by kernel_rfl) (by kernel_rfl) (by kernel_rfl) (fun _ _ _ h => h) (yieldsIf_load_mid (by rfl) _ _ rfl B0 0 rfl (#[.int .i64 r, .int .i64 b, .int .i64 t, .int .i64 s, .int .i64 o]).toList _ (fun w' h => gr_rng (rw_fw R_46.out h)) Try.underlying23 rfl (by kernel_rfl)) hS51 ?_
  simp only [Act.put, List.setIfInBounds_toArray, List.set_cons_zero, List.set_cons_succ]
  refine wpAnyH_ready (rs := [17]) (by kernel_rfl) (by simp) ?_
  refine AllReadyH.cons rfl (fun K52 hK52 => ?_) AllReadyH.nil
  have HK52 := Lib.hid hK52
  clear hK52
  rw [if_pos (by rfl)]
  go_simp
  refine (Y1.out _).mono ?_
  rintro e x53 ⟨rfl, hb54⟩
  have R_55 := Lib.hid (rw_fw R_46.out (hb54))
  have hl56 := hb54
  have HT_57 : Hid (Below w.heap.size w x53) := Lib.hid (HT_48.out.trans ((hl56).mono HT_48.out.size))
  clear hb54 
  have hb59 : Below x44.heap.size x44 x53 := hl56
  have hS58 : (fun w' : World => Below x44.heap.size x44 w') x53 := hb59
  refine HK52.out _ _ hS58 fun _ => ?_
  try simp only [Act.put, List.setIfInBounds_toArray, List.set_cons_zero, List.set_cons_succ]
  refine wpAnyH_up (S' := (fun w' : World => Below x53.heap.size x53 w')) (fun w' h => hb59.trans (h.mono hb59.size)) ?_
  have hS60 : (fun w' : World => Below x53.heap.size x53 w') x53 := Below.refl _ _
  refine wpAnyH_ready (rs := [19]) (by kernel_rfl) (by simp) ?_
  refine AllReadyH.cons rfl (fun K61 hK61 => ?_) AllReadyH.nil
  have HK61 := Lib.hid hK61
  clear hK61
  rw [if_pos (by rfl)]
  go_simp
  refine (Y2.out _).mono ?_
  rintro e x62 ⟨rfl, hb63⟩
  have R_64 := Lib.hid (rw_fw R_55.out (hb63))
  have hl65 := hb63
  have HT_66 : Hid (Below w.heap.size w x62) := Lib.hid (HT_57.out.trans ((hl65).mono HT_57.out.size))
  clear hb63 
  have hb68 : Below x53.heap.size x53 x62 := hl65
  have hS67 : (fun w' : World => Below x53.heap.size x53 w') x62 := hb68
  refine HK61.out _ _ hS67 fun _ => ?_
  try simp only [Act.put, List.setIfInBounds_toArray, List.set_cons_zero, List.set_cons_succ]
  refine wpAnyH_up (S' := (fun w' : World => Below x62.heap.size x62 w')) (fun w' h => hb68.trans (h.mono hb68.size)) ?_
  have hS69 : (fun w' : World => Below x62.heap.size x62 w') x62 := Below.refl _ _
  refine takeD (i := 20) (v := .bool true) (some 23) rfl rfl (by kernel_rfl) (by kernel_rfl) (by kernel_rfl) (fun _ _ _ h => h) (Or.inl ⟨by rfl, by rintro w' -; go_simp⟩) hS69 ?_
  simp only [Act.put, List.setIfInBounds_toArray, List.set_cons_zero, List.set_cons_succ]
  refine takeD (i := 21) (v := .bool true) (some 24) rfl rfl (by kernel_rfl) (by kernel_rfl) (by kernel_rfl) (fun _ _ _ h => h) (Or.inl ⟨by rfl, by rintro w' -; go_simp⟩) hS69 ?_
  simp only [Act.put, List.setIfInBounds_toArray, List.set_cons_zero, List.set_cons_succ]
  refine takeD (i := 22) (v := .bool true) (some 2) rfl rfl (by kernel_rfl) (by kernel_rfl) (by kernel_rfl) (fun _ _ _ h => h) (Or.inl ⟨by rfl, by rintro w' -; go_simp⟩) hS69 ?_
  simp only [Act.put, List.setIfInBounds_toArray, List.set_cons_zero, List.set_cons_succ]
  refine wpAnyH_done (by kernel_rfl) ?_ _
  go_wp2_with fail
  go_ret
  exact ⟨rfl, HT_66.out⟩
set_option maxHeartbeats 4000000 in
set_option maxRecDepth 100000 in
theorem glocate_walk (r b t s o a : Int) (w : World) : Calls Try.prog 4 #[.agg #[.int .i64 r, .int .i64 b, .int .i64 t, .int .i64 s, .int .i64 o], .int .i64 a] w (lawPost w) := by
  obtain ⟨u, hu⟩ : ∃ v, Geo.rand r b t s o a = v := ⟨_, rfl⟩
  obtain ⟨l, hl⟩ : ∃ v, Geo.loc r b t s o a = v := ⟨_, rfl⟩
  have L1 := Lib.hid fun w => ploc_any r b t s o a w
  have L2 := Lib.hid fun w => rloc_any r b t s o a w
  have U1 := Lib.hid fun w => prand_any r b t s o a w
  have U2 := Lib.hid fun w => rrand_any r b t s o a w
  rw [hl] at L1 L2
  rw [hu] at U1 U2
  clear hl hu
  obtain ⟨l1, l2, l3, l4⟩ := l
  unfold locV at L1 L2
  obtain ⟨B0, hB0⟩ : ∃ B, w.heap.size = B := ⟨_, rfl⟩
  obtain ⟨W0, hW0⟩ : ∃ W, w.alloc (.cells #[.int .i64 r, .int .i64 b, .int .i64 t, .int .i64 s, .int .i64 o] 23) = W := ⟨_, rfl⟩
  have BW : Hid (Below w.heap.size w W0) := Lib.hid (by subst hW0; exact (Below.refl _ _).alloc (Nat.le_refl _) _)
  have R0 : Hid (Row W0 B0 23 #[.int .i64 r, .int .i64 b, .int .i64 t, .int .i64 s, .int .i64 o]) := Lib.hid (by subst hW0; exact gr_new w _ _ hB0)
  have c0 := R0.out.cell 0
  have c1 := R0.out.cell 1
  have c2 := R0.out.cell 2
  have c3 := R0.out.cell 3
  have c4 := R0.out.cell 4
  simp only [List.getElem?_toArray, List.getElem?_cons_zero, List.getElem?_cons_succ] at c0 c1 c2 c3 c4
  have HB0 := Lib.hid hB0
  have HW0 := Lib.hid hW0
  clear hB0 hW0
  go_enter Try.func4, Try.ntmps4
  go_wp2_with (first | rw [HB0.out] | rw [HW0.out])
  refine (L1.out _).mono ?_
  rintro e w1 ⟨rfl, hb⟩
  replace c0 := ce_fw c0 hb
  replace c1 := ce_fw c1 hb
  replace c2 := ce_fw c2 hb
  replace c3 := ce_fw c3 hb
  replace c4 := ce_fw c4 hb
  have B1 := Lib.hid (BW.out.trans (hb.mono BW.out.size))
  have R1 := Lib.hid (rw_fw R0.out hb)
  clear hb
  go_wp2_with fail
  refine (L2.out _).mono ?_
  rintro e w2 ⟨rfl, hb⟩
  replace c0 := ce_fw c0 hb
  replace c1 := ce_fw c1 hb
  replace c2 := ce_fw c2 hb
  replace c3 := ce_fw c3 hb
  replace c4 := ce_fw c4 hb
  have B2 := Lib.hid (B1.out.trans (hb.mono B1.out.size))
  have R2 := Lib.hid (rw_fw R1.out hb)
  clear hb
  go_wp2_with fail
  clear c0 c1 c2 c3 c4
  refine wp_region_held (P := Try.prog) (S := (fun w' : World => Below w2.heap.size w2 w')) rfl ?_
  change wpAnyH _ _ _ _ _ _ _ _ w2.drew
  have hz2 : Below w2.heap.size w2 w2.drew := (Below.refl w2.heap.size w2).drew
  generalize w2.drew = wz1 at hz2 ⊢
  have R_3 := Lib.hid (rw_fw R2.out (hz2))
  have hl4 := hz2
  have HT_5 : Hid (Below w.heap.size w wz1) := Lib.hid (B2.out.trans ((hl4).mono B2.out.size))
  refine wpAnyH_up (S' := (fun w' : World => Below wz1.heap.size wz1 w')) (fun w' h => hz2.trans (h.mono hz2.size)) ?_
  have hS6 : (fun w' : World => Below wz1.heap.size wz1 w') wz1 := Below.refl _ _
  refine wpAnyH_ready (rs := [0]) (by kernel_rfl) (by simp) ?_
  refine AllReadyH.cons rfl (fun K7 hK7 => ?_) AllReadyH.nil
  have HK7 := Lib.hid hK7
  clear hK7
  rw [if_pos (by rfl)]
  go_simp
  refine (awake10 _).mono ?_
  rintro e x8 ⟨rfl, hb9⟩
  have R_10 := Lib.hid (rw_fw R_3.out (hb9))
  have hl11 := hb9
  have HT_12 : Hid (Below w.heap.size w x8) := Lib.hid (HT_5.out.trans ((hl11).mono HT_5.out.size))
  clear hb9 
  have hb14 : Below wz1.heap.size wz1 x8 := hl11
  have hS13 : (fun w' : World => Below wz1.heap.size wz1 w') x8 := hb14
  refine HK7.out _ _ hS13 fun _ => ?_
  try simp only [Act.put, List.setIfInBounds_toArray, List.set_cons_zero, List.set_cons_succ]
  refine wpAnyH_up (S' := (fun w' : World => Below x8.heap.size x8 w')) (fun w' h => hb14.trans (h.mono hb14.size)) ?_
  have hS15 : (fun w' : World => Below x8.heap.size x8 w') x8 := Below.refl _ _
  refine takeD (i := 1) (v := .bool true) (some 30) rfl rfl (by kernel_rfl) (by kernel_rfl) (by kernel_rfl) (fun _ _ _ h => h) (Or.inl ⟨by rfl, by rintro w' -; go_simp⟩) hS15 ?_
  simp only [Act.put, List.setIfInBounds_toArray, List.set_cons_zero, List.set_cons_succ]
  refine takeD (i := 2) (v := .int .i64 l1) (some 31) rfl rfl (by kernel_rfl) (by kernel_rfl) (by kernel_rfl) (fun _ _ _ h => h) (Or.inl ⟨by rfl, by rintro w' -; go_simp⟩) hS15 ?_
  simp only [Act.put, List.setIfInBounds_toArray, List.set_cons_zero, List.set_cons_succ]
  refine takeD (i := 3) (v := .int .i64 l1) (some 32) rfl rfl (by kernel_rfl) (by kernel_rfl) (by kernel_rfl) (fun _ _ _ h => h) (Or.inl ⟨by rfl, by rintro w' -; go_simp⟩) hS15 ?_
  simp only [Act.put, List.setIfInBounds_toArray, List.set_cons_zero, List.set_cons_succ]
  refine takeD (i := 4) (v := .bool true) (some 33) rfl rfl (by kernel_rfl) (by kernel_rfl) (by kernel_rfl) (fun _ _ _ h => h) (Or.inl ⟨by rfl, by rintro w' -; go_simp⟩) hS15 ?_
  simp only [Act.put, List.setIfInBounds_toArray, List.set_cons_zero, List.set_cons_succ]
  refine takeD (i := 5) (v := .bool true) (some 34) rfl rfl (by kernel_rfl) (by kernel_rfl) (by kernel_rfl) (fun _ _ _ h => h) (Or.inl ⟨by rfl, by rintro w' -; go_simp⟩) hS15 ?_
  simp only [Act.put, List.setIfInBounds_toArray, List.set_cons_zero, List.set_cons_succ]
  refine takeD (i := 6) (v := .bool true) (some 35) rfl rfl (by kernel_rfl) (by kernel_rfl) (by kernel_rfl) (fun _ _ _ h => h) (Or.inl ⟨by rfl, by rintro w' -; go_simp⟩) hS15 ?_
  simp only [Act.put, List.setIfInBounds_toArray, List.set_cons_zero, List.set_cons_succ]
  refine takeD (i := 7) (v := .int .i64 l2) (some 36) rfl rfl (by kernel_rfl) (by kernel_rfl) (by kernel_rfl) (fun _ _ _ h => h) (Or.inl ⟨by rfl, by rintro w' -; go_simp⟩) hS15 ?_
  simp only [Act.put, List.setIfInBounds_toArray, List.set_cons_zero, List.set_cons_succ]
  refine takeD (i := 8) (v := .int .i64 l2) (some 37) rfl rfl (by kernel_rfl) (by kernel_rfl) (by kernel_rfl) (fun _ _ _ h => h) (Or.inl ⟨by rfl, by rintro w' -; go_simp⟩) hS15 ?_
  simp only [Act.put, List.setIfInBounds_toArray, List.set_cons_zero, List.set_cons_succ]
  refine takeD (i := 9) (v := .bool true) (some 38) rfl rfl (by kernel_rfl) (by kernel_rfl) (by kernel_rfl) (fun _ _ _ h => h) (Or.inl ⟨by rfl, by rintro w' -; go_simp⟩) hS15 ?_
  simp only [Act.put, List.setIfInBounds_toArray, List.set_cons_zero, List.set_cons_succ]
  refine takeD (i := 10) (v := .bool true) (some 39) rfl rfl (by kernel_rfl) (by kernel_rfl) (by kernel_rfl) (fun _ _ _ h => h) (Or.inl ⟨by rfl, by rintro w' -; go_simp⟩) hS15 ?_
  simp only [Act.put, List.setIfInBounds_toArray, List.set_cons_zero, List.set_cons_succ]
  refine takeD (i := 11) (v := .bool true) (some 40) rfl rfl (by kernel_rfl) (by kernel_rfl) (by kernel_rfl) (fun _ _ _ h => h) (Or.inl ⟨by rfl, by rintro w' -; go_simp⟩) hS15 ?_
  simp only [Act.put, List.setIfInBounds_toArray, List.set_cons_zero, List.set_cons_succ]
  refine takeD (i := 12) (v := .int .i64 l3) (some 41) rfl rfl (by kernel_rfl) (by kernel_rfl) (by kernel_rfl) (fun _ _ _ h => h) (Or.inl ⟨by rfl, by rintro w' -; go_simp⟩) hS15 ?_
  simp only [Act.put, List.setIfInBounds_toArray, List.set_cons_zero, List.set_cons_succ]
  refine takeD (i := 13) (v := .int .i64 l3) (some 42) rfl rfl (by kernel_rfl) (by kernel_rfl) (by kernel_rfl) (fun _ _ _ h => h) (Or.inl ⟨by rfl, by rintro w' -; go_simp⟩) hS15 ?_
  simp only [Act.put, List.setIfInBounds_toArray, List.set_cons_zero, List.set_cons_succ]
  refine takeD (i := 14) (v := .bool true) (some 43) rfl rfl (by kernel_rfl) (by kernel_rfl) (by kernel_rfl) (fun _ _ _ h => h) (Or.inl ⟨by rfl, by rintro w' -; go_simp⟩) hS15 ?_
  simp only [Act.put, List.setIfInBounds_toArray, List.set_cons_zero, List.set_cons_succ]
  refine takeD (i := 15) (v := .bool true) (some 44) rfl rfl (by kernel_rfl) (by kernel_rfl) (by kernel_rfl) (fun _ _ _ h => h) (Or.inl ⟨by rfl, by rintro w' -; go_simp⟩) hS15 ?_
  simp only [Act.put, List.setIfInBounds_toArray, List.set_cons_zero, List.set_cons_succ]
  refine takeD (i := 16) (v := .bool true) (some 45) rfl rfl (by kernel_rfl) (by kernel_rfl) (by kernel_rfl) (fun _ _ _ h => h) (Or.inl ⟨by rfl, by rintro w' -; go_simp⟩) hS15 ?_
  simp only [Act.put, List.setIfInBounds_toArray, List.set_cons_zero, List.set_cons_succ]
  refine takeD (i := 17) (v := .int .i64 l4) (some 46) rfl rfl (by kernel_rfl) (by kernel_rfl) (by kernel_rfl) (fun _ _ _ h => h) (Or.inl ⟨by rfl, by rintro w' -; go_simp⟩) hS15 ?_
  simp only [Act.put, List.setIfInBounds_toArray, List.set_cons_zero, List.set_cons_succ]
  refine takeD (i := 18) (v := .int .i64 l4) (some 47) rfl rfl (by kernel_rfl) (by kernel_rfl) (by kernel_rfl) (fun _ _ _ h => h) (Or.inl ⟨by rfl, by rintro w' -; go_simp⟩) hS15 ?_
  simp only [Act.put, List.setIfInBounds_toArray, List.set_cons_zero, List.set_cons_succ]
  refine takeD (i := 19) (v := .bool true) (some 48) rfl rfl (by kernel_rfl) (by kernel_rfl) (by kernel_rfl) (fun _ _ _ h => h) (Or.inl ⟨by rfl, by rintro w' -; go_simp⟩) hS15 ?_
  simp only [Act.put, List.setIfInBounds_toArray, List.set_cons_zero, List.set_cons_succ]
  refine takeD (i := 20) (v := .bool true) (some 49) rfl rfl (by kernel_rfl) (by kernel_rfl) (by kernel_rfl) (fun _ _ _ h => h) (Or.inl ⟨by rfl, by rintro w' -; go_simp⟩) hS15 ?_
  simp only [Act.put, List.setIfInBounds_toArray, List.set_cons_zero, List.set_cons_succ]
  refine takeD (i := 21) (v := .bool true) (some 50) rfl rfl (by kernel_rfl) (by kernel_rfl) (by kernel_rfl) (fun _ _ _ h => h) (Or.inl ⟨by rfl, by rintro w' -; go_simp⟩) hS15 ?_
  simp only [Act.put, List.setIfInBounds_toArray, List.set_cons_zero, List.set_cons_succ]
  refine takeD (i := 22) (v := .agg #[.int .i64 r, .int .i64 b, .int .i64 t, .int .i64 s, .int .i64 o]) (some 51) rfl rfl (by kernel_rfl) (by kernel_rfl) (by kernel_rfl) (fun _ _ _ h => h) (yieldsIf_load_mid (by rfl) _ _ rfl B0 0 rfl (#[.int .i64 r, .int .i64 b, .int .i64 t, .int .i64 s, .int .i64 o]).toList _ (fun w' h => gr_rng (rw_fw R_10.out h)) Try.underlying23 rfl (by kernel_rfl)) hS15 ?_
  simp only [Act.put, List.setIfInBounds_toArray, List.set_cons_zero, List.set_cons_succ]
  refine takeD (i := 23) (v := .int .i64 a) (some 52) rfl rfl (by kernel_rfl) (by kernel_rfl) (by kernel_rfl) (fun _ _ _ h => h) (Or.inl ⟨by rfl, by rintro w' -; go_simp⟩) hS15 ?_
  simp only [Act.put, List.setIfInBounds_toArray, List.set_cons_zero, List.set_cons_succ]
  refine takeD (i := 25) (v := .agg #[.int .i64 r, .int .i64 b, .int .i64 t, .int .i64 s, .int .i64 o]) (some 54) rfl rfl (by kernel_rfl) (by kernel_rfl) (by kernel_rfl) (fun _ _ _ h => h) (yieldsIf_load_mid (by rfl) _ _ rfl B0 0 rfl (#[.int .i64 r, .int .i64 b, .int .i64 t, .int .i64 s, .int .i64 o]).toList _ (fun w' h => gr_rng (rw_fw R_10.out h)) Try.underlying23 rfl (by kernel_rfl)) hS15 ?_
  simp only [Act.put, List.setIfInBounds_toArray, List.set_cons_zero, List.set_cons_succ]
  refine takeD (i := 26) (v := .int .i64 a) (some 55) rfl rfl (by kernel_rfl) (by kernel_rfl) (by kernel_rfl) (fun _ _ _ h => h) (Or.inl ⟨by rfl, by rintro w' -; go_simp⟩) hS15 ?_
  simp only [Act.put, List.setIfInBounds_toArray, List.set_cons_zero, List.set_cons_succ]
  refine wpAnyH_ready (rs := [24]) (by kernel_rfl) (by simp) ?_
  refine AllReadyH.cons rfl (fun K16 hK16 => ?_) AllReadyH.nil
  have HK16 := Lib.hid hK16
  clear hK16
  rw [if_pos (by rfl)]
  go_simp
  refine (U1.out _).mono ?_
  rintro e x17 ⟨rfl, hb18⟩
  have R_19 := Lib.hid (rw_fw R_10.out (hb18))
  have hl20 := hb18
  have HT_21 : Hid (Below w.heap.size w x17) := Lib.hid (HT_12.out.trans ((hl20).mono HT_12.out.size))
  clear hb18 
  have hb23 : Below x8.heap.size x8 x17 := hl20
  have hS22 : (fun w' : World => Below x8.heap.size x8 w') x17 := hb23
  refine HK16.out _ _ hS22 fun _ => ?_
  try simp only [Act.put, List.setIfInBounds_toArray, List.set_cons_zero, List.set_cons_succ]
  refine wpAnyH_up (S' := (fun w' : World => Below x17.heap.size x17 w')) (fun w' h => hb23.trans (h.mono hb23.size)) ?_
  have hS24 : (fun w' : World => Below x17.heap.size x17 w') x17 := Below.refl _ _
  refine wpAnyH_ready (rs := [27]) (by kernel_rfl) (by simp) ?_
  refine AllReadyH.cons rfl (fun K25 hK25 => ?_) AllReadyH.nil
  have HK25 := Lib.hid hK25
  clear hK25
  rw [if_pos (by rfl)]
  go_simp
  refine (U2.out _).mono ?_
  rintro e x26 ⟨rfl, hb27⟩
  have R_28 := Lib.hid (rw_fw R_19.out (hb27))
  have hl29 := hb27
  have HT_30 : Hid (Below w.heap.size w x26) := Lib.hid (HT_21.out.trans ((hl29).mono HT_21.out.size))
  clear hb27 
  have hb32 : Below x17.heap.size x17 x26 := hl29
  have hS31 : (fun w' : World => Below x17.heap.size x17 w') x26 := hb32
  refine HK25.out _ _ hS31 fun _ => ?_
  try simp only [Act.put, List.setIfInBounds_toArray, List.set_cons_zero, List.set_cons_succ]
  refine wpAnyH_up (S' := (fun w' : World => Below x26.heap.size x26 w')) (fun w' h => hb32.trans (h.mono hb32.size)) ?_
  have hS33 : (fun w' : World => Below x26.heap.size x26 w') x26 := Below.refl _ _
  refine takeD (i := 28) (v := .bool true) (some 57) rfl rfl (by kernel_rfl) (by kernel_rfl) (by kernel_rfl) (fun _ _ _ h => h) (Or.inl ⟨by rfl, by rintro w' -; go_simp⟩) hS33 ?_
  simp only [Act.put, List.setIfInBounds_toArray, List.set_cons_zero, List.set_cons_succ]
  refine takeD (i := 29) (v := .bool true) (some 58) rfl rfl (by kernel_rfl) (by kernel_rfl) (by kernel_rfl) (fun _ _ _ h => h) (Or.inl ⟨by rfl, by rintro w' -; go_simp⟩) hS33 ?_
  simp only [Act.put, List.setIfInBounds_toArray, List.set_cons_zero, List.set_cons_succ]
  refine takeD (i := 30) (v := .bool true) (some 4) rfl rfl (by kernel_rfl) (by kernel_rfl) (by kernel_rfl) (fun _ _ _ h => h) (Or.inl ⟨by rfl, by rintro w' -; go_simp⟩) hS33 ?_
  simp only [Act.put, List.setIfInBounds_toArray, List.set_cons_zero, List.set_cons_succ]
  refine wpAnyH_done (by kernel_rfl) ?_ _
  go_wp2_with fail
  go_ret
  exact ⟨rfl, HT_30.out⟩
set_option maxHeartbeats 4000000 in
set_option maxRecDepth 100000 in
theorem gshadow_walk (r b t s o a : Int) (w : World) : Calls Try.prog 6 #[.agg #[.int .i64 r, .int .i64 b, .int .i64 t, .int .i64 s, .int .i64 o], .int .i64 a] w (lawPost w) := by
  obtain ⟨l, hl⟩ : ∃ v, Geo.shadow r b t s o a = v := ⟨_, rfl⟩
  have S1 := Lib.hid fun w => pshadow_any r b t s o a w
  have S2 := Lib.hid fun w => rshadow_any r b t s o a w
  rw [hl] at S1 S2
  clear hl
  obtain ⟨B0, hB0⟩ : ∃ B, w.heap.size = B := ⟨_, rfl⟩
  obtain ⟨W0, hW0⟩ : ∃ W, w.alloc (.cells #[.int .i64 r, .int .i64 b, .int .i64 t, .int .i64 s, .int .i64 o] 23) = W := ⟨_, rfl⟩
  have BW : Hid (Below w.heap.size w W0) := Lib.hid (by subst hW0; exact (Below.refl _ _).alloc (Nat.le_refl _) _)
  have R0 : Hid (Row W0 B0 23 #[.int .i64 r, .int .i64 b, .int .i64 t, .int .i64 s, .int .i64 o]) := Lib.hid (by subst hW0; exact gr_new w _ _ hB0)
  have c0 := R0.out.cell 0
  have c1 := R0.out.cell 1
  have c2 := R0.out.cell 2
  have c3 := R0.out.cell 3
  have c4 := R0.out.cell 4
  simp only [List.getElem?_toArray, List.getElem?_cons_zero, List.getElem?_cons_succ] at c0 c1 c2 c3 c4
  have HB0 := Lib.hid hB0
  have HW0 := Lib.hid hW0
  clear hB0 hW0
  go_enter Try.func6, Try.ntmps6
  go_wp2_with (first | rw [HB0.out] | rw [HW0.out])
  clear c0 c1 c2 c3 c4
  refine wp_region_held (P := Try.prog) (S := (fun w' : World => Below W0.heap.size W0 w')) rfl ?_
  change wpAnyH _ _ _ _ _ _ _ _ W0.drew
  have hz2 : Below W0.heap.size W0 W0.drew := (Below.refl W0.heap.size W0).drew
  generalize W0.drew = wz1 at hz2 ⊢
  have R_3 := Lib.hid (rw_fw R0.out (hz2))
  have hl4 := hz2
  have HT_5 : Hid (Below w.heap.size w wz1) := Lib.hid (BW.out.trans ((hl4).mono BW.out.size))
  refine wpAnyH_up (S' := (fun w' : World => Below wz1.heap.size wz1 w')) (fun w' h => hz2.trans (h.mono hz2.size)) ?_
  have hS6 : (fun w' : World => Below wz1.heap.size wz1 w') wz1 := Below.refl _ _
  refine wpAnyH_ready (rs := [0]) (by kernel_rfl) (by simp) ?_
  refine AllReadyH.cons rfl (fun K7 hK7 => ?_) AllReadyH.nil
  have HK7 := Lib.hid hK7
  clear hK7
  rw [if_pos (by rfl)]
  go_simp
  refine (awake10 _).mono ?_
  rintro e x8 ⟨rfl, hb9⟩
  have R_10 := Lib.hid (rw_fw R_3.out (hb9))
  have hl11 := hb9
  have HT_12 : Hid (Below w.heap.size w x8) := Lib.hid (HT_5.out.trans ((hl11).mono HT_5.out.size))
  clear hb9 
  have hb14 : Below wz1.heap.size wz1 x8 := hl11
  have hS13 : (fun w' : World => Below wz1.heap.size wz1 w') x8 := hb14
  refine HK7.out _ _ hS13 fun _ => ?_
  try simp only [Act.put, List.setIfInBounds_toArray, List.set_cons_zero, List.set_cons_succ]
  refine wpAnyH_up (S' := (fun w' : World => Below x8.heap.size x8 w')) (fun w' h => hb14.trans (h.mono hb14.size)) ?_
  have hS15 : (fun w' : World => Below x8.heap.size x8 w') x8 := Below.refl _ _
  refine takeD (i := 1) (v := .bool true) (some 6) rfl rfl (by kernel_rfl) (by kernel_rfl) (by kernel_rfl) (fun _ _ _ h => h) (Or.inl ⟨by rfl, by rintro w' -; go_simp⟩) hS15 ?_
  simp only [Act.put, List.setIfInBounds_toArray, List.set_cons_zero, List.set_cons_succ]
  refine takeD (i := 2) (v := .agg #[.int .i64 r, .int .i64 b, .int .i64 t, .int .i64 s, .int .i64 o]) (some 7) rfl rfl (by kernel_rfl) (by kernel_rfl) (by kernel_rfl) (fun _ _ _ h => h) (yieldsIf_load_mid (by rfl) _ _ rfl B0 0 rfl (#[.int .i64 r, .int .i64 b, .int .i64 t, .int .i64 s, .int .i64 o]).toList _ (fun w' h => gr_rng (rw_fw R_10.out h)) Try.underlying23 rfl (by kernel_rfl)) hS15 ?_
  simp only [Act.put, List.setIfInBounds_toArray, List.set_cons_zero, List.set_cons_succ]
  refine takeD (i := 3) (v := .int .i64 a) (some 8) rfl rfl (by kernel_rfl) (by kernel_rfl) (by kernel_rfl) (fun _ _ _ h => h) (Or.inl ⟨by rfl, by rintro w' -; go_simp⟩) hS15 ?_
  simp only [Act.put, List.setIfInBounds_toArray, List.set_cons_zero, List.set_cons_succ]
  refine takeD (i := 5) (v := .agg #[.int .i64 r, .int .i64 b, .int .i64 t, .int .i64 s, .int .i64 o]) (some 10) rfl rfl (by kernel_rfl) (by kernel_rfl) (by kernel_rfl) (fun _ _ _ h => h) (yieldsIf_load_mid (by rfl) _ _ rfl B0 0 rfl (#[.int .i64 r, .int .i64 b, .int .i64 t, .int .i64 s, .int .i64 o]).toList _ (fun w' h => gr_rng (rw_fw R_10.out h)) Try.underlying23 rfl (by kernel_rfl)) hS15 ?_
  simp only [Act.put, List.setIfInBounds_toArray, List.set_cons_zero, List.set_cons_succ]
  refine takeD (i := 6) (v := .int .i64 a) (some 11) rfl rfl (by kernel_rfl) (by kernel_rfl) (by kernel_rfl) (fun _ _ _ h => h) (Or.inl ⟨by rfl, by rintro w' -; go_simp⟩) hS15 ?_
  simp only [Act.put, List.setIfInBounds_toArray, List.set_cons_zero, List.set_cons_succ]
  refine wpAnyH_ready (rs := [4]) (by kernel_rfl) (by simp) ?_
  refine AllReadyH.cons rfl (fun K16 hK16 => ?_) AllReadyH.nil
  have HK16 := Lib.hid hK16
  clear hK16
  rw [if_pos (by rfl)]
  go_simp
  refine (S1.out _).mono ?_
  rintro e x17 ⟨v9, rfl, hn19, hb18⟩
  have R_20 := Lib.hid (rw_fw R_10.out (hb18))
  have hl21 := hb18
  have HT_22 : Hid (Below w.heap.size w x17) := Lib.hid (HT_12.out.trans ((hl21).mono HT_12.out.size))
  have fa_23 := Lib.hid (hn19)
  clear hb18 hn19
  have hb25 : Below x8.heap.size x8 x17 := hl21
  have hS24 : (fun w' : World => Below x8.heap.size x8 w') x17 := hb25
  refine HK16.out _ _ hS24 fun _ => ?_
  try simp only [Act.put, List.setIfInBounds_toArray, List.set_cons_zero, List.set_cons_succ]
  refine wpAnyH_up (S' := (fun w' : World => Below x17.heap.size x17 w')) (fun w' h => hb25.trans (h.mono hb25.size)) ?_
  have hS26 : (fun w' : World => Below x17.heap.size x17 w') x17 := Below.refl _ _
  refine wpAnyH_ready (rs := [7]) (by kernel_rfl) (by simp) ?_
  refine AllReadyH.cons rfl (fun K27 hK27 => ?_) AllReadyH.nil
  have HK27 := Lib.hid hK27
  clear hK27
  rw [if_pos (by rfl)]
  go_simp
  refine (S2.out _).mono ?_
  rintro e x28 ⟨v12, rfl, hn30, hb29⟩
  have R_31 := Lib.hid (rw_fw R_20.out (hb29))
  have fa_32 := Lib.hid (is_fw fa_23.out (hb29))
  have hl33 := hb29
  have HT_34 : Hid (Below w.heap.size w x28) := Lib.hid (HT_22.out.trans ((hl33).mono HT_22.out.size))
  have fb_35 := Lib.hid (hn30)
  clear hb29 hn30
  have hb37 : Below x17.heap.size x17 x28 := hl33
  have hS36 : (fun w' : World => Below x17.heap.size x17 w') x28 := hb37
  refine HK27.out _ _ hS36 fun _ => ?_
  try simp only [Act.put, List.setIfInBounds_toArray, List.set_cons_zero, List.set_cons_succ]
  refine wpAnyH_up (S' := (fun w' : World => Below x28.heap.size x28 w')) (fun w' h => hb37.trans (h.mono hb37.size)) ?_
  have hS38 : (fun w' : World => Below x28.heap.size x28 w') x28 := Below.refl _ _
  refine wpAnyH_ready (rs := [8]) (by kernel_rfl) (by simp) ?_
  refine AllReadyH.cons rfl (fun K39 hK39 => ?_) AllReadyH.nil
  have HK39 := Lib.hid hK39
  clear hK39
  rw [if_pos (by rfl)]
  go_simp
  refine (rints_any v9 v12 l l _ fa_32.out fb_35.out).mono ?_
  rintro e x40 ⟨rfl, hb41⟩
  have R_42 := Lib.hid (rw_fw R_31.out (hb41))
  have fa_43 := Lib.hid (is_fw fa_32.out (hb41))
  have fb_44 := Lib.hid (is_fw fb_35.out (hb41))
  have hl45 := hb41
  have HT_46 : Hid (Below w.heap.size w x40) := Lib.hid (HT_34.out.trans ((hl45).mono HT_34.out.size))
  clear hb41 
  rw [show decide (l = l) = true from decide_eq_true rfl]
  have hb48 : Below x28.heap.size x28 x40 := hl45
  have hS47 : (fun w' : World => Below x28.heap.size x28 w') x40 := hb48
  refine HK39.out _ _ hS47 fun _ => ?_
  try simp only [Act.put, List.setIfInBounds_toArray, List.set_cons_zero, List.set_cons_succ]
  refine wpAnyH_up (S' := (fun w' : World => Below x40.heap.size x40 w')) (fun w' h => hb48.trans (h.mono hb48.size)) ?_
  have hS49 : (fun w' : World => Below x40.heap.size x40 w') x40 := Below.refl _ _
  refine takeD (i := 9) (v := .bool true) (some 14) rfl rfl (by kernel_rfl) (by kernel_rfl) (by kernel_rfl) (fun _ _ _ h => h) (Or.inl ⟨by rfl, by rintro w' -; go_simp⟩) hS49 ?_
  simp only [Act.put, List.setIfInBounds_toArray, List.set_cons_zero, List.set_cons_succ]
  refine takeD (i := 10) (v := .bool true) (some 4) rfl rfl (by kernel_rfl) (by kernel_rfl) (by kernel_rfl) (fun _ _ _ h => h) (Or.inl ⟨by rfl, by rintro w' -; go_simp⟩) hS49 ?_
  simp only [Act.put, List.setIfInBounds_toArray, List.set_cons_zero, List.set_cons_succ]
  refine wpAnyH_done (by kernel_rfl) ?_ _
  go_wp2_with fail
  go_ret
  exact ⟨rfl, HT_46.out⟩
end Go.Proofs.Ytgdhpcajiggnbaa
