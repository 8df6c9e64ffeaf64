/- Layer 9: the walk of CodecOrder. WRITTEN BY gen_It.py. -/
import Derived.Test.YtajeboigkpelgaaIs
import Derived.Deep.RegionHeld3
namespace Go.Proofs.Ytajeboigkpelgaa
open Go Go.RowKit
set_option linter.unusedVariables false
set_option linter.unusedSimpArgs false
theorem Cod.order {m n : Nat} (hm : m < 2 ^ 64) (hn : n < 2 ^ 64) : decide ((Cod.enc m).take (min (Cod.enc m).length (Cod.enc n).length) = (Cod.enc n).take (min (Cod.enc m).length (Cod.enc n).length)) = ((m : Int) == (n : Int)) := by
  rw [Bool.eq_iff_iff, decide_eq_true_eq, Cod.enc_prefix hm hn, beq_iff_eq]; omega
theorem Cod.orderI {x y : Int} (hx : -(2 ^ 63) ≤ x ∧ x < 2 ^ 63) (hy : -(2 ^ 63) ≤ y ∧ y < 2 ^ 63) : decide ((Cod.enc (Cod.zig x)).take (min (Cod.enc (Cod.zig x)).length (Cod.enc (Cod.zig y)).length) = (Cod.enc (Cod.zig y)).take (min (Cod.enc (Cod.zig x)).length (Cod.enc (Cod.zig y)).length)) = (x == y) := by
  rw [Bool.eq_iff_iff, decide_eq_true_eq, Cod.enc_prefix (Cod.zig_lt hx.1 hx.2) (Cod.zig_lt hy.1 hy.2), beq_iff_eq]
  exact ⟨Cod.zig_inj, fun h => by rw [h]⟩
theorem prefix_to (v0 v1 : Value) (a b : List Nat) (w : World) (d : Bool) (h0 : Bs w v0 a) (h1 : Bs w v1 b) (ha : a.length ≤ 10) (hb : b.length ≤ 10) (hd : decide (a.take (min a.length b.length) = b.take (min a.length b.length)) = d) :
    Calls Try.prog 31 #[v0, v1] w (qPost (.bool d) w) := hd ▸ prefix_any v0 v1 a b w h0 h1 (by omega) (by omega)

set_option maxHeartbeats 4000000 in
set_option maxRecDepth 100000 in
theorem orderlaw_walk (m n : Nat) (x y : Int) (w : World) (hm : m < 2 ^ 64) (hn : n < 2 ^ 64) (hx : -(2 ^ 63) ≤ x ∧ x < 2 ^ 63) (hy : -(2 ^ 63) ≤ y ∧ y < 2 ^ 63) : Calls Try.prog 9 #[.int .u64 (m : Int), .int .u64 (n : Int), .agg #[.int .i64 x, .int .i64 y]] w (lawPost w) := by
  have Z0 := Lib.hid (Cod.zig_lt hx.1 hx.2)
  have Z1 := Lib.hid (Cod.zig_lt hy.1 hy.2)
  have L0 := Lib.hid (Cod.enc_len10 hm)
  have L1 := Lib.hid (Cod.enc_len10 hn)
  have L2 := Lib.hid (Cod.enc_len10 Z0.out)
  have L3 := Lib.hid (Cod.enc_len10 Z1.out)
  obtain ⟨r1, hr1⟩ : ∃ r, ((m : Int) == (n : Int)) = r := ⟨_, rfl⟩
  obtain ⟨r2, hr2⟩ : ∃ r, (x == y) = r := ⟨_, rfl⟩
  have D1 := Lib.hid ((Cod.order hm hn).trans hr1)
  have D2 := Lib.hid ((Cod.orderI hx hy).trans hr2)
  have UM := Lib.hid fun w => papu_any (.slice none 0 0) [] m w (Bs.nil_ _) hm (by decide)
  have UN := Lib.hid fun w => papu_any (.slice none 0 0) [] n w (Bs.nil_ _) hn (by decide)
  have IX := Lib.hid fun w => papi_any (.slice none 0 0) [] x w (Bs.nil_ _) hx.1 hx.2 (by decide)
  have IY := Lib.hid fun w => papi_any (.slice none 0 0) [] y w (Bs.nil_ _) hy.1 hy.2 (by decide)
  simp only [List.nil_append] at UM UN IX IY
  obtain ⟨em, hem⟩ : ∃ l, Cod.enc m = l := ⟨_, rfl⟩
  obtain ⟨en, hen⟩ : ∃ l, Cod.enc n = l := ⟨_, rfl⟩
  obtain ⟨ex, hex⟩ : ∃ l, Cod.enc (Cod.zig x) = l := ⟨_, rfl⟩
  obtain ⟨ey, hey⟩ : ∃ l, Cod.enc (Cod.zig y) = l := ⟨_, rfl⟩
  rw [hem] at UM D1 L0
  rw [hen] at UN D1 L1
  rw [hex] at IX D2 L2
  rw [hey] at IY D2 L3
  obtain ⟨B0, hB0⟩ : ∃ B, w.heap.size = B := ⟨_, rfl⟩
  obtain ⟨W0, hW0⟩ : ∃ W, w.alloc (.cells #[.int .i64 x, .int .i64 y] 56) = W := ⟨_, rfl⟩
  have HB0 := Lib.hid hB0
  have HW0 := Lib.hid hW0
  have BW : Hid (Below w.heap.size w W0) := Lib.hid (by subst hW0; exact (Below.refl _ _).alloc (Nat.le_refl _) _)
  have RW0 : Hid (Row W0 B0 56 #[.int .i64 x, .int .i64 y]) := Lib.hid (by subst hW0; exact rw_new w _ _ hB0)
  clear hm hn hx hy hem hen hex hey hB0 hW0
  go_enter Try.func9, Try.ntmps9
  go_wp2_with (first | rw [HB0.out] | rw [HW0.out])
  refine (awake9 W0).mono ?_
  rintro e w1 ⟨rfl, hb1⟩
  have R_2 := Lib.hid (rw_fw RW0.out (hb1))
  have HB_3 : Hid (Below w.heap.size w w1) := Lib.hid (BW.out.trans ((hb1).mono BW.out.size))
  clear hb1 
  go_wp2_with fail
  refine (UM.out _).mono ?_
  rintro e w2 ⟨va, rfl, hn5, hb4⟩
  have R_6 := Lib.hid (rw_fw R_2.out (hb4))
  have HB_7 : Hid (Below w.heap.size w w2) := Lib.hid (HB_3.out.trans ((hb4).mono HB_3.out.size))
  have fa_8 := Lib.hid ((hn5).bs)
  clear hb4 hn5
  go_wp2_with fail
  refine (UN.out _).mono ?_
  rintro e w3 ⟨vb, rfl, hn10, hb9⟩
  have R_11 := Lib.hid (rw_fw R_6.out (hb9))
  have fa_12 := Lib.hid (Bs.below fa_8.out (hb9))
  have HB_13 : Hid (Below w.heap.size w w3) := Lib.hid (HB_7.out.trans ((hb9).mono HB_7.out.size))
  have fb_14 := Lib.hid ((hn10).bs)
  clear hb9 hn10
  go_wp2_with fail
  have BF3 := Lib.hid (HB_13.out)
  have CX0 := Lib.hid fun w' (h : Below w3.heap.size w3 w') => (h.cell (p := ⟨B0, 0, none⟩) (R_11.out).lt).trans (R_11.out.cell 0)
  have CY0 := Lib.hid fun w' (h : Below w3.heap.size w3 w') => (h.cell (p := ⟨B0, 1, none⟩) (R_11.out).lt).trans (R_11.out.cell 1)
  refine wp_region_held (P := Try.prog) (S := (fun w' : World => Below w3.heap.size w3 w')) rfl ?_
  change wpAnyH _ _ _ _ _ _ _ _ w3.drew
  have hz16 : Below w3.heap.size w3 w3.drew := (Below.refl w3.heap.size w3).drew
  generalize w3.drew = wz15 at hz16 ⊢
  have R_17 := Lib.hid (rw_fw R_11.out (hz16))
  have fa_18 := Lib.hid (Bs.below fa_12.out (hz16))
  have fb_19 := Lib.hid (Bs.below fb_14.out (hz16))
  have HB_20 : Hid (Below w3.heap.size w3 wz15) := Lib.hid ((hz16).mono (Nat.le_refl _))
  clear hz16
  have hS21 : (fun w' : World => Below w3.heap.size w3 w') wz15 := HB_20.out
  refine takeD (i := 0) (v := .pointer (some ⟨B0, 0, none⟩)) (some 17) rfl rfl (by kernel_rfl) (by kernel_rfl) (by kernel_rfl) (fun _ _ _ h => h) (Or.inl ⟨by rfl, by rintro w' -; go_simp⟩) hS21 ?_
  simp only [Act.put, List.setIfInBounds_toArray, List.set_cons_zero, List.set_cons_succ]
  refine takeD (i := 1) (v := .int .i64 x) (some 18) rfl rfl (by kernel_rfl) (by kernel_rfl) (by kernel_rfl) (fun _ _ _ h => h) (Or.inl ⟨by rfl, by rintro w' h; have hc := CX0.out w' h; go_simp⟩) hS21 ?_
  simp only [Act.put, List.setIfInBounds_toArray, List.set_cons_zero, List.set_cons_succ]
  refine takeD (i := 3) (v := .pointer (some ⟨B0, 1, none⟩)) (some 20) rfl rfl (by kernel_rfl) (by kernel_rfl) (by kernel_rfl) (fun _ _ _ h => h) (Or.inl ⟨by rfl, by rintro w' -; go_simp⟩) hS21 ?_
  simp only [Act.put, List.setIfInBounds_toArray, List.set_cons_zero, List.set_cons_succ]
  refine takeD (i := 4) (v := .int .i64 y) (some 21) rfl rfl (by kernel_rfl) (by kernel_rfl) (by kernel_rfl) (fun _ _ _ h => h) (Or.inl ⟨by rfl, by rintro w' h; have hc := CY0.out w' h; go_simp⟩) hS21 ?_
  simp only [Act.put, List.setIfInBounds_toArray, List.set_cons_zero, List.set_cons_succ]
  refine wpAnyH_ready (rs := [2]) (by kernel_rfl) (by simp) ?_
  refine AllReadyH.cons rfl (fun K22 hK22 => ?_) AllReadyH.nil
  have HK22 := Lib.hid hK22
  clear hK22
  rw [if_pos (by rfl)]
  go_simp
  refine (IX.out _).mono ?_
  rintro e x23 ⟨vc, rfl, hn25, hb24⟩
  have R_26 := Lib.hid (rw_fw R_17.out (hb24))
  have fa_27 := Lib.hid (Bs.below fa_18.out (hb24))
  have fb_28 := Lib.hid (Bs.below fb_19.out (hb24))
  have HB_29 : Hid (Below w3.heap.size w3 x23) := Lib.hid (HB_20.out.trans ((hb24).mono HB_20.out.size))
  have fc_30 := Lib.hid ((hn25).bs)
  clear hb24 hn25
  have hS31 : (fun w' : World => Below w3.heap.size w3 w') x23 := HB_29.out
  refine HK22.out _ _ hS31 fun _ => ?_
  try simp only [Act.put, List.setIfInBounds_toArray, List.set_cons_zero, List.set_cons_succ]
  refine wpAnyH_ready (rs := [5]) (by kernel_rfl) (by simp) ?_
  refine AllReadyH.cons rfl (fun K32 hK32 => ?_) AllReadyH.nil
  have HK32 := Lib.hid hK32
  clear hK32
  rw [if_pos (by rfl)]
  go_simp
  refine (IY.out _).mono ?_
  rintro e x33 ⟨vd, rfl, hn35, hb34⟩
  have R_36 := Lib.hid (rw_fw R_26.out (hb34))
  have fa_37 := Lib.hid (Bs.below fa_27.out (hb34))
  have fb_38 := Lib.hid (Bs.below fb_28.out (hb34))
  have fc_39 := Lib.hid (Bs.below fc_30.out (hb34))
  have HB_40 : Hid (Below w3.heap.size w3 x33) := Lib.hid (HB_29.out.trans ((hb34).mono HB_29.out.size))
  have fd_41 := Lib.hid ((hn35).bs)
  clear hb34 hn35
  have hS42 : (fun w' : World => Below w3.heap.size w3 w') x33 := HB_40.out
  refine HK32.out _ _ hS42 fun _ => ?_
  try simp only [Act.put, List.setIfInBounds_toArray, List.set_cons_zero, List.set_cons_succ]
  refine takeD (i := 6) (v := vc) (some 9) rfl rfl (by kernel_rfl) (by kernel_rfl) (by kernel_rfl) (fun _ _ _ h => h) (Or.inl ⟨by rfl, by rintro w' -; go_simp⟩) hS42 ?_
  simp only [Act.put, List.setIfInBounds_toArray, List.set_cons_zero, List.set_cons_succ]
  refine takeD (i := 7) (v := vd) (some 10) rfl rfl (by kernel_rfl) (by kernel_rfl) (by kernel_rfl) (fun _ _ _ h => h) (Or.inl ⟨by rfl, by rintro w' -; go_simp⟩) hS42 ?_
  simp only [Act.put, List.setIfInBounds_toArray, List.set_cons_zero, List.set_cons_succ]
  refine wpAnyH_done (by kernel_rfl) ?_ _
  go_wp2_with fail
  have CX := Lib.hid fun w' (h : Below x33.heap.size x33 w') => (h.cell (p := ⟨B0, 0, none⟩) (R_36.out).lt).trans (R_36.out.cell 0)
  have CY := Lib.hid fun w' (h : Below x33.heap.size x33 w') => (h.cell (p := ⟨B0, 1, none⟩) (R_36.out).lt).trans (R_36.out.cell 1)
  have BFIN := Lib.hid (BF3.out.trans (HB_40.out.mono BF3.out.size))
  refine wp_region_held (P := Try.prog) (S := (fun w' : World => Below x33.heap.size x33 w')) rfl ?_
  change wpAnyH _ _ _ _ _ _ _ _ x33.drew
  have hz44 : Below x33.heap.size x33 x33.drew := (Below.refl x33.heap.size x33).drew
  generalize x33.drew = wz43 at hz44 ⊢
  have R_45 := Lib.hid (rw_fw R_36.out (hz44))
  have fa_46 := Lib.hid (Bs.below fa_37.out (hz44))
  have fb_47 := Lib.hid (Bs.below fb_38.out (hz44))
  have fc_48 := Lib.hid (Bs.below fc_39.out (hz44))
  have fd_49 := Lib.hid (Bs.below fd_41.out (hz44))
  have HB_50 : Hid (Below x33.heap.size x33 wz43) := Lib.hid ((hz44).mono (Nat.le_refl _))
  clear hz44
  have hS51 : (fun w' : World => Below x33.heap.size x33 w') wz43 := HB_50.out
  refine takeD (i := 0) (v := va) (some 23) rfl rfl (by kernel_rfl) (by kernel_rfl) (by kernel_rfl) (fun _ _ _ h => h) (Or.inl ⟨by rfl, by rintro w' -; go_simp⟩) hS51 ?_
  simp only [Act.put, List.setIfInBounds_toArray, List.set_cons_zero, List.set_cons_succ]
  refine takeD (i := 1) (v := vb) (some 24) rfl rfl (by kernel_rfl) (by kernel_rfl) (by kernel_rfl) (fun _ _ _ h => h) (Or.inl ⟨by rfl, by rintro w' -; go_simp⟩) hS51 ?_
  simp only [Act.put, List.setIfInBounds_toArray, List.set_cons_zero, List.set_cons_succ]
  refine takeD (i := 3) (v := .int .u64 (m : Int)) (some 26) rfl rfl (by kernel_rfl) (by kernel_rfl) (by kernel_rfl) (fun _ _ _ h => h) (Or.inl ⟨by rfl, by rintro w' -; go_simp⟩) hS51 ?_
  simp only [Act.put, List.setIfInBounds_toArray, List.set_cons_zero, List.set_cons_succ]
  refine takeD (i := 4) (v := .int .u64 (n : Int)) (some 27) rfl rfl (by kernel_rfl) (by kernel_rfl) (by kernel_rfl) (fun _ _ _ h => h) (Or.inl ⟨by rfl, by rintro w' -; go_simp⟩) hS51 ?_
  simp only [Act.put, List.setIfInBounds_toArray, List.set_cons_zero, List.set_cons_succ]
  refine takeD (i := 5) (v := .bool r1) (some 28) rfl rfl (by kernel_rfl) (by kernel_rfl) (by kernel_rfl) (fun _ _ _ h => h) (Or.inl ⟨by rfl, by rintro w' -; go_simp⟩) hS51 ?_
  simp only [Act.put, List.setIfInBounds_toArray, List.set_cons_zero, List.set_cons_succ]
  refine wpAnyH_ready (rs := [2]) (by kernel_rfl) (by simp) ?_
  refine AllReadyH.cons rfl (fun K52 hK52 => ?_) AllReadyH.nil
  have HK52 := Lib.hid hK52
  clear hK52
  rw [if_pos (by rfl)]
  go_simp
  refine (prefix_to va vb em en _ r1 fa_46.out fb_47.out L0.out L1.out D1.out).mono ?_
  rintro e x53 ⟨rfl, hb54⟩
  have R_55 := Lib.hid (rw_fw R_45.out (hb54))
  have fa_56 := Lib.hid (Bs.below fa_46.out (hb54))
  have fb_57 := Lib.hid (Bs.below fb_47.out (hb54))
  have fc_58 := Lib.hid (Bs.below fc_48.out (hb54))
  have fd_59 := Lib.hid (Bs.below fd_49.out (hb54))
  have HB_60 : Hid (Below x33.heap.size x33 x53) := Lib.hid (HB_50.out.trans ((hb54).mono HB_50.out.size))
  clear hb54 
  have hS61 : (fun w' : World => Below x33.heap.size x33 w') x53 := HB_60.out
  refine HK52.out _ _ hS61 fun _ => ?_
  try simp only [Act.put, List.setIfInBounds_toArray, List.set_cons_zero, List.set_cons_succ]
  refine takeD (i := 6) (v := .bool true) (some 29) rfl rfl (by kernel_rfl) (by kernel_rfl) (by kernel_rfl) (fun _ _ _ h => h) (Or.inl ⟨by rfl, by rintro w' -; go_simp⟩) hS61 ?_
  simp only [Act.put, List.setIfInBounds_toArray, List.set_cons_zero, List.set_cons_succ]
  refine takeD (i := 7) (v := .bool true) (some 30) rfl rfl (by kernel_rfl) (by kernel_rfl) (by kernel_rfl) (fun _ _ _ h => h) (Or.inl ⟨by rfl, by rintro w' -; go_simp⟩) hS61 ?_
  simp only [Act.put, List.setIfInBounds_toArray, List.set_cons_zero, List.set_cons_succ]
  refine takeD (i := 8) (v := vc) (some 31) rfl rfl (by kernel_rfl) (by kernel_rfl) (by kernel_rfl) (fun _ _ _ h => h) (Or.inl ⟨by rfl, by rintro w' -; go_simp⟩) hS61 ?_
  simp only [Act.put, List.setIfInBounds_toArray, List.set_cons_zero, List.set_cons_succ]
  refine takeD (i := 9) (v := vd) (some 32) rfl rfl (by kernel_rfl) (by kernel_rfl) (by kernel_rfl) (fun _ _ _ h => h) (Or.inl ⟨by rfl, by rintro w' -; go_simp⟩) hS61 ?_
  simp only [Act.put, List.setIfInBounds_toArray, List.set_cons_zero, List.set_cons_succ]
  refine takeD (i := 11) (v := .pointer (some ⟨B0, 0, none⟩)) (some 34) rfl rfl (by kernel_rfl) (by kernel_rfl) (by kernel_rfl) (fun _ _ _ h => h) (Or.inl ⟨by rfl, by rintro w' -; go_simp⟩) hS61 ?_
  simp only [Act.put, List.setIfInBounds_toArray, List.set_cons_zero, List.set_cons_succ]
  refine takeD (i := 12) (v := .int .i64 x) (some 35) rfl rfl (by kernel_rfl) (by kernel_rfl) (by kernel_rfl) (fun _ _ _ h => h) (Or.inl ⟨by rfl, by rintro w' h; have hc := CX.out w' h; go_simp⟩) hS61 ?_
  simp only [Act.put, List.setIfInBounds_toArray, List.set_cons_zero, List.set_cons_succ]
  refine takeD (i := 13) (v := .pointer (some ⟨B0, 1, none⟩)) (some 36) rfl rfl (by kernel_rfl) (by kernel_rfl) (by kernel_rfl) (fun _ _ _ h => h) (Or.inl ⟨by rfl, by rintro w' -; go_simp⟩) hS61 ?_
  simp only [Act.put, List.setIfInBounds_toArray, List.set_cons_zero, List.set_cons_succ]
  refine takeD (i := 14) (v := .int .i64 y) (some 37) rfl rfl (by kernel_rfl) (by kernel_rfl) (by kernel_rfl) (fun _ _ _ h => h) (Or.inl ⟨by rfl, by rintro w' h; have hc := CY.out w' h; go_simp⟩) hS61 ?_
  simp only [Act.put, List.setIfInBounds_toArray, List.set_cons_zero, List.set_cons_succ]
  refine takeD (i := 15) (v := .bool r2) (some 38) rfl rfl (by kernel_rfl) (by kernel_rfl) (by kernel_rfl) (fun _ _ _ h => h) (Or.inl ⟨by rfl, by rintro w' -; go_simp⟩) hS61 ?_
  simp only [Act.put, List.setIfInBounds_toArray, List.set_cons_zero, List.set_cons_succ]
  refine wpAnyH_ready (rs := [10]) (by kernel_rfl) (by simp) ?_
  refine AllReadyH.cons rfl (fun K62 hK62 => ?_) AllReadyH.nil
  have HK62 := Lib.hid hK62
  clear hK62
  rw [if_pos (by rfl)]
  go_simp
  refine (prefix_to vc vd ex ey _ r2 fc_58.out fd_59.out L2.out L3.out D2.out).mono ?_
  rintro e x63 ⟨rfl, hb64⟩
  have R_65 := Lib.hid (rw_fw R_55.out (hb64))
  have fa_66 := Lib.hid (Bs.below fa_56.out (hb64))
  have fb_67 := Lib.hid (Bs.below fb_57.out (hb64))
  have fc_68 := Lib.hid (Bs.below fc_58.out (hb64))
  have fd_69 := Lib.hid (Bs.below fd_59.out (hb64))
  have HB_70 : Hid (Below x33.heap.size x33 x63) := Lib.hid (HB_60.out.trans ((hb64).mono HB_60.out.size))
  clear hb64 
  have hS71 : (fun w' : World => Below x33.heap.size x33 w') x63 := HB_70.out
  refine HK62.out _ _ hS71 fun _ => ?_
  try simp only [Act.put, List.setIfInBounds_toArray, List.set_cons_zero, List.set_cons_succ]
  refine takeD (i := 16) (v := .bool true) (some 39) rfl rfl (by kernel_rfl) (by kernel_rfl) (by kernel_rfl) (fun _ _ _ h => h) (Or.inl ⟨by rfl, by rintro w' -; go_simp⟩) hS71 ?_
  simp only [Act.put, List.setIfInBounds_toArray, List.set_cons_zero, List.set_cons_succ]
  refine takeD (i := 17) (v := .bool true) (some 40) rfl rfl (by kernel_rfl) (by kernel_rfl) (by kernel_rfl) (fun _ _ _ h => h) (Or.inl ⟨by rfl, by rintro w' -; go_simp⟩) hS71 ?_
  simp only [Act.put, List.setIfInBounds_toArray, List.set_cons_zero, List.set_cons_succ]
  refine takeD (i := 18) (v := .bool true) (some 6) rfl rfl (by kernel_rfl) (by kernel_rfl) (by kernel_rfl) (fun _ _ _ h => h) (Or.inl ⟨by rfl, by rintro w' -; go_simp⟩) hS71 ?_
  simp only [Act.put, List.setIfInBounds_toArray, List.set_cons_zero, List.set_cons_succ]
  refine wpAnyH_done (by kernel_rfl) ?_ _
  go_wp2_with fail
  go_ret
  exact ⟨rfl, BFIN.out.trans (HB_70.out.mono BFIN.out.size)⟩
end Go.Proofs.Ytajeboigkpelgaa
