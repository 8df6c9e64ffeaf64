/- The reference's BandSize, Random, Size, Address. WRITTEN BY gen_Kc.py. -/
import Derived.Test.YtbaclcpnnompnaaKb
import Derived.Test.YtbaclcpnnompnaaRu
import Derived.Deep.MidRow
namespace Go.Proofs.Ytbaclcpnnompnaa
open Go Go.RowKit
set_option linter.unusedVariables false
set_option linter.unusedSimpArgs false
theorem gr_new (w : World) (cs : Array Value) (t : TypeId) {g : Nat} (h : w.heap.size = g) : Row (w.alloc (.cells cs t)) g t cs := h ▸ heap_alloc_new w _
theorem rw_fw {w w' : World} {g : Nat} {t : TypeId} {cs : Array Value} (h : Row w g t cs) (hb : Below w.heap.size w w') : Row w' g t cs := h.below hb h.lt
theorem gr_rng {w : World} {g : Nat} {t : TypeId} {cs : Array Value} (h : Row w g t cs) : w.rangeAt g 0 cs.toList := fun j v hv => by
  rw [Nat.zero_add, h.cell]; rw [Array.getElem?_toList] at hv; exact hv
theorem ce_fw {w w' : World} {p : Addr} {u : Value} (h : w.cell? p = some u) (hb : Below w.heap.size w w') : w'.cell? p = some u := (hb.cell (World.block_lt_of_cell? w _ h)).trans h
theorem gw {x : Int} (h : -9223372036854775808 ≤ x) (h2 : x ≤ 9223372036854775807) : wrap64 x = x := IntWalk.wrap64_in _ ⟨h, h2⟩
theorem gm {t s : Int} {a c : Int} (h1 : 0 ≤ t) (h2 : t ≤ a) (h3 : 0 ≤ s) (h4 : s ≤ c) : 0 ≤ t * s ∧ t * s ≤ a * c := ⟨Int.mul_nonneg h1 h3, Int.mul_le_mul h2 h4 h3 (by omega)⟩

set_option maxHeartbeats 4000000 in
set_option maxRecDepth 100000 in
theorem rband_any (r b t s o : Int) (w : World) : Calls Try.prog 60 #[.agg #[.int .i64 r, .int .i64 b, .int .i64 t, .int .i64 s, .int .i64 o]] w (gPost (.int .i64 (Geo.band r b t s o)) w) := by
  have E := Lib.hid (show Geo.band r b t s o = if Geo.GV r b t s o then t * s else 0 from rfl)
  generalize Geo.band r b t s o = q at E ⊢
  obtain ⟨B0, hB0⟩ : ∃ B, w.heap.size = B := ⟨_, rfl⟩
  obtain ⟨W0, hW0⟩ : ∃ W, w.alloc (.cells #[.int .i64 r, .int .i64 b, .int .i64 t, .int .i64 s, .int .i64 o] 23) = W := ⟨_, rfl⟩
  have BW : Hid (Below w.heap.size w W0) := Lib.hid (by subst hW0; exact (Below.refl _ _).alloc (Nat.le_refl _) _)
  have R0 : Hid (Row W0 B0 23 #[.int .i64 r, .int .i64 b, .int .i64 t, .int .i64 s, .int .i64 o]) := Lib.hid (by subst hW0; exact gr_new w _ _ hB0)
  have c0 := R0.out.cell 0
  have c1 := R0.out.cell 1
  have c2 := R0.out.cell 2
  have c3 := R0.out.cell 3
  have c4 := R0.out.cell 4
  simp only [List.getElem?_toArray, List.getElem?_cons_zero, List.getElem?_cons_succ] at c0 c1 c2 c3 c4
  have HB0 := Lib.hid hB0
  have HW0 := Lib.hid hW0
  clear hB0 hW0
  go_enter Try.func60, Try.ntmps60
  go_wp2_with (first | rw [HB0.out] | rw [HW0.out])
  refine (rvalid_any r b t s o W0).mono ?_
  rintro e w1 ⟨rfl, hb⟩
  replace c0 := ce_fw c0 hb
  replace c1 := ce_fw c1 hb
  replace c2 := ce_fw c2 hb
  replace c3 := ce_fw c3 hb
  replace c4 := ce_fw c4 hb
  have B1 := Lib.hid (BW.out.trans (hb.mono BW.out.size))
  clear hb
  by_cases h : Geo.GV r b t s o
  · rw [decide_eq_true h]
    rw [if_pos h] at E
    unfold Geo.GV at h
    have hm := gm (t := t) (s := s) (a := 16) (c := 64) (by omega) (by omega) (by omega) (by omega)
    have e := E.out
    rw [← e] at hm
    have W := gw (x := t * s) (by rw [← e]; omega) (by rw [← e]; omega)
    rw [← e] at W
    go_wp2_with fail
    go_ret
    exact ⟨by rw [e]; try rw [← e]; first | rfl | (rw [W]) , B1.out⟩
  · rw [decide_eq_false h]
    rw [if_neg h] at E
    have e := E.out
    go_wp2_with fail
    go_ret
    exact ⟨by rw [e]; rfl, B1.out⟩

set_option maxHeartbeats 4000000 in
set_option maxRecDepth 100000 in
theorem rsize_any (r b t s o : Int) (w : World) : Calls Try.prog 37 #[.agg #[.int .i64 r, .int .i64 b, .int .i64 t, .int .i64 s, .int .i64 o]] w (gPost (.int .i64 (Geo.size r b t s o)) w) := by
  obtain ⟨q, hq⟩ : ∃ q, Geo.size r b t s o = q := ⟨_, rfl⟩
  have E := Lib.hid hq
  rw [hq]
  clear hq
  obtain ⟨B0, hB0⟩ : ∃ B, w.heap.size = B := ⟨_, rfl⟩
  obtain ⟨W0, hW0⟩ : ∃ W, w.alloc (.cells #[.int .i64 r, .int .i64 b, .int .i64 t, .int .i64 s, .int .i64 o] 23) = W := ⟨_, rfl⟩
  have BW : Hid (Below w.heap.size w W0) := Lib.hid (by subst hW0; exact (Below.refl _ _).alloc (Nat.le_refl _) _)
  have R0 : Hid (Row W0 B0 23 #[.int .i64 r, .int .i64 b, .int .i64 t, .int .i64 s, .int .i64 o]) := Lib.hid (by subst hW0; exact gr_new w _ _ hB0)
  have c0 := R0.out.cell 0
  have c1 := R0.out.cell 1
  have c2 := R0.out.cell 2
  have c3 := R0.out.cell 3
  have c4 := R0.out.cell 4
  simp only [List.getElem?_toArray, List.getElem?_cons_zero, List.getElem?_cons_succ] at c0 c1 c2 c3 c4
  have HB0 := Lib.hid hB0
  have HW0 := Lib.hid hW0
  clear hB0 hW0
  go_enter Try.func37, Try.ntmps37
  go_wp2_with (first | rw [HB0.out] | rw [HW0.out])
  refine (rvalid_any r b t s o W0).mono ?_
  rintro e w1 ⟨rfl, hb⟩
  replace c0 := ce_fw c0 hb
  replace c1 := ce_fw c1 hb
  replace c2 := ce_fw c2 hb
  replace c3 := ce_fw c3 hb
  replace c4 := ce_fw c4 hb
  have B1 := Lib.hid (BW.out.trans (hb.mono BW.out.size))
  have R1 := Lib.hid (rw_fw R0.out hb)
  clear hb
  by_cases h : Geo.GV r b t s o
  · rw [decide_eq_true h]
    obtain ⟨m, hm⟩ : ∃ m, t * s = m := ⟨_, rfl⟩
    have EB := Lib.hid (show Geo.band r b t s o = m by rw [← hm]; exact if_pos h)
    have e := E.out
    rw [show Geo.size r b t s o = r + b * (t * s) from if_pos h, hm] at e
    have h' := h
    unfold Geo.GV at h'
    have b1 := gm (t := t) (s := s) (a := 16) (c := 64) (by omega) (by omega) (by omega) (by omega)
    rw [hm] at b1
    have b2 := gm (t := b) (s := m) (a := 64) (c := 1024) (by omega) (by omega) (by omega) (by omega)
    have w1' := gw (x := b * m) (by omega) (by omega)
    have w2' := gw (x := r + b * m) (by omega) (by omega)
    obtain ⟨p, hp⟩ : ∃ p, b * m = p := ⟨_, rfl⟩
    rw [hp] at w1' w2' e
    rw [e] at w2'
    have k1 : IntKind.i64.wrap p = p := by rw [IntKind.wrap_i64]; rw [hp] at b2; omega
    have k2 : IntKind.i64.wrap (r + p) = q := by rw [e, IntKind.wrap_i64]; rw [hp] at b2; omega
    have C0 := Lib.hid c0
    have C1 := Lib.hid c1
    clear h h' b1 b2 hm e E
    go_wp2_with fail
    clear c0 c1 c2 c3 c4

    refine wp_region_held (P := Try.prog) (S := (fun w' : World => Below w1.heap.size w1 w')) rfl ?_
    change wpAnyH _ _ _ _ _ _ _ _ w1.drew
    have hz2 : Below w1.heap.size w1 w1.drew := (Below.refl w1.heap.size w1).drew
    generalize w1.drew = wz1 at hz2 ⊢
    have R_3 := Lib.hid (rw_fw R1.out (hz2))
    have C0_4 := Lib.hid (ce_fw C0.out (hz2))
    have C1_5 := Lib.hid (ce_fw C1.out (hz2))
    have hl6 := hz2
    have HT_7 : Hid (Below w1.heap.size w1 wz1) := Lib.hid (hl6)
    refine wpAnyH_up (S' := (fun w' : World => Below wz1.heap.size wz1 w')) (fun w' h => hz2.trans (h.mono hz2.size)) ?_
    have hS8 : (fun w' : World => Below wz1.heap.size wz1 w') wz1 := Below.refl _ _
    refine takeD (i := 0) (v := .pointer (some ⟨B0, 0, none⟩)) (some 6) rfl rfl (by kernel_rfl) (by kernel_rfl) (by kernel_rfl) (fun _ _ _ h => h) (Or.inl ⟨by rfl, by rintro w' -; go_simp⟩) hS8 ?_
    simp only [Act.put, List.setIfInBounds_toArray, List.set_cons_zero, List.set_cons_succ]
    refine takeD (i := 1) (v := .int .i64 r) (some 7) rfl rfl (by kernel_rfl) (by kernel_rfl) (by kernel_rfl) (fun _ _ _ h => h) (Or.inl ⟨by rfl, by rintro w' h; have hc := ce_fw C0_4.out h; go_simp⟩) hS8 ?_
    simp only [Act.put, List.setIfInBounds_toArray, List.set_cons_zero, List.set_cons_succ]
    refine takeD (i := 2) (v := .pointer (some ⟨B0, 1, none⟩)) (some 8) rfl rfl (by kernel_rfl) (by kernel_rfl) (by kernel_rfl) (fun _ _ _ h => h) (Or.inl ⟨by rfl, by rintro w' -; go_simp⟩) hS8 ?_
    simp only [Act.put, List.setIfInBounds_toArray, List.set_cons_zero, List.set_cons_succ]
    refine takeD (i := 3) (v := .int .i64 b) (some 9) rfl rfl (by kernel_rfl) (by kernel_rfl) (by kernel_rfl) (fun _ _ _ h => h) (Or.inl ⟨by rfl, by rintro w' h; have hc := ce_fw C1_5.out h; go_simp⟩) hS8 ?_
    simp only [Act.put, List.setIfInBounds_toArray, List.set_cons_zero, List.set_cons_succ]
    refine takeD (i := 4) (v := .agg #[.int .i64 r, .int .i64 b, .int .i64 t, .int .i64 s, .int .i64 o]) (some 10) rfl rfl (by kernel_rfl) (by kernel_rfl) (by kernel_rfl) (fun _ _ _ h => h) (yieldsIf_load_mid (by rfl) _ _ rfl B0 0 rfl (#[.int .i64 r, .int .i64 b, .int .i64 t, .int .i64 s, .int .i64 o]).toList _ (fun w' h => gr_rng (rw_fw R_3.out h)) Try.underlying23 rfl (by kernel_rfl)) hS8 ?_
    simp only [Act.put, List.setIfInBounds_toArray, List.set_cons_zero, List.set_cons_succ]
    refine wpAnyH_ready (rs := [5]) (by kernel_rfl) (by simp) ?_
    refine AllReadyH.cons rfl (fun K9 hK9 => ?_) AllReadyH.nil
    have HK9 := Lib.hid hK9
    clear hK9
    rw [if_pos (by rfl)]
    go_simp
    refine (rband_any r b t s o _).mono ?_
    rintro e x10 ⟨rfl, hb11⟩
    have R_12 := Lib.hid (rw_fw R_3.out (hb11))
    have C0_13 := Lib.hid (ce_fw C0_4.out (hb11))
    have C1_14 := Lib.hid (ce_fw C1_5.out (hb11))
    have hl15 := hb11
    have HT_16 : Hid (Below w1.heap.size w1 x10) := Lib.hid (HT_7.out.trans ((hl15).mono HT_7.out.size))
    clear hb11 
    rw [EB.out]
    have hb18 : Below wz1.heap.size wz1 x10 := hl15
    have hS17 : (fun w' : World => Below wz1.heap.size wz1 w') x10 := hb18
    refine HK9.out _ _ hS17 fun _ => ?_
    try simp only [Act.put, List.setIfInBounds_toArray, List.set_cons_zero, List.set_cons_succ]
    refine wpAnyH_up (S' := (fun w' : World => Below x10.heap.size x10 w')) (fun w' h => hb18.trans (h.mono hb18.size)) ?_
    have hS19 : (fun w' : World => Below x10.heap.size x10 w') x10 := Below.refl _ _
    refine takeD (i := 6) (v := .int .i64 p) (some 12) rfl rfl (by kernel_rfl) (by kernel_rfl) (by kernel_rfl) (fun _ _ _ h => h) (Or.inl ⟨by rfl, by rintro w' -; go_simp⟩) hS19 ?_
    simp only [Act.put, List.setIfInBounds_toArray, List.set_cons_zero, List.set_cons_succ]
    refine takeD (i := 7) (v := .int .i64 q) (some 13) rfl rfl (by kernel_rfl) (by kernel_rfl) (by kernel_rfl) (fun _ _ _ h => h) (Or.inl ⟨by rfl, by rintro w' -; go_simp⟩) hS19 ?_
    simp only [Act.put, List.setIfInBounds_toArray, List.set_cons_zero, List.set_cons_succ]
    refine takeD (i := 8) (v := .int .i64 q) (some 2) rfl rfl (by kernel_rfl) (by kernel_rfl) (by kernel_rfl) (fun _ _ _ h => h) (Or.inl ⟨by rfl, by rintro w' -; go_simp⟩) hS19 ?_
    simp only [Act.put, List.setIfInBounds_toArray, List.set_cons_zero, List.set_cons_succ]
    refine wpAnyH_done (by kernel_rfl) ?_ _
    go_wp2_with fail
    go_ret
    exact ⟨rfl, B1.out.trans (HT_16.out.mono B1.out.size)⟩
  · rw [decide_eq_false h]
    have e := E.out
    rw [show Geo.size r b t s o = 0 from if_neg h] at e
    subst e
    clear h E
    go_wp2_with fail
    go_ret
    exact ⟨rfl, B1.out⟩
set_option maxHeartbeats 4000000 in
set_option maxRecDepth 100000 in
theorem raddr_bad (r b t s o x y z : Int) (w : World) (h : ¬ Geo.GV r b t s o) : Calls Try.prog 67 #[.agg #[.int .i64 r, .int .i64 b, .int .i64 t, .int .i64 s, .int .i64 o], .int .i64 x, .int .i64 y, .int .i64 z] w (gPost (.tuple #[.int .i64 0, .int .i64 1]) w) := by
  obtain ⟨B0, hB0⟩ : ∃ B, w.heap.size = B := ⟨_, rfl⟩
  obtain ⟨W0, hW0⟩ : ∃ W, w.alloc (.cells #[.int .i64 r, .int .i64 b, .int .i64 t, .int .i64 s, .int .i64 o] 23) = W := ⟨_, rfl⟩
  have BW : Hid (Below w.heap.size w W0) := Lib.hid (by subst hW0; exact (Below.refl _ _).alloc (Nat.le_refl _) _)
  have R0 : Hid (Row W0 B0 23 #[.int .i64 r, .int .i64 b, .int .i64 t, .int .i64 s, .int .i64 o]) := Lib.hid (by subst hW0; exact gr_new w _ _ hB0)
  have c0 := R0.out.cell 0
  have c1 := R0.out.cell 1
  have c2 := R0.out.cell 2
  have c3 := R0.out.cell 3
  have c4 := R0.out.cell 4
  simp only [List.getElem?_toArray, List.getElem?_cons_zero, List.getElem?_cons_succ] at c0 c1 c2 c3 c4
  have HB0 := Lib.hid hB0
  have HW0 := Lib.hid hW0
  clear hB0 hW0
  go_enter Try.func67, Try.ntmps67
  go_wp2_with (first | rw [HB0.out] | rw [HW0.out])
  refine (rvalid_any r b t s o W0).mono ?_
  rintro e w1 ⟨rfl, hb⟩
  replace c0 := ce_fw c0 hb
  replace c1 := ce_fw c1 hb
  replace c2 := ce_fw c2 hb
  replace c3 := ce_fw c3 hb
  replace c4 := ce_fw c4 hb
  have B1 := Lib.hid (BW.out.trans (hb.mono BW.out.size))
  clear hb
  rw [decide_eq_false h]
  clear h
  go_wp2_with fail
  go_ret2
  exact ⟨rfl, B1.out⟩
set_option maxHeartbeats 4000000 in
set_option maxRecDepth 100000 in
theorem raddr_o0 (r b t s o x y z : Int) (w : World) (h : Geo.GV r b t s o)  (h0 : x < 0) : Calls Try.prog 67 #[.agg #[.int .i64 r, .int .i64 b, .int .i64 t, .int .i64 s, .int .i64 o], .int .i64 x, .int .i64 y, .int .i64 z] w (gPost (.tuple #[.int .i64 0, .int .i64 2]) w) := by
  obtain ⟨B0, hB0⟩ : ∃ B, w.heap.size = B := ⟨_, rfl⟩
  obtain ⟨W0, hW0⟩ : ∃ W, w.alloc (.cells #[.int .i64 r, .int .i64 b, .int .i64 t, .int .i64 s, .int .i64 o] 23) = W := ⟨_, rfl⟩
  have BW : Hid (Below w.heap.size w W0) := Lib.hid (by subst hW0; exact (Below.refl _ _).alloc (Nat.le_refl _) _)
  have R0 : Hid (Row W0 B0 23 #[.int .i64 r, .int .i64 b, .int .i64 t, .int .i64 s, .int .i64 o]) := Lib.hid (by subst hW0; exact gr_new w _ _ hB0)
  have c0 := R0.out.cell 0
  have c1 := R0.out.cell 1
  have c2 := R0.out.cell 2
  have c3 := R0.out.cell 3
  have c4 := R0.out.cell 4
  simp only [List.getElem?_toArray, List.getElem?_cons_zero, List.getElem?_cons_succ] at c0 c1 c2 c3 c4
  have HB0 := Lib.hid hB0
  have HW0 := Lib.hid hW0
  clear hB0 hW0
  go_enter Try.func67, Try.ntmps67
  go_wp2_with (first | rw [HB0.out] | rw [HW0.out])
  refine (rvalid_any r b t s o W0).mono ?_
  rintro e w1 ⟨rfl, hb⟩
  replace c0 := ce_fw c0 hb
  replace c1 := ce_fw c1 hb
  replace c2 := ce_fw c2 hb
  replace c3 := ce_fw c3 hb
  replace c4 := ce_fw c4 hb
  have B1 := Lib.hid (BW.out.trans (hb.mono BW.out.size))
  clear hb
  rw [decide_eq_true h]
  clear h
  have d0 : decide (x < (0 : Int)) = true := decide_eq_true (by omega)
  go_wp2_with fail
  go_ret2
  exact ⟨rfl, B1.out⟩
set_option maxHeartbeats 4000000 in
set_option maxRecDepth 100000 in
theorem raddr_o1 (r b t s o x y z : Int) (w : World) (h : Geo.GV r b t s o) (h0 : ¬ x < 0) (h1 : b ≤ x) : Calls Try.prog 67 #[.agg #[.int .i64 r, .int .i64 b, .int .i64 t, .int .i64 s, .int .i64 o], .int .i64 x, .int .i64 y, .int .i64 z] w (gPost (.tuple #[.int .i64 0, .int .i64 2]) w) := by
  obtain ⟨B0, hB0⟩ : ∃ B, w.heap.size = B := ⟨_, rfl⟩
  obtain ⟨W0, hW0⟩ : ∃ W, w.alloc (.cells #[.int .i64 r, .int .i64 b, .int .i64 t, .int .i64 s, .int .i64 o] 23) = W := ⟨_, rfl⟩
  have BW : Hid (Below w.heap.size w W0) := Lib.hid (by subst hW0; exact (Below.refl _ _).alloc (Nat.le_refl _) _)
  have R0 : Hid (Row W0 B0 23 #[.int .i64 r, .int .i64 b, .int .i64 t, .int .i64 s, .int .i64 o]) := Lib.hid (by subst hW0; exact gr_new w _ _ hB0)
  have c0 := R0.out.cell 0
  have c1 := R0.out.cell 1
  have c2 := R0.out.cell 2
  have c3 := R0.out.cell 3
  have c4 := R0.out.cell 4
  simp only [List.getElem?_toArray, List.getElem?_cons_zero, List.getElem?_cons_succ] at c0 c1 c2 c3 c4
  have HB0 := Lib.hid hB0
  have HW0 := Lib.hid hW0
  clear hB0 hW0
  go_enter Try.func67, Try.ntmps67
  go_wp2_with (first | rw [HB0.out] | rw [HW0.out])
  refine (rvalid_any r b t s o W0).mono ?_
  rintro e w1 ⟨rfl, hb⟩
  replace c0 := ce_fw c0 hb
  replace c1 := ce_fw c1 hb
  replace c2 := ce_fw c2 hb
  replace c3 := ce_fw c3 hb
  replace c4 := ce_fw c4 hb
  have B1 := Lib.hid (BW.out.trans (hb.mono BW.out.size))
  clear hb
  rw [decide_eq_true h]
  clear h
  have d0 : decide (x < (0 : Int)) = false := decide_eq_false (by omega)
  have d1 : decide (b ≤ x) = true := decide_eq_true (by omega)
  go_wp2_with fail
  go_ret2
  exact ⟨rfl, B1.out⟩
set_option maxHeartbeats 4000000 in
set_option maxRecDepth 100000 in
theorem raddr_o2 (r b t s o x y z : Int) (w : World) (h : Geo.GV r b t s o) (h0 : ¬ x < 0) (h1 : ¬ b ≤ x) (h2 : y < 0) : Calls Try.prog 67 #[.agg #[.int .i64 r, .int .i64 b, .int .i64 t, .int .i64 s, .int .i64 o], .int .i64 x, .int .i64 y, .int .i64 z] w (gPost (.tuple #[.int .i64 0, .int .i64 2]) w) := by
  obtain ⟨B0, hB0⟩ : ∃ B, w.heap.size = B := ⟨_, rfl⟩
  obtain ⟨W0, hW0⟩ : ∃ W, w.alloc (.cells #[.int .i64 r, .int .i64 b, .int .i64 t, .int .i64 s, .int .i64 o] 23) = W := ⟨_, rfl⟩
  have BW : Hid (Below w.heap.size w W0) := Lib.hid (by subst hW0; exact (Below.refl _ _).alloc (Nat.le_refl _) _)
  have R0 : Hid (Row W0 B0 23 #[.int .i64 r, .int .i64 b, .int .i64 t, .int .i64 s, .int .i64 o]) := Lib.hid (by subst hW0; exact gr_new w _ _ hB0)
  have c0 := R0.out.cell 0
  have c1 := R0.out.cell 1
  have c2 := R0.out.cell 2
  have c3 := R0.out.cell 3
  have c4 := R0.out.cell 4
  simp only [List.getElem?_toArray, List.getElem?_cons_zero, List.getElem?_cons_succ] at c0 c1 c2 c3 c4
  have HB0 := Lib.hid hB0
  have HW0 := Lib.hid hW0
  clear hB0 hW0
  go_enter Try.func67, Try.ntmps67
  go_wp2_with (first | rw [HB0.out] | rw [HW0.out])
  refine (rvalid_any r b t s o W0).mono ?_
  rintro e w1 ⟨rfl, hb⟩
  replace c0 := ce_fw c0 hb
  replace c1 := ce_fw c1 hb
  replace c2 := ce_fw c2 hb
  replace c3 := ce_fw c3 hb
  replace c4 := ce_fw c4 hb
  have B1 := Lib.hid (BW.out.trans (hb.mono BW.out.size))
  clear hb
  rw [decide_eq_true h]
  clear h
  have d0 : decide (x < (0 : Int)) = false := decide_eq_false (by omega)
  have d1 : decide (b ≤ x) = false := decide_eq_false (by omega)
  have d2 : decide (y < (0 : Int)) = true := decide_eq_true (by omega)
  go_wp2_with fail
  go_ret2
  exact ⟨rfl, B1.out⟩
set_option maxHeartbeats 4000000 in
set_option maxRecDepth 100000 in
theorem raddr_o3 (r b t s o x y z : Int) (w : World) (h : Geo.GV r b t s o) (h0 : ¬ x < 0) (h1 : ¬ b ≤ x) (h2 : ¬ y < 0) (h3 : t ≤ y) : Calls Try.prog 67 #[.agg #[.int .i64 r, .int .i64 b, .int .i64 t, .int .i64 s, .int .i64 o], .int .i64 x, .int .i64 y, .int .i64 z] w (gPost (.tuple #[.int .i64 0, .int .i64 2]) w) := by
  obtain ⟨B0, hB0⟩ : ∃ B, w.heap.size = B := ⟨_, rfl⟩
  obtain ⟨W0, hW0⟩ : ∃ W, w.alloc (.cells #[.int .i64 r, .int .i64 b, .int .i64 t, .int .i64 s, .int .i64 o] 23) = W := ⟨_, rfl⟩
  have BW : Hid (Below w.heap.size w W0) := Lib.hid (by subst hW0; exact (Below.refl _ _).alloc (Nat.le_refl _) _)
  have R0 : Hid (Row W0 B0 23 #[.int .i64 r, .int .i64 b, .int .i64 t, .int .i64 s, .int .i64 o]) := Lib.hid (by subst hW0; exact gr_new w _ _ hB0)
  have c0 := R0.out.cell 0
  have c1 := R0.out.cell 1
  have c2 := R0.out.cell 2
  have c3 := R0.out.cell 3
  have c4 := R0.out.cell 4
  simp only [List.getElem?_toArray, List.getElem?_cons_zero, List.getElem?_cons_succ] at c0 c1 c2 c3 c4
  have HB0 := Lib.hid hB0
  have HW0 := Lib.hid hW0
  clear hB0 hW0
  go_enter Try.func67, Try.ntmps67
  go_wp2_with (first | rw [HB0.out] | rw [HW0.out])
  refine (rvalid_any r b t s o W0).mono ?_
  rintro e w1 ⟨rfl, hb⟩
  replace c0 := ce_fw c0 hb
  replace c1 := ce_fw c1 hb
  replace c2 := ce_fw c2 hb
  replace c3 := ce_fw c3 hb
  replace c4 := ce_fw c4 hb
  have B1 := Lib.hid (BW.out.trans (hb.mono BW.out.size))
  clear hb
  rw [decide_eq_true h]
  clear h
  have d0 : decide (x < (0 : Int)) = false := decide_eq_false (by omega)
  have d1 : decide (b ≤ x) = false := decide_eq_false (by omega)
  have d2 : decide (y < (0 : Int)) = false := decide_eq_false (by omega)
  have d3 : decide (t ≤ y) = true := decide_eq_true (by omega)
  go_wp2_with fail
  go_ret2
  exact ⟨rfl, B1.out⟩
set_option maxHeartbeats 4000000 in
set_option maxRecDepth 100000 in
theorem raddr_o4 (r b t s o x y z : Int) (w : World) (h : Geo.GV r b t s o) (h0 : ¬ x < 0) (h1 : ¬ b ≤ x) (h2 : ¬ y < 0) (h3 : ¬ t ≤ y) (h4 : z < 0) : Calls Try.prog 67 #[.agg #[.int .i64 r, .int .i64 b, .int .i64 t, .int .i64 s, .int .i64 o], .int .i64 x, .int .i64 y, .int .i64 z] w (gPost (.tuple #[.int .i64 0, .int .i64 2]) w) := by
  obtain ⟨B0, hB0⟩ : ∃ B, w.heap.size = B := ⟨_, rfl⟩
  obtain ⟨W0, hW0⟩ : ∃ W, w.alloc (.cells #[.int .i64 r, .int .i64 b, .int .i64 t, .int .i64 s, .int .i64 o] 23) = W := ⟨_, rfl⟩
  have BW : Hid (Below w.heap.size w W0) := Lib.hid (by subst hW0; exact (Below.refl _ _).alloc (Nat.le_refl _) _)
  have R0 : Hid (Row W0 B0 23 #[.int .i64 r, .int .i64 b, .int .i64 t, .int .i64 s, .int .i64 o]) := Lib.hid (by subst hW0; exact gr_new w _ _ hB0)
  have c0 := R0.out.cell 0
  have c1 := R0.out.cell 1
  have c2 := R0.out.cell 2
  have c3 := R0.out.cell 3
  have c4 := R0.out.cell 4
  simp only [List.getElem?_toArray, List.getElem?_cons_zero, List.getElem?_cons_succ] at c0 c1 c2 c3 c4
  have HB0 := Lib.hid hB0
  have HW0 := Lib.hid hW0
  clear hB0 hW0
  go_enter Try.func67, Try.ntmps67
  go_wp2_with (first | rw [HB0.out] | rw [HW0.out])
  refine (rvalid_any r b t s o W0).mono ?_
  rintro e w1 ⟨rfl, hb⟩
  replace c0 := ce_fw c0 hb
  replace c1 := ce_fw c1 hb
  replace c2 := ce_fw c2 hb
  replace c3 := ce_fw c3 hb
  replace c4 := ce_fw c4 hb
  have B1 := Lib.hid (BW.out.trans (hb.mono BW.out.size))
  clear hb
  rw [decide_eq_true h]
  clear h
  have d0 : decide (x < (0 : Int)) = false := decide_eq_false (by omega)
  have d1 : decide (b ≤ x) = false := decide_eq_false (by omega)
  have d2 : decide (y < (0 : Int)) = false := decide_eq_false (by omega)
  have d3 : decide (t ≤ y) = false := decide_eq_false (by omega)
  have d4 : decide (z < (0 : Int)) = true := decide_eq_true (by omega)
  go_wp2_with fail
  go_ret2
  exact ⟨rfl, B1.out⟩
set_option maxHeartbeats 4000000 in
set_option maxRecDepth 100000 in
theorem raddr_o5 (r b t s o x y z : Int) (w : World) (h : Geo.GV r b t s o) (h0 : ¬ x < 0) (h1 : ¬ b ≤ x) (h2 : ¬ y < 0) (h3 : ¬ t ≤ y) (h4 : ¬ z < 0) (h5 : s ≤ z) : Calls Try.prog 67 #[.agg #[.int .i64 r, .int .i64 b, .int .i64 t, .int .i64 s, .int .i64 o], .int .i64 x, .int .i64 y, .int .i64 z] w (gPost (.tuple #[.int .i64 0, .int .i64 2]) w) := by
  obtain ⟨B0, hB0⟩ : ∃ B, w.heap.size = B := ⟨_, rfl⟩
  obtain ⟨W0, hW0⟩ : ∃ W, w.alloc (.cells #[.int .i64 r, .int .i64 b, .int .i64 t, .int .i64 s, .int .i64 o] 23) = W := ⟨_, rfl⟩
  have BW : Hid (Below w.heap.size w W0) := Lib.hid (by subst hW0; exact (Below.refl _ _).alloc (Nat.le_refl _) _)
  have R0 : Hid (Row W0 B0 23 #[.int .i64 r, .int .i64 b, .int .i64 t, .int .i64 s, .int .i64 o]) := Lib.hid (by subst hW0; exact gr_new w _ _ hB0)
  have c0 := R0.out.cell 0
  have c1 := R0.out.cell 1
  have c2 := R0.out.cell 2
  have c3 := R0.out.cell 3
  have c4 := R0.out.cell 4
  simp only [List.getElem?_toArray, List.getElem?_cons_zero, List.getElem?_cons_succ] at c0 c1 c2 c3 c4
  have HB0 := Lib.hid hB0
  have HW0 := Lib.hid hW0
  clear hB0 hW0
  go_enter Try.func67, Try.ntmps67
  go_wp2_with (first | rw [HB0.out] | rw [HW0.out])
  refine (rvalid_any r b t s o W0).mono ?_
  rintro e w1 ⟨rfl, hb⟩
  replace c0 := ce_fw c0 hb
  replace c1 := ce_fw c1 hb
  replace c2 := ce_fw c2 hb
  replace c3 := ce_fw c3 hb
  replace c4 := ce_fw c4 hb
  have B1 := Lib.hid (BW.out.trans (hb.mono BW.out.size))
  clear hb
  rw [decide_eq_true h]
  clear h
  have d0 : decide (x < (0 : Int)) = false := decide_eq_false (by omega)
  have d1 : decide (b ≤ x) = false := decide_eq_false (by omega)
  have d2 : decide (y < (0 : Int)) = false := decide_eq_false (by omega)
  have d3 : decide (t ≤ y) = false := decide_eq_false (by omega)
  have d4 : decide (z < (0 : Int)) = false := decide_eq_false (by omega)
  have d5 : decide (s ≤ z) = true := decide_eq_true (by omega)
  go_wp2_with fail
  go_ret2
  exact ⟨rfl, B1.out⟩
set_option maxHeartbeats 4000000 in
set_option maxRecDepth 100000 in
theorem raddr_in (r b t s o x y z : Int) (w : World) (h : Geo.GV r b t s o) (h0 : ¬ x < 0) (h1 : ¬ b ≤ x) (h2 : ¬ y < 0) (h3 : ¬ t ≤ y) (h4 : ¬ z < 0) (h5 : ¬ s ≤ z) : Calls Try.prog 67 #[.agg #[.int .i64 r, .int .i64 b, .int .i64 t, .int .i64 s, .int .i64 o], .int .i64 x, .int .i64 y, .int .i64 z] w (gPost (.tuple #[.int .i64 (r + (x * t + y) * s + z), .int .i64 0]) w) := by
  obtain ⟨q, hq⟩ : ∃ q, r + (x * t + y) * s + z = q := ⟨_, rfl⟩
  rw [hq]
  obtain ⟨B0, hB0⟩ : ∃ B, w.heap.size = B := ⟨_, rfl⟩
  obtain ⟨W0, hW0⟩ : ∃ W, w.alloc (.cells #[.int .i64 r, .int .i64 b, .int .i64 t, .int .i64 s, .int .i64 o] 23) = W := ⟨_, rfl⟩
  have BW : Hid (Below w.heap.size w W0) := Lib.hid (by subst hW0; exact (Below.refl _ _).alloc (Nat.le_refl _) _)
  have R0 : Hid (Row W0 B0 23 #[.int .i64 r, .int .i64 b, .int .i64 t, .int .i64 s, .int .i64 o]) := Lib.hid (by subst hW0; exact gr_new w _ _ hB0)
  have c0 := R0.out.cell 0
  have c1 := R0.out.cell 1
  have c2 := R0.out.cell 2
  have c3 := R0.out.cell 3
  have c4 := R0.out.cell 4
  simp only [List.getElem?_toArray, List.getElem?_cons_zero, List.getElem?_cons_succ] at c0 c1 c2 c3 c4
  have HB0 := Lib.hid hB0
  have HW0 := Lib.hid hW0
  clear hB0 hW0
  go_enter Try.func67, Try.ntmps67
  go_wp2_with (first | rw [HB0.out] | rw [HW0.out])
  refine (rvalid_any r b t s o W0).mono ?_
  rintro e w1 ⟨rfl, hb⟩
  replace c0 := ce_fw c0 hb
  replace c1 := ce_fw c1 hb
  replace c2 := ce_fw c2 hb
  replace c3 := ce_fw c3 hb
  replace c4 := ce_fw c4 hb
  have B1 := Lib.hid (BW.out.trans (hb.mono BW.out.size))
  clear hb
  rw [decide_eq_true h]
  unfold Geo.GV at h
  have d0 : decide (x < (0 : Int)) = false := decide_eq_false (by omega)
  have d1 : decide (b ≤ x) = false := decide_eq_false (by omega)
  have d2 : decide (y < (0 : Int)) = false := decide_eq_false (by omega)
  have d3 : decide (t ≤ y) = false := decide_eq_false (by omega)
  have d4 : decide (z < (0 : Int)) = false := decide_eq_false (by omega)
  have d5 : decide (s ≤ z) = false := decide_eq_false (by omega)
  have b1 := gm (t := x) (s := t) (a := 64) (c := 16) (by omega) (by omega) (by omega) (by omega)
  obtain ⟨p1, hp1⟩ : ∃ p, x * t = p := ⟨_, rfl⟩
  rw [hp1] at b1 hq
  have b2 := gm (t := p1 + y) (s := s) (a := 1040) (c := 64) (by omega) (by omega) (by omega) (by omega)
  obtain ⟨p2, hp2⟩ : ∃ p, (p1 + y) * s = p := ⟨_, rfl⟩
  rw [hp2] at b2 hq
  go_wp2_with fail
  go_ret2
  exact ⟨by rw [← hq]; first | rfl | (simp; done), B1.out⟩
theorem raddr_any (r b t s o x y z : Int) (w : World) : Calls Try.prog 67 #[.agg #[.int .i64 r, .int .i64 b, .int .i64 t, .int .i64 s, .int .i64 o], .int .i64 x, .int .i64 y, .int .i64 z] w (gPost (.tuple #[.int .i64 (Geo.addr r b t s o x y z).1, .int .i64 (Geo.addr r b t s o x y z).2]) w) := by
  by_cases h : ¬ Geo.GV r b t s o
  · rw [Geo.addr_bad h]; exact raddr_bad r b t s o x y z w h
  replace h := Decidable.not_not.1 h
  by_cases h0 : x < 0
  · rw [Geo.addr_out h (by omega)]; exact raddr_o0 r b t s o x y z w h h0
  by_cases h1 : b ≤ x
  · rw [Geo.addr_out h (by omega)]; exact raddr_o1 r b t s o x y z w h h0 h1
  by_cases h2 : y < 0
  · rw [Geo.addr_out h (by omega)]; exact raddr_o2 r b t s o x y z w h h0 h1 h2
  by_cases h3 : t ≤ y
  · rw [Geo.addr_out h (by omega)]; exact raddr_o3 r b t s o x y z w h h0 h1 h2 h3
  by_cases h4 : z < 0
  · rw [Geo.addr_out h (by omega)]; exact raddr_o4 r b t s o x y z w h h0 h1 h2 h3 h4
  by_cases h5 : s ≤ z
  · rw [Geo.addr_out h (by omega)]; exact raddr_o5 r b t s o x y z w h h0 h1 h2 h3 h4 h5
  have e : Geo.addr r b t s o x y z = (r + (x * t + y) * s + z, 0) := by unfold Geo.addr; rw [if_pos h, if_pos (by omega)]
  rw [e]; exact raddr_in r b t s o x y z w h h0 h1 h2 h3 h4 h5
end Go.Proofs.Ytbaclcpnnompnaa
