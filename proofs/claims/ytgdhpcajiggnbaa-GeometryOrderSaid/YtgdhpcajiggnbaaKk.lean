/- Layer 10: the walk of GeometryOrder. WRITTEN BY gen_Kk.py. -/
import Derived.Test.YtgdhpcajiggnbaaKe
namespace Go.Proofs.Ytgdhpcajiggnbaa
open Go Go.RowKit
set_option linter.unusedVariables false
set_option linter.unusedSimpArgs false

set_option maxHeartbeats 4000000 in
set_option maxRecDepth 100000 in
theorem gord_bad (r b t s o a : Int) (w : World) (h : ¬ Geo.GV r b t s o) : Calls Try.prog 8 #[.agg #[.int .i64 r, .int .i64 b, .int .i64 t, .int .i64 s, .int .i64 o], .int .i64 a] w (lawPost w) := by
  have V := Lib.hid fun w => rvalid_any r b t s o w
  have S := Lib.hid fun w => pshadow_any r b t s o a w
  rw [show Geo.shadow r b t s o a = [] by unfold Geo.shadow; rw [Geo.shn_out (by rw [Geo.loc_bad h]; decide)]; rfl] at S
  rw [decide_eq_false h] at V
  clear h
  obtain ⟨B0, hB0⟩ : ∃ B, w.heap.size = B := ⟨_, rfl⟩
  obtain ⟨W0, hW0⟩ : ∃ W, w.alloc (.cells #[.int .i64 r, .int .i64 b, .int .i64 t, .int .i64 s, .int .i64 o] 23) = W := ⟨_, rfl⟩
  have BW : Hid (Below w.heap.size w W0) := Lib.hid (by subst hW0; exact (Below.refl _ _).alloc (Nat.le_refl _) _)
  have R0 : Hid (Row W0 B0 23 #[.int .i64 r, .int .i64 b, .int .i64 t, .int .i64 s, .int .i64 o]) := Lib.hid (by subst hW0; exact gr_new w _ _ hB0)
  have c0 := R0.out.cell 0
  have c1 := R0.out.cell 1
  have c2 := R0.out.cell 2
  have c3 := R0.out.cell 3
  have c4 := R0.out.cell 4
  simp only [List.getElem?_toArray, List.getElem?_cons_zero, List.getElem?_cons_succ] at c0 c1 c2 c3 c4
  have HB0 := Lib.hid hB0
  have HW0 := Lib.hid hW0
  clear hB0 hW0
  go_enter Try.func8, Try.ntmps8
  go_wp2_with (first | rw [HB0.out] | rw [HW0.out])
  refine (S.out _).mono ?_
  rintro e x1 ⟨v1, rfl, hi, hb⟩
  replace c0 := ce_fw c0 hb
  replace c1 := ce_fw c1 hb
  replace c2 := ce_fw c2 hb
  replace c3 := ce_fw c3 hb
  replace c4 := ce_fw c4 hb
  obtain ⟨A1, d1, e1⟩ := is_form hi
  have e2 : v1 = .slice A1 0 d1 := e1
  clear hi e1
  subst e2
  have D1 := Lib.hid (BW.out.trans (hb.mono BW.out.size))
  have Q1 := Lib.hid (rw_fw R0.out hb)
  clear hb
  go_wp2_with fail
  refine (awake10 _).mono ?_
  rintro e x2 ⟨rfl, hb⟩
  replace c0 := ce_fw c0 hb
  replace c1 := ce_fw c1 hb
  replace c2 := ce_fw c2 hb
  replace c3 := ce_fw c3 hb
  replace c4 := ce_fw c4 hb
  have D2 := Lib.hid (D1.out.trans (hb.mono D1.out.size))
  have Q2 := Lib.hid (rw_fw Q1.out hb)
  clear hb
  go_wp2_with fail
  refine (V.out _).mono ?_
  rintro e x3 ⟨rfl, hb⟩
  replace c0 := ce_fw c0 hb
  replace c1 := ce_fw c1 hb
  replace c2 := ce_fw c2 hb
  replace c3 := ce_fw c3 hb
  replace c4 := ce_fw c4 hb
  have D3 := Lib.hid (D2.out.trans (hb.mono D2.out.size))
  have Q3 := Lib.hid (rw_fw Q2.out hb)
  clear hb
  go_wp2_with fail
  refine (awake10 _).mono ?_
  rintro e x4 ⟨rfl, hb⟩
  replace c0 := ce_fw c0 hb
  replace c1 := ce_fw c1 hb
  replace c2 := ce_fw c2 hb
  replace c3 := ce_fw c3 hb
  replace c4 := ce_fw c4 hb
  have D4 := Lib.hid (D3.out.trans (hb.mono D3.out.size))
  have Q4 := Lib.hid (rw_fw Q3.out hb)
  clear hb
  go_wp2_with fail
  go_ret
  exact ⟨rfl, D4.out⟩

set_option maxHeartbeats 4000000 in
set_option maxRecDepth 100000 in
theorem gord_no (r b t s o a : Int) (w : World) (h : Geo.GV r b t s o) (hl : Geo.loc r b t s o a = (0, 0, 0, 2)) : Calls Try.prog 8 #[.agg #[.int .i64 r, .int .i64 b, .int .i64 t, .int .i64 s, .int .i64 o], .int .i64 a] w (lawPost w) := by
  have V := Lib.hid fun w => rvalid_any r b t s o w
  have S := Lib.hid fun w => pshadow_any r b t s o a w
  have L := Lib.hid fun w => rloc_any r b t s o a w
  rw [show Geo.shadow r b t s o a = [] by unfold Geo.shadow; rw [Geo.shn_out (by rw [hl]; decide)]; rfl] at S
  rw [decide_eq_true h] at V
  rw [hl] at L
  unfold locV at L
  clear h hl
  obtain ⟨B0, hB0⟩ : ∃ B, w.heap.size = B := ⟨_, rfl⟩
  obtain ⟨W0, hW0⟩ : ∃ W, w.alloc (.cells #[.int .i64 r, .int .i64 b, .int .i64 t, .int .i64 s, .int .i64 o] 23) = W := ⟨_, rfl⟩
  have BW : Hid (Below w.heap.size w W0) := Lib.hid (by subst hW0; exact (Below.refl _ _).alloc (Nat.le_refl _) _)
  have R0 : Hid (Row W0 B0 23 #[.int .i64 r, .int .i64 b, .int .i64 t, .int .i64 s, .int .i64 o]) := Lib.hid (by subst hW0; exact gr_new w _ _ hB0)
  have c0 := R0.out.cell 0
  have c1 := R0.out.cell 1
  have c2 := R0.out.cell 2
  have c3 := R0.out.cell 3
  have c4 := R0.out.cell 4
  simp only [List.getElem?_toArray, List.getElem?_cons_zero, List.getElem?_cons_succ] at c0 c1 c2 c3 c4
  have HB0 := Lib.hid hB0
  have HW0 := Lib.hid hW0
  clear hB0 hW0
  go_enter Try.func8, Try.ntmps8
  go_wp2_with (first | rw [HB0.out] | rw [HW0.out])
  refine (S.out _).mono ?_
  rintro e x1 ⟨v1, rfl, hi, hb⟩
  replace c0 := ce_fw c0 hb
  replace c1 := ce_fw c1 hb
  replace c2 := ce_fw c2 hb
  replace c3 := ce_fw c3 hb
  replace c4 := ce_fw c4 hb
  obtain ⟨A1, d1, e1⟩ := is_form hi
  have e2 : v1 = .slice A1 0 d1 := e1
  clear hi e1
  subst e2
  have D1 := Lib.hid (BW.out.trans (hb.mono BW.out.size))
  have Q1 := Lib.hid (rw_fw R0.out hb)
  clear hb
  go_wp2_with fail
  refine (awake10 _).mono ?_
  rintro e x2 ⟨rfl, hb⟩
  replace c0 := ce_fw c0 hb
  replace c1 := ce_fw c1 hb
  replace c2 := ce_fw c2 hb
  replace c3 := ce_fw c3 hb
  replace c4 := ce_fw c4 hb
  have D2 := Lib.hid (D1.out.trans (hb.mono D1.out.size))
  have Q2 := Lib.hid (rw_fw Q1.out hb)
  clear hb
  go_wp2_with fail
  refine (V.out _).mono ?_
  rintro e x3 ⟨rfl, hb⟩
  replace c0 := ce_fw c0 hb
  replace c1 := ce_fw c1 hb
  replace c2 := ce_fw c2 hb
  replace c3 := ce_fw c3 hb
  replace c4 := ce_fw c4 hb
  have D3 := Lib.hid (D2.out.trans (hb.mono D2.out.size))
  have Q3 := Lib.hid (rw_fw Q2.out hb)
  clear hb
  go_wp2_with fail
  refine (L.out _).mono ?_
  rintro e x4 ⟨rfl, hb⟩
  replace c0 := ce_fw c0 hb
  replace c1 := ce_fw c1 hb
  replace c2 := ce_fw c2 hb
  replace c3 := ce_fw c3 hb
  replace c4 := ce_fw c4 hb
  have D4 := Lib.hid (D3.out.trans (hb.mono D3.out.size))
  have Q4 := Lib.hid (rw_fw Q3.out hb)
  clear hb
  go_wp2_with fail
  go_ret
  exact ⟨rfl, D4.out⟩

set_option maxHeartbeats 4000000 in
set_option maxRecDepth 100000 in
theorem gord_in (R B T S O n : Nat) (w : World) (h : Geo.GV (R : Int) B T S O) (hn : n < B * (T * S)) : Calls Try.prog 8 #[.agg #[.int .i64 (R : Int), .int .i64 (B : Int), .int .i64 (T : Int), .int .i64 (S : Int), .int .i64 (O : Int)], .int .i64 ((R + n : Nat) : Int)] w (lawPost w) := by
  have V := Lib.hid fun w => rvalid_any R B T S O w
  have SH := Lib.hid fun w => pshadow_any R B T S O ((R + n : Nat) : Int) w
  have L := Lib.hid fun w => rloc_any R B T S O ((R + n : Nat) : Int) w
  have hg := Geo.gv_nat h
  have yT := Nat.mod_lt (n / S) (show T > 0 by omega)
  have L2 := Lib.hid fun i (hi : n / S % T + (i + 1) < T) w => (show Calls Try.prog 18 #[.agg #[.int .i64 (R : Int), .int .i64 (B : Int), .int .i64 (T : Int), .int .i64 (S : Int), .int .i64 (O : Int)], .int .i64 (((R + n : Nat) : Int) + ((i : Nat) + 1 : Int) * (S : Int))] w (gPost (locV (((n / (T * S) : Nat) : Int), ((n / S % T : Nat) : Int) + 1 + (i : Nat), ((n % S : Nat) : Int), 0)) w) from by
    have e := Geo.shd_num (S := S) (T := T) n (i + 1)
    have hz := Nat.mod_lt n (show S > 0 by omega)
    have hp := Geo.place (x := n / (T * S)) hi hz
    have hlt := Geo.num_lt (B := B) (Geo.div_lt hn) hi hz
    rw [← e] at hp hlt
    have e2 : ((R + n : Nat) : Int) + ((i : Nat) + 1 : Int) * (S : Int) = ((R + (n + (i + 1) * S) : Nat) : Int) := by push_cast; rw [Int.add_assoc]
    have hq := rloc_any R B T S O ((R + (n + (i + 1) * S) : Nat) : Int) w
    rw [Geo.loc_in h hlt, hp.1, hp.2.1, hp.2.2] at hq
    rw [e2, show ((n / S % T : Nat) : Int) + 1 + (i : Nat) = ((n / S % T + (i + 1) : Nat) : Int) by push_cast; omega]
    exact hq)
  unfold Geo.shadow at SH
  rw [Geo.shn_in h hn] at SH
  rw [Geo.loc_in h hn] at L
  rw [decide_eq_true h] at V
  obtain ⟨x, hx⟩ : ∃ x, n / (T * S) = x := ⟨_, rfl⟩
  obtain ⟨y, hy⟩ : ∃ y, n / S % T = y := ⟨_, rfl⟩
  obtain ⟨z, hz⟩ : ∃ z, n % S = z := ⟨_, rfl⟩
  obtain ⟨a, ha⟩ : ∃ a, ((R + n : Nat) : Int) = a := ⟨_, rfl⟩
  rw [hx, hy, hz, ha] at L
  rw [hx, hy, hz, ha] at L2
  rw [hy, ha] at SH
  rw [hy] at yT
  rw [ha]
  unfold locV at L L2
  obtain ⟨j, hj⟩ : ∃ j, min O (T - 1 - y) = j := ⟨_, rfl⟩
  have jb : j ≤ 3 ∧ y + j < T ∧ T ≤ 16 ∧ y ≤ 15 := by omega
  have hmin : ∀ w ts t, (Builtin.min_ ts t #[.int .i64 (O : Int), .int .i64 ((T : Int) - 1 - (y : Int))]).run Try.prog w = .ok (.int .i64 (j : Int)) w := fun w ts t => by
    simp [Builtin.min_, Builtin.min2]
    (repeat' split) <;> omega
  have LN := Lib.hid (Geo.shd_len S a j)
  have LA := Lib.hid fun i (hi : i < j) => (show (Geo.shd S a j).getD i 0 = a + ((i : Nat) + 1 : Int) * (S : Int) by
    have := Geo.shd_at (S : Int) a hi
    rw [List.getD_eq_getElem?_getD, this]; rfl)
  rw [hj] at SH
  obtain ⟨l, hl⟩ : ∃ l, Geo.shd S a j = l := ⟨_, rfl⟩
  rw [hl] at SH LN LA
  clear hx hy hz ha h hn hg hj hl
  obtain ⟨B0, hB0⟩ : ∃ B, w.heap.size = B := ⟨_, rfl⟩
  obtain ⟨W0, hW0⟩ : ∃ W, w.alloc (.cells #[.int .i64 (R : Int), .int .i64 (B : Int), .int .i64 (T : Int), .int .i64 (S : Int), .int .i64 (O : Int)] 23) = W := ⟨_, rfl⟩
  have BW : Hid (Below w.heap.size w W0) := Lib.hid (by subst hW0; exact (Below.refl _ _).alloc (Nat.le_refl _) _)
  have R0 : Hid (Row W0 B0 23 #[.int .i64 (R : Int), .int .i64 (B : Int), .int .i64 (T : Int), .int .i64 (S : Int), .int .i64 (O : Int)]) := Lib.hid (by subst hW0; exact gr_new w _ _ hB0)
  have c0 := R0.out.cell 0
  have c1 := R0.out.cell 1
  have c2 := R0.out.cell 2
  have c3 := R0.out.cell 3
  have c4 := R0.out.cell 4
  simp only [List.getElem?_toArray, List.getElem?_cons_zero, List.getElem?_cons_succ] at c0 c1 c2 c3 c4
  have HB0 := Lib.hid hB0
  have HW0 := Lib.hid hW0
  clear hB0 hW0
  go_enter Try.func8, Try.ntmps8
  go_wp2_with (first | rw [HB0.out] | rw [HW0.out])
  refine (SH.out _).mono ?_
  rintro e x1 ⟨v1, rfl, hi, hb⟩
  replace c0 := ce_fw c0 hb
  replace c1 := ce_fw c1 hb
  replace c2 := ce_fw c2 hb
  replace c3 := ce_fw c3 hb
  replace c4 := ce_fw c4 hb
  obtain ⟨A1, d1, e1⟩ := is_form hi
  rw [LN.out] at e1
  subst e1
  have I1 := Lib.hid hi
  clear hi
  have D1 := Lib.hid (BW.out.trans (hb.mono BW.out.size))
  have Q1 := Lib.hid (rw_fw R0.out hb)
  clear hb
  go_wp2_with fail
  refine (awake10 _).mono ?_
  rintro e x2 ⟨rfl, hb⟩
  replace c0 := ce_fw c0 hb
  replace c1 := ce_fw c1 hb
  replace c2 := ce_fw c2 hb
  replace c3 := ce_fw c3 hb
  replace c4 := ce_fw c4 hb
  have I2 := Lib.hid (is_fw I1.out hb)
  have D2 := Lib.hid (D1.out.trans (hb.mono D1.out.size))
  have Q2 := Lib.hid (rw_fw Q1.out hb)
  clear hb
  go_wp2_with fail
  refine (V.out _).mono ?_
  rintro e x3 ⟨rfl, hb⟩
  replace c0 := ce_fw c0 hb
  replace c1 := ce_fw c1 hb
  replace c2 := ce_fw c2 hb
  replace c3 := ce_fw c3 hb
  replace c4 := ce_fw c4 hb
  have I3 := Lib.hid (is_fw I2.out hb)
  have D3 := Lib.hid (D2.out.trans (hb.mono D2.out.size))
  have Q3 := Lib.hid (rw_fw Q2.out hb)
  clear hb
  go_wp2_with fail
  refine (L.out _).mono ?_
  rintro e x4 ⟨rfl, hb⟩
  replace c0 := ce_fw c0 hb
  replace c1 := ce_fw c1 hb
  replace c2 := ce_fw c2 hb
  replace c3 := ce_fw c3 hb
  replace c4 := ce_fw c4 hb
  have I4 := Lib.hid (is_fw I3.out hb)
  have D4 := Lib.hid (D3.out.trans (hb.mono D3.out.size))
  have Q4 := Lib.hid (rw_fw Q3.out hb)
  clear hb
  go_wp2_with fail
  go_loopw [10] (fun i wr => ∃ k : Nat, k ≤ j ∧ i = .int .i64 (k : Int) ∧ Hid (Below x4.heap.size x4 wr)) (fun i _ => j - (intOf i).toNat)
  case atStart => exact ⟨0, Nat.zero_le _, rfl, Lib.hid (Below.refl _ _)⟩
  case round =>
    obtain ⟨k, hk, rfl, V2⟩ := hrel
    have QR := Lib.hid (rw_fw Q4.out V2.out)
    by_cases hlt : k < j
    · have kI : (k : Int) < (j : Int) := by omega
      obtain ⟨b1, o1, rfl, hx1⟩ := is_nth (is_fw I4.out V2.out) hlt
      rw [LA.out k hlt] at hx1
      have CX := Lib.hid hx1
      have LK := Lib.hid fun w => L2.out k (by omega) w
      obtain ⟨p, hp⟩ : ∃ p, a + ((k : Int) + 1) * (S : Int) = p := ⟨_, rfl⟩
      rw [hp] at CX LK
      clear hx1 hp c0 c1 c2 c3 c4
      go_wp2_with fail
      refine wp_region_held (P := Try.prog) (S := (fun w' : World => Below wr.heap.size wr w')) rfl ?_
      change wpAnyH _ _ _ _ _ _ _ _ wr.drew
      have hz2 : Below wr.heap.size wr wr.drew := (Below.refl wr.heap.size wr).drew
      generalize wr.drew = wz1 at hz2 ⊢
      have R_3 := Lib.hid (rw_fw QR.out (hz2))
      have CX_4 := Lib.hid (ce_fw CX.out (hz2))
      have hl5 := hz2
      have HT_6 : Hid (Below wr.heap.size wr wz1) := Lib.hid (hl5)
      refine wpAnyH_up (S' := (fun w' : World => Below wz1.heap.size wz1 w')) (fun w' h => hz2.trans (h.mono hz2.size)) ?_
      have hS7 : (fun w' : World => Below wz1.heap.size wz1 w') wz1 := Below.refl _ _
      refine takeD (i := 0) (v := .agg #[.int .i64 (R : Int), .int .i64 (B : Int), .int .i64 (T : Int), .int .i64 (S : Int), .int .i64 (O : Int)]) (some 51) rfl rfl (by kernel_rfl) (by kernel_rfl) (by kernel_rfl) (fun _ _ _ h => h) (yieldsIf_load_mid (by rfl) _ _ rfl B0 0 rfl (#[.int .i64 (R : Int), .int .i64 (B : Int), .int .i64 (T : Int), .int .i64 (S : Int), .int .i64 (O : Int)]).toList _ (fun w' h => gr_rng (rw_fw R_3.out h)) Try.underlying23 rfl (by kernel_rfl)) hS7 ?_
      simp only [Act.put, List.setIfInBounds_toArray, List.set_cons_zero, List.set_cons_succ]
      refine takeD (i := 1) (v := .slice (some ⟨b1, o1, none⟩) j d1) (some 52) rfl rfl (by kernel_rfl) (by kernel_rfl) (by kernel_rfl) (fun _ _ _ h => h) (Or.inl ⟨by rfl, by rintro w' -; go_simp⟩) hS7 ?_
      simp only [Act.put, List.setIfInBounds_toArray, List.set_cons_zero, List.set_cons_succ]
      refine takeD (i := 2) (v := .int .i64 (k : Int)) (some 53) rfl rfl (by kernel_rfl) (by kernel_rfl) (by kernel_rfl) (fun _ _ _ h => h) (Or.inl ⟨by rfl, by rintro w' -; go_simp⟩) hS7 ?_
      simp only [Act.put, List.setIfInBounds_toArray, List.set_cons_zero, List.set_cons_succ]
      refine takeD (i := 3) (v := .pointer (some ⟨b1, o1 + k * 1, none⟩)) (some 54) rfl rfl (by kernel_rfl) (by kernel_rfl) (by kernel_rfl) (fun _ _ _ h => h) (Or.inl ⟨by rfl, by rintro w' -; go_simp⟩) hS7 ?_
      simp only [Act.put, List.setIfInBounds_toArray, List.set_cons_zero, List.set_cons_succ]
      refine takeD (i := 4) (v := .int .i64 p) (some 55) rfl rfl (by kernel_rfl) (by kernel_rfl) (by kernel_rfl) (fun _ _ _ h => h) (Or.inl ⟨by rfl, by rintro w' h; have hc := ce_fw CX_4.out h; go_simp⟩) hS7 ?_
      simp only [Act.put, List.setIfInBounds_toArray, List.set_cons_zero, List.set_cons_succ]
      refine wpAnyH_ready (rs := [5]) (by kernel_rfl) (by simp) ?_
      refine AllReadyH.cons rfl (fun K8 hK8 => ?_) AllReadyH.nil
      have HK8 := Lib.hid hK8
      clear hK8
      rw [if_pos (by rfl)]
      go_simp
      refine (LK.out _).mono ?_
      rintro e x9 ⟨rfl, hb10⟩
      have R_11 := Lib.hid (rw_fw R_3.out (hb10))
      have CX_12 := Lib.hid (ce_fw CX_4.out (hb10))
      have hl13 := hb10
      have HT_14 : Hid (Below wr.heap.size wr x9) := Lib.hid (HT_6.out.trans ((hl13).mono HT_6.out.size))
      clear hb10 
      have hb16 : Below wz1.heap.size wz1 x9 := hl13
      have hS15 : (fun w' : World => Below wz1.heap.size wz1 w') x9 := hb16
      refine HK8.out _ _ hS15 fun _ => ?_
      try simp only [Act.put, List.setIfInBounds_toArray, List.set_cons_zero, List.set_cons_succ]
      refine wpAnyH_up (S' := (fun w' : World => Below x9.heap.size x9 w')) (fun w' h => hb16.trans (h.mono hb16.size)) ?_
      have hS17 : (fun w' : World => Below x9.heap.size x9 w') x9 := Below.refl _ _
      refine takeD (i := 6) (v := .tuple #[.int .i64 (x : Int), .int .i64 ((y : Int) + 1 + (k : Int)), .int .i64 (z : Int), .int .i64 0]) (some 50) rfl rfl (by kernel_rfl) (by kernel_rfl) (by kernel_rfl) (fun _ _ _ h => h) (Or.inl ⟨by rfl, by rintro w' -; go_simp⟩) hS17 ?_
      simp only [Act.put, List.setIfInBounds_toArray, List.set_cons_zero, List.set_cons_succ]
      refine takeD (i := 7) (v := .int .i64 (x : Int)) (some 57) rfl rfl (by kernel_rfl) (by kernel_rfl) (by kernel_rfl) (fun _ _ _ h => h) (Or.inl ⟨by rfl, by rintro w' -; go_simp⟩) hS17 ?_
      simp only [Act.put, List.setIfInBounds_toArray, List.set_cons_zero, List.set_cons_succ]
      refine takeD (i := 8) (v := .int .i64 ((y : Int) + 1 + (k : Int))) (some 58) rfl rfl (by kernel_rfl) (by kernel_rfl) (by kernel_rfl) (fun _ _ _ h => h) (Or.inl ⟨by rfl, by rintro w' -; go_simp⟩) hS17 ?_
      simp only [Act.put, List.setIfInBounds_toArray, List.set_cons_zero, List.set_cons_succ]
      refine takeD (i := 9) (v := .int .i64 (z : Int)) (some 59) rfl rfl (by kernel_rfl) (by kernel_rfl) (by kernel_rfl) (fun _ _ _ h => h) (Or.inl ⟨by rfl, by rintro w' -; go_simp⟩) hS17 ?_
      simp only [Act.put, List.setIfInBounds_toArray, List.set_cons_zero, List.set_cons_succ]
      refine takeD (i := 10) (v := .int .i64 0) (some 60) rfl rfl (by kernel_rfl) (by kernel_rfl) (by kernel_rfl) (fun _ _ _ h => h) (Or.inl ⟨by rfl, by rintro w' -; go_simp⟩) hS17 ?_
      simp only [Act.put, List.setIfInBounds_toArray, List.set_cons_zero, List.set_cons_succ]
      refine takeD (i := 11) (v := .int .i64 (x : Int)) (some 11) rfl rfl (by kernel_rfl) (by kernel_rfl) (by kernel_rfl) (fun _ _ _ h => h) (Or.inl ⟨by rfl, by rintro w' -; go_simp⟩) hS17 ?_
      simp only [Act.put, List.setIfInBounds_toArray, List.set_cons_zero, List.set_cons_succ]
      refine takeD (i := 12) (v := .int .i64 ((y : Int) + 1 + (k : Int))) (some 12) rfl rfl (by kernel_rfl) (by kernel_rfl) (by kernel_rfl) (fun _ _ _ h => h) (Or.inl ⟨by rfl, by rintro w' -; go_simp⟩) hS17 ?_
      simp only [Act.put, List.setIfInBounds_toArray, List.set_cons_zero, List.set_cons_succ]
      refine takeD (i := 13) (v := .int .i64 (z : Int)) (some 13) rfl rfl (by kernel_rfl) (by kernel_rfl) (by kernel_rfl) (fun _ _ _ h => h) (Or.inl ⟨by rfl, by rintro w' -; go_simp⟩) hS17 ?_
      simp only [Act.put, List.setIfInBounds_toArray, List.set_cons_zero, List.set_cons_succ]
      refine takeD (i := 14) (v := .int .i64 0) (some 14) rfl rfl (by kernel_rfl) (by kernel_rfl) (by kernel_rfl) (fun _ _ _ h => h) (Or.inl ⟨by rfl, by rintro w' -; go_simp⟩) hS17 ?_
      simp only [Act.put, List.setIfInBounds_toArray, List.set_cons_zero, List.set_cons_succ]
      refine wpAnyH_done (by kernel_rfl) ?_ _
      go_wp2_with fail
      go_roundw
      case rel => exact ⟨k + 1, by omega, by go_num, Lib.hid (V2.out.trans (HT_14.out.mono V2.out.size))⟩
      case measure => simp [intOf]; omega
    · obtain rfl : k = j := by omega
      have c2 := QR.out.cell 2
      have c4 := QR.out.cell 4
      simp only [List.getElem?_toArray, List.getElem?_cons_zero, List.getElem?_cons_succ] at c2 c4
      have DF := Lib.hid (D4.out.trans (V2.out.mono D4.out.size))
      clear V2
      go_wp2_with fail
      go_ret
      exact ⟨congrArg (fun t => Ending.returned (.bool t)) (by simp), DF.out⟩
theorem gorder_walk (r b t s o a : Int) (w : World) : Calls Try.prog 8 #[.agg #[.int .i64 r, .int .i64 b, .int .i64 t, .int .i64 s, .int .i64 o], .int .i64 a] w (lawPost w) := by
  by_cases h : Geo.GV r b t s o
  · have h' := h
    unfold Geo.GV at h'
    obtain ⟨R, rfl⟩ : ∃ n : Nat, r = n := ⟨r.toNat, by omega⟩
    obtain ⟨B, rfl⟩ : ∃ n : Nat, b = n := ⟨b.toNat, by omega⟩
    obtain ⟨T, rfl⟩ : ∃ n : Nat, t = n := ⟨t.toNat, by omega⟩
    obtain ⟨S, rfl⟩ : ∃ n : Nat, s = n := ⟨s.toNat, by omega⟩
    obtain ⟨O, rfl⟩ : ∃ n : Nat, o = n := ⟨o.toNat, by omega⟩
    clear h'
    by_cases ha : a < R ∨ ((R + B * (T * S) : Nat) : Int) ≤ a
    · exact gord_no _ _ _ _ _ a w h (Geo.loc_out h ha)
    · obtain ⟨n, rfl⟩ : ∃ n : Nat, a = ((R + n : Nat) : Int) := ⟨(a - R).toNat, by omega⟩
      exact gord_in R B T S O n w h (by omega)
  · exact gord_bad r b t s o a w h
end Go.Proofs.Ytgdhpcajiggnbaa
