/- Laws MediaOps, MediaClone. WRITTEN BY gen_Mdm.py. -/
import Derived.Test.YtkaklgdjlanigaaMdl
namespace Go.Proofs.Ytkaklgdjlanigaa
open Go Go.RowKit Med
set_option linter.unusedVariables false
set_option linter.unusedSimpArgs false

theorem geo_cells {w : World} {g : Nat} {t : TypeId} {a b c d e : Value} (h : Row w g t #[a, b, c, d, e]) : w.cell? ⟨g, 0, none⟩ = some a ∧ w.cell? ⟨g, 1, none⟩ = some b ∧ w.cell? ⟨g, 2, none⟩ = some c ∧ w.cell? ⟨g, 3, none⟩ = some d ∧ w.cell? ⟨g, 4, none⟩ = some e := by
  refine ⟨?_, ?_, ?_, ?_, ?_⟩ <;> (rw [h.cell]; rfl)
theorem Geo.fair_nat {r b t s o : Int} (h : Geo.fair r b t s o) : ∃ R B T S O : Nat, r = R ∧ b = B ∧ t = T ∧ s = S ∧ o = O := by
  obtain ⟨h, -⟩ := h
  unfold Geo.GV at h
  exact ⟨r.toNat, b.toNat, t.toNat, s.toNat, o.toNat, by omega, by omega, by omega, by omega, by omega⟩
set_option maxHeartbeats 4000000 in
set_option maxRecDepth 100000 in
theorem medops_no (r b t s o : Int) (v : Value) (L : List Med.Op) (w : World) (h : Ols w v L) (hf : ¬ Geo.fair r b t s o) : Calls Try.prog 3 #[.agg #[.int .i64 r, .int .i64 b, .int .i64 t, .int .i64 s, .int .i64 o], v] w (lawPost w) := by
  obtain ⟨A, cc, rfl⟩ := h.form
  have HO := Lib.hid h
  clear h
  generalize L.length = n at *
  obtain ⟨B0, hB0⟩ : ∃ B, w.heap.size = B := ⟨_, rfl⟩
  obtain ⟨W0, hW0⟩ : ∃ W, w.alloc (.cells #[.int .i64 r, .int .i64 b, .int .i64 t, .int .i64 s, .int .i64 o] 23) = W := ⟨_, rfl⟩
  have T0 : Hid (Below w.heap.size w W0) := Lib.hid (by subst hW0; exact (Below.refl _ _).alloc (Nat.le_refl _) _)
  have G0 : Hid (Row W0 B0 23 #[.int .i64 r, .int .i64 b, .int .i64 t, .int .i64 s, .int .i64 o]) := Lib.hid (by subst hW0; exact gr_new w _ _ hB0)
  have HB0 := Lib.hid hB0
  have HW0 := Lib.hid hW0
  clear hB0 hW0
  go_enter Try.func3, Try.ntmps3

  go_wp2_with (first | rw [HB0.out] | rw [HW0.out])
  refine (awake11 _).mono ?_
  rintro e x1 ⟨rfl, hb2⟩
  have G_3 := Lib.hid (rw_fw G0.out (hb2))
  have hl4 := hb2
  have HT_5 : Hid (Below w.heap.size w x1) := Lib.hid (T0.out.trans ((hl4).mono T0.out.size))
  clear hb2 
  go_wp2_with fail
  refine (short_any (.slice A n cc) L _ (HO.out.fw HT_5.out)).mono ?_
  rintro e w' ⟨bb, rfl, rfl⟩
  cases bb with
  | false =>
    go_wp2_with fail
    refine (awake11 _).mono ?_
    rintro e x6 ⟨rfl, hb7⟩
    have G_8 := Lib.hid (rw_fw G_3.out (hb7))
    have hl9 := hb7
    have HT_10 : Hid (Below w.heap.size w x6) := Lib.hid (HT_5.out.trans ((hl9).mono HT_5.out.size))
    clear hb7 
    go_wp2_with fail
    go_ret
    exact ⟨rfl, HT_10.out⟩
  | true =>
    obtain ⟨c0, c1, c2, c3, c4⟩ := geo_cells G_3.out
    go_wp2_with fail
    clear c0 c1 c2 c3 c4
    refine (rvalid_any r b t s o _).mono ?_
    rintro e x6 ⟨rfl, hb7⟩
    have G_8 := Lib.hid (rw_fw G_3.out (hb7))
    have hl9 := hb7
    have HT_10 : Hid (Below w.heap.size w x6) := Lib.hid (HT_5.out.trans ((hl9).mono HT_5.out.size))
    clear hb7 
    by_cases hv : Geo.GV r b t s o
    · rw [decide_eq_true hv]
      obtain ⟨c0, c1, c2, c3, c4⟩ := geo_cells G_8.out
      go_wp2_with fail
      clear c0 c1 c2 c3 c4
      refine (fair_any r b t s o _).mono ?_
      rintro e x11 ⟨rfl, hb12⟩
      have G_13 := Lib.hid (rw_fw G_8.out (hb12))
      have hl14 := hb12
      have HT_15 : Hid (Below w.heap.size w x11) := Lib.hid (HT_10.out.trans ((hl14).mono HT_10.out.size))
      clear hb12 
      rw [decide_eq_false hf]
      go_wp2_with fail
      refine (awake11 _).mono ?_
      rintro e x16 ⟨rfl, hb17⟩
      have G_18 := Lib.hid (rw_fw G_13.out (hb17))
      have hl19 := hb17
      have HT_20 : Hid (Below w.heap.size w x16) := Lib.hid (HT_15.out.trans ((hl19).mono HT_15.out.size))
      clear hb17 
      go_wp2_with fail
      go_ret
      exact ⟨rfl, HT_20.out⟩
    · rw [decide_eq_false hv]
      obtain ⟨c0, c1, c2, c3, c4⟩ := geo_cells G_8.out
      go_wp2_with fail
      clear c0 c1 c2 c3 c4
      refine (pnew_bad r b t s o _ hv).mono ?_
      rintro e x11 ⟨rfl, hb12⟩
      have G_13 := Lib.hid (rw_fw G_8.out (hb12))
      have hl14 := hb12
      have HT_15 : Hid (Below w.heap.size w x11) := Lib.hid (HT_10.out.trans ((hl14).mono HT_10.out.size))
      clear hb12 
      obtain ⟨c0, c1, c2, c3, c4⟩ := geo_cells G_13.out
      go_wp2_with fail
      clear c0 c1 c2 c3 c4
      refine (rnew_bad r b t s o _ hv).mono ?_
      rintro e x16 ⟨rfl, hb17⟩
      have G_18 := Lib.hid (rw_fw G_13.out (hb17))
      have hl19 := hb17
      have HT_20 : Hid (Below w.heap.size w x16) := Lib.hid (HT_15.out.trans ((hl19).mono HT_15.out.size))
      clear hb17 
      go_wp2_with fail
      go_ret
      exact ⟨rfl, HT_20.out⟩
set_option maxHeartbeats 4000000 in
set_option maxRecDepth 100000 in
theorem medops_yes (R B T S O : Nat) (v : Value) (L : List Med.Op) (w : World) (h : Ols w v L) (hf : Geo.fair (R : Int) B T S O) : Calls Try.prog 3 #[.agg #[.int .i64 (R : Int), .int .i64 (B : Int), .int .i64 (T : Int), .int .i64 (S : Int), .int .i64 (O : Int)], v] w (lawPost w) := by
  obtain ⟨A, cc, rfl⟩ := h.form
  have HO := Lib.hid h
  clear h
  generalize L.length = n at *
  have HV := Lib.hid hf.1
  obtain ⟨B0, hB0⟩ : ∃ B, w.heap.size = B := ⟨_, rfl⟩
  obtain ⟨W0, hW0⟩ : ∃ W, w.alloc (.cells #[.int .i64 (R : Int), .int .i64 (B : Int), .int .i64 (T : Int), .int .i64 (S : Int), .int .i64 (O : Int)] 23) = W := ⟨_, rfl⟩
  have T0 : Hid (Below w.heap.size w W0) := Lib.hid (by subst hW0; exact (Below.refl _ _).alloc (Nat.le_refl _) _)
  have G0 : Hid (Row W0 B0 23 #[.int .i64 (R : Int), .int .i64 (B : Int), .int .i64 (T : Int), .int .i64 (S : Int), .int .i64 (O : Int)]) := Lib.hid (by subst hW0; exact gr_new w _ _ hB0)
  have HB0 := Lib.hid hB0
  have HW0 := Lib.hid hW0
  clear hB0 hW0
  go_enter Try.func3, Try.ntmps3

  go_wp2_with (first | rw [HB0.out] | rw [HW0.out])
  refine (awake11 _).mono ?_
  rintro e x1 ⟨rfl, hb2⟩
  have G_3 := Lib.hid (rw_fw G0.out (hb2))
  have hl4 := hb2
  have HT_5 : Hid (Below w.heap.size w x1) := Lib.hid (T0.out.trans ((hl4).mono T0.out.size))
  clear hb2 
  go_wp2_with fail
  refine (short_any (.slice A n cc) L _ (HO.out.fw HT_5.out)).mono ?_
  rintro e w' ⟨bb, rfl, rfl⟩
  cases bb with
  | false =>
    go_wp2_with fail
    refine (awake11 _).mono ?_
    rintro e x6 ⟨rfl, hb7⟩
    have G_8 := Lib.hid (rw_fw G_3.out (hb7))
    have hl9 := hb7
    have HT_10 : Hid (Below w.heap.size w x6) := Lib.hid (HT_5.out.trans ((hl9).mono HT_5.out.size))
    clear hb7 
    go_wp2_with fail
    go_ret
    exact ⟨rfl, HT_10.out⟩
  | true =>
    obtain ⟨c0, c1, c2, c3, c4⟩ := geo_cells G_3.out
    go_wp2_with fail
    clear c0 c1 c2 c3 c4
    refine (rvalid_any (R : Int) B T S O _).mono ?_
    rintro e x6 ⟨rfl, hb7⟩
    have G_8 := Lib.hid (rw_fw G_3.out (hb7))
    have hl9 := hb7
    have HT_10 : Hid (Below w.heap.size w x6) := Lib.hid (HT_5.out.trans ((hl9).mono HT_5.out.size))
    clear hb7 
    rw [decide_eq_true hf.1]
    obtain ⟨c0, c1, c2, c3, c4⟩ := geo_cells G_8.out
    go_wp2_with fail
    clear c0 c1 c2 c3 c4
    refine (fair_any (R : Int) B T S O _).mono ?_
    rintro e x11 ⟨rfl, hb12⟩
    have G_13 := Lib.hid (rw_fw G_8.out (hb12))
    have hl14 := hb12
    have HT_15 : Hid (Below w.heap.size w x11) := Lib.hid (HT_10.out.trans ((hl14).mono HT_10.out.size))
    clear hb12 
    rw [decide_eq_true hf]
    clear hf
    obtain ⟨c0, c1, c2, c3, c4⟩ := geo_cells G_13.out
    go_wp2_with fail
    clear c0 c1 c2 c3 c4
    refine (pnew_ok R B T S O _ HV.out).mono ?_
    rintro e x17 ⟨M, X, rfl, hn19, hx16, hb18⟩
    have QP := Lib.hid (show w.heap.size ≤ M ∧ w.heap.size ≤ X ∧ B0 < M ∧ B0 < X from ⟨Nat.le_trans HT_15.out.size hx16.1, Nat.le_trans HT_15.out.size hx16.2, Nat.lt_of_lt_of_le G_13.out.lt hx16.1, Nat.lt_of_lt_of_le G_13.out.lt hx16.2⟩)
    have G_20 := Lib.hid (rw_fw G_13.out (hb18))
    have hl21 := hb18
    have HT_22 : Hid (Below w.heap.size w x17) := Lib.hid (HT_15.out.trans ((hl21).mono HT_15.out.size))
    have P_23 := Lib.hid (hn19)
    clear hb18 hn19
    clear hx16
    obtain ⟨c0, c1, c2, c3, c4⟩ := geo_cells G_20.out
    go_wp2_with fail
    clear c0 c1 c2 c3 c4
    refine (rnew_ok R B T S O _ HV.out).mono ?_
    rintro e x25 ⟨M', X', rfl, hn27, hx24, hb26⟩
    have QR := Lib.hid (show w.heap.size ≤ M' ∧ w.heap.size ≤ X' ∧ B0 < M' ∧ B0 < X' from ⟨Nat.le_trans HT_22.out.size hx24.1, Nat.le_trans HT_22.out.size hx24.2, Nat.lt_of_lt_of_le G_20.out.lt hx24.1, Nat.lt_of_lt_of_le G_20.out.lt hx24.2⟩)
    have G_28 := Lib.hid (rw_fw G_20.out (hb26))
    have P_29 := Lib.hid (Md.fw P_23.out (hb26))
    have hl30 := hb26
    have HT_31 : Hid (Below w.heap.size w x25) := Lib.hid (HT_22.out.trans ((hl30).mono HT_22.out.size))
    have R_32 := Lib.hid (hn27)
    clear hb26 hn27
    clear hx24
    go_wp2_with fail
    refine (play_any (.slice A n cc) L P_29.out R_32.out HO.out HT_31.out QP.out.2.1 QR.out.2.1).mono ?_
    rintro e x33 ⟨rfl, hp, hr, hc⟩
    have HT_34 : Hid (Below w.heap.size w x33) := Lib.hid (HT_31.out.trans (hc.below HT_31.out.size (fun j hj => by rcases hj with rfl | rfl; exact QP.out.2.1; exact QR.out.2.1)))
    have P_35 := Lib.hid hp
    have R_36 := Lib.hid hr
    clear hp hr hc
    go_wp2_with fail
    refine (same_any P_35.out R_36.out).mono ?_
    rintro e x37 ⟨rfl, hb38⟩
    have P_39 := Lib.hid (Md.fw P_35.out (hb38))
    have R_40 := Lib.hid (Md.fw R_36.out (hb38))
    have hl41 := hb38
    have HT_42 : Hid (Below w.heap.size w x37) := Lib.hid (HT_34.out.trans ((hl41).mono HT_34.out.size))
    clear hb38 
    go_wp2_with fail
    go_ret
    exact ⟨rfl, HT_42.out⟩
theorem medops_walk (r b t s o : Int) (v : Value) (L : List Med.Op) (w : World) (h : Ols w v L) : Calls Try.prog 3 #[.agg #[.int .i64 r, .int .i64 b, .int .i64 t, .int .i64 s, .int .i64 o], v] w (lawPost w) := by
  by_cases hf : Geo.fair r b t s o
  · obtain ⟨R, B, T, S, O, rfl, rfl, rfl, rfl, rfl⟩ := Geo.fair_nat hf
    exact medops_yes R B T S O v L w h hf
  · exact medops_no r b t s o v L w h hf
set_option maxHeartbeats 4000000 in
set_option maxRecDepth 100000 in
theorem medcl_no (r b t s o : Int) (v v2 : Value) (L L2 : List Med.Op) (w : World) (h : Ols w v L) (h2 : Ols w v2 L2) (hf : ¬ Geo.fair r b t s o) : Calls Try.prog 4 #[.agg #[.int .i64 r, .int .i64 b, .int .i64 t, .int .i64 s, .int .i64 o], v, v2] w (lawPost w) := by
  obtain ⟨A, cc, rfl⟩ := h.form
  have HO := Lib.hid h
  clear h
  obtain ⟨A2, cc2, rfl⟩ := h2.form
  have HO2 := Lib.hid h2
  clear h2
  generalize L.length = n at *
  generalize L2.length = n2 at *
  obtain ⟨B0, hB0⟩ : ∃ B, w.heap.size = B := ⟨_, rfl⟩
  obtain ⟨W0, hW0⟩ : ∃ W, w.alloc (.cells #[.int .i64 r, .int .i64 b, .int .i64 t, .int .i64 s, .int .i64 o] 23) = W := ⟨_, rfl⟩
  have T0 : Hid (Below w.heap.size w W0) := Lib.hid (by subst hW0; exact (Below.refl _ _).alloc (Nat.le_refl _) _)
  have G0 : Hid (Row W0 B0 23 #[.int .i64 r, .int .i64 b, .int .i64 t, .int .i64 s, .int .i64 o]) := Lib.hid (by subst hW0; exact gr_new w _ _ hB0)
  have HB0 := Lib.hid hB0
  have HW0 := Lib.hid hW0
  clear hB0 hW0
  go_enter Try.func4, Try.ntmps4

  go_wp2_with (first | rw [HB0.out] | rw [HW0.out])
  refine (awake11 _).mono ?_
  rintro e x1 ⟨rfl, hb2⟩
  have G_3 := Lib.hid (rw_fw G0.out (hb2))
  have hl4 := hb2
  have HT_5 : Hid (Below w.heap.size w x1) := Lib.hid (T0.out.trans ((hl4).mono T0.out.size))
  clear hb2 
  go_wp2_with fail
  refine (short_any (.slice A n cc) L _ (HO.out.fw HT_5.out)).mono ?_
  rintro e w' ⟨bb, rfl, rfl⟩
  cases bb with
  | false =>
    go_wp2_with fail
    refine (awake11 _).mono ?_
    rintro e x6 ⟨rfl, hb7⟩
    have G_8 := Lib.hid (rw_fw G_3.out (hb7))
    have hl9 := hb7
    have HT_10 : Hid (Below w.heap.size w x6) := Lib.hid (HT_5.out.trans ((hl9).mono HT_5.out.size))
    clear hb7 
    go_wp2_with fail
    go_ret
    exact ⟨rfl, HT_10.out⟩
  | true =>
    obtain ⟨c0, c1, c2, c3, c4⟩ := geo_cells G_3.out
    go_wp2_with fail
    clear c0 c1 c2 c3 c4
    refine (short_any (.slice A2 n2 cc2) L2 _ (HO2.out.fw HT_5.out)).mono ?_
    rintro e w' ⟨bb, rfl, rfl⟩
    cases bb with
    | false =>
      go_wp2_with fail
      refine (awake11 _).mono ?_
      rintro e x6 ⟨rfl, hb7⟩
      have G_8 := Lib.hid (rw_fw G_3.out (hb7))
      have hl9 := hb7
      have HT_10 : Hid (Below w.heap.size w x6) := Lib.hid (HT_5.out.trans ((hl9).mono HT_5.out.size))
      clear hb7 
      go_wp2_with fail
      go_ret
      exact ⟨rfl, HT_10.out⟩
    | true =>
      obtain ⟨c0, c1, c2, c3, c4⟩ := geo_cells G_3.out
      go_wp2_with fail
      clear c0 c1 c2 c3 c4
      refine (fair_any r b t s o _).mono ?_
      rintro e x6 ⟨rfl, hb7⟩
      have G_8 := Lib.hid (rw_fw G_3.out (hb7))
      have hl9 := hb7
      have HT_10 : Hid (Below w.heap.size w x6) := Lib.hid (HT_5.out.trans ((hl9).mono HT_5.out.size))
      clear hb7 
      rw [decide_eq_false hf]
      go_wp2_with fail
      refine (awake11 _).mono ?_
      rintro e x11 ⟨rfl, hb12⟩
      have G_13 := Lib.hid (rw_fw G_8.out (hb12))
      have hl14 := hb12
      have HT_15 : Hid (Below w.heap.size w x11) := Lib.hid (HT_10.out.trans ((hl14).mono HT_10.out.size))
      clear hb12 
      go_wp2_with fail
      go_ret
      exact ⟨rfl, HT_15.out⟩
set_option maxHeartbeats 4000000 in
set_option maxRecDepth 100000 in
theorem medcl_yes (R B T S O : Nat) (v v2 : Value) (L L2 : List Med.Op) (w : World) (h : Ols w v L) (h2 : Ols w v2 L2) (hf : Geo.fair (R : Int) B T S O) : Calls Try.prog 4 #[.agg #[.int .i64 (R : Int), .int .i64 (B : Int), .int .i64 (T : Int), .int .i64 (S : Int), .int .i64 (O : Int)], v, v2] w (lawPost w) := by
  obtain ⟨A, cc, rfl⟩ := h.form
  have HO := Lib.hid h
  clear h
  obtain ⟨A2, cc2, rfl⟩ := h2.form
  have HO2 := Lib.hid h2
  clear h2
  generalize L.length = n at *
  generalize L2.length = n2 at *
  have HV := Lib.hid hf.1
  obtain ⟨B0, hB0⟩ : ∃ B, w.heap.size = B := ⟨_, rfl⟩
  obtain ⟨W0, hW0⟩ : ∃ W, w.alloc (.cells #[.int .i64 (R : Int), .int .i64 (B : Int), .int .i64 (T : Int), .int .i64 (S : Int), .int .i64 (O : Int)] 23) = W := ⟨_, rfl⟩
  have T0 : Hid (Below w.heap.size w W0) := Lib.hid (by subst hW0; exact (Below.refl _ _).alloc (Nat.le_refl _) _)
  have G0 : Hid (Row W0 B0 23 #[.int .i64 (R : Int), .int .i64 (B : Int), .int .i64 (T : Int), .int .i64 (S : Int), .int .i64 (O : Int)]) := Lib.hid (by subst hW0; exact gr_new w _ _ hB0)
  have HB0 := Lib.hid hB0
  have HW0 := Lib.hid hW0
  clear hB0 hW0
  go_enter Try.func4, Try.ntmps4

  go_wp2_with (first | rw [HB0.out] | rw [HW0.out])
  refine (awake11 _).mono ?_
  rintro e x1 ⟨rfl, hb2⟩
  have G_3 := Lib.hid (rw_fw G0.out (hb2))
  have hl4 := hb2
  have HT_5 : Hid (Below w.heap.size w x1) := Lib.hid (T0.out.trans ((hl4).mono T0.out.size))
  clear hb2 
  go_wp2_with fail
  refine (short_any (.slice A n cc) L _ (HO.out.fw HT_5.out)).mono ?_
  rintro e w' ⟨bb, rfl, rfl⟩
  cases bb with
  | false =>
    go_wp2_with fail
    refine (awake11 _).mono ?_
    rintro e x6 ⟨rfl, hb7⟩
    have G_8 := Lib.hid (rw_fw G_3.out (hb7))
    have hl9 := hb7
    have HT_10 : Hid (Below w.heap.size w x6) := Lib.hid (HT_5.out.trans ((hl9).mono HT_5.out.size))
    clear hb7 
    go_wp2_with fail
    go_ret
    exact ⟨rfl, HT_10.out⟩
  | true =>
    obtain ⟨c0, c1, c2, c3, c4⟩ := geo_cells G_3.out
    go_wp2_with fail
    clear c0 c1 c2 c3 c4
    refine (short_any (.slice A2 n2 cc2) L2 _ (HO2.out.fw HT_5.out)).mono ?_
    rintro e w' ⟨bb, rfl, rfl⟩
    cases bb with
    | false =>
      go_wp2_with fail
      refine (awake11 _).mono ?_
      rintro e x6 ⟨rfl, hb7⟩
      have G_8 := Lib.hid (rw_fw G_3.out (hb7))
      have hl9 := hb7
      have HT_10 : Hid (Below w.heap.size w x6) := Lib.hid (HT_5.out.trans ((hl9).mono HT_5.out.size))
      clear hb7 
      go_wp2_with fail
      go_ret
      exact ⟨rfl, HT_10.out⟩
    | true =>
      obtain ⟨c0, c1, c2, c3, c4⟩ := geo_cells G_3.out
      go_wp2_with fail
      clear c0 c1 c2 c3 c4
      refine (fair_any (R : Int) B T S O _).mono ?_
      rintro e x6 ⟨rfl, hb7⟩
      have G_8 := Lib.hid (rw_fw G_3.out (hb7))
      have hl9 := hb7
      have HT_10 : Hid (Below w.heap.size w x6) := Lib.hid (HT_5.out.trans ((hl9).mono HT_5.out.size))
      clear hb7 
      rw [decide_eq_true hf]
      clear hf
      obtain ⟨c0, c1, c2, c3, c4⟩ := geo_cells G_8.out
      go_wp2_with fail
      clear c0 c1 c2 c3 c4
      refine (pnew_ok R B T S O _ HV.out).mono ?_
      rintro e x12 ⟨M, X, rfl, hn14, hx11, hb13⟩
      have QP := Lib.hid (show w.heap.size ≤ M ∧ w.heap.size ≤ X ∧ B0 < M ∧ B0 < X from ⟨Nat.le_trans HT_10.out.size hx11.1, Nat.le_trans HT_10.out.size hx11.2, Nat.lt_of_lt_of_le G_8.out.lt hx11.1, Nat.lt_of_lt_of_le G_8.out.lt hx11.2⟩)
      have G_15 := Lib.hid (rw_fw G_8.out (hb13))
      have hl16 := hb13
      have HT_17 : Hid (Below w.heap.size w x12) := Lib.hid (HT_10.out.trans ((hl16).mono HT_10.out.size))
      have P_18 := Lib.hid (hn14)
      clear hb13 hn14
      clear hx11
      obtain ⟨c0, c1, c2, c3, c4⟩ := geo_cells G_15.out
      go_wp2_with fail
      clear c0 c1 c2 c3 c4
      refine (rnew_ok R B T S O _ HV.out).mono ?_
      rintro e x20 ⟨M', X', rfl, hn22, hx19, hb21⟩
      have QR := Lib.hid (show w.heap.size ≤ M' ∧ w.heap.size ≤ X' ∧ B0 < M' ∧ B0 < X' from ⟨Nat.le_trans HT_17.out.size hx19.1, Nat.le_trans HT_17.out.size hx19.2, Nat.lt_of_lt_of_le G_15.out.lt hx19.1, Nat.lt_of_lt_of_le G_15.out.lt hx19.2⟩)
      have G_23 := Lib.hid (rw_fw G_15.out (hb21))
      have P_24 := Lib.hid (Md.fw P_18.out (hb21))
      have hl25 := hb21
      have HT_26 : Hid (Below w.heap.size w x20) := Lib.hid (HT_17.out.trans ((hl25).mono HT_17.out.size))
      have R_27 := Lib.hid (hn22)
      clear hb21 hn22
      clear hx19
      go_wp2_with fail
      refine (play_any (.slice A n cc) L P_24.out R_27.out HO.out HT_26.out QP.out.2.1 QR.out.2.1).mono ?_
      rintro e x28 ⟨rfl, hp, hr, hc⟩
      have HT_29 : Hid (Below w.heap.size w x28) := Lib.hid (HT_26.out.trans (hc.below HT_26.out.size (fun j hj => by rcases hj with rfl | rfl; exact QP.out.2.1; exact QR.out.2.1)))
      have P_30 := Lib.hid hp
      have R_31 := Lib.hid hr
      clear hp hr hc
      go_wp2_with fail
      refine (pcl_any P_30.out).mono ?_
      rintro e x33 ⟨Mc, Xc, ec, rfl, hn35, hx32, hb34⟩
      have QC := Lib.hid (show w.heap.size ≤ Mc ∧ w.heap.size ≤ Xc from ⟨Nat.le_trans HT_29.out.size hx32.1, Nat.le_trans HT_29.out.size hx32.2⟩)
      have NPC := Lib.hid (show M ≠ Xc ∧ X ≠ Xc ∧ M ≠ Mc ∧ X ≠ Mc from ⟨by have := P_30.out.row.lt; omega, by have := P_30.out.sx.lt; omega, by have := P_30.out.row.lt; omega, by have := P_30.out.sx.lt; omega⟩)
      have NRC := Lib.hid (show M' ≠ Xc ∧ X' ≠ Xc ∧ M' ≠ Mc ∧ X' ≠ Mc from ⟨by have := R_31.out.row.lt; omega, by have := R_31.out.sx.lt; omega, by have := R_31.out.row.lt; omega, by have := R_31.out.sx.lt; omega⟩)
      have P_36 := Lib.hid (Md.fw P_30.out (hb34))
      have R_37 := Lib.hid (Md.fw R_31.out (hb34))
      have hl38 := hb34
      have HT_39 : Hid (Below w.heap.size w x33) := Lib.hid (HT_29.out.trans ((hl38).mono HT_29.out.size))
      have C_40 := Lib.hid (hn35)
      clear hb34 hn35
      clear hx32
      go_wp2_with fail
      refine (rcl_any R_37.out).mono ?_
      rintro e x42 ⟨Md_, Xd, ed, rfl, hn44, hx41, hb43⟩
      have QD := Lib.hid (show w.heap.size ≤ Md_ ∧ w.heap.size ≤ Xd from ⟨Nat.le_trans HT_39.out.size hx41.1, Nat.le_trans HT_39.out.size hx41.2⟩)
      have NPD := Lib.hid (show M ≠ Xd ∧ X ≠ Xd ∧ M ≠ Md_ ∧ X ≠ Md_ from ⟨by have := P_36.out.row.lt; omega, by have := P_36.out.sx.lt; omega, by have := P_36.out.row.lt; omega, by have := P_36.out.sx.lt; omega⟩)
      have NRD := Lib.hid (show M' ≠ Xd ∧ X' ≠ Xd ∧ M' ≠ Md_ ∧ X' ≠ Md_ from ⟨by have := R_37.out.row.lt; omega, by have := R_37.out.sx.lt; omega, by have := R_37.out.row.lt; omega, by have := R_37.out.sx.lt; omega⟩)
      have NCD := Lib.hid (show Mc ≠ Xd ∧ Xc ≠ Xd ∧ Mc ≠ Md_ ∧ Xc ≠ Md_ from ⟨by have := C_40.out.row.lt; omega, by have := C_40.out.sx.lt; omega, by have := C_40.out.row.lt; omega, by have := C_40.out.sx.lt; omega⟩)
      have P_45 := Lib.hid (Md.fw P_36.out (hb43))
      have R_46 := Lib.hid (Md.fw R_37.out (hb43))
      have C_47 := Lib.hid (Md.fw C_40.out (hb43))
      have hl48 := hb43
      have HT_49 : Hid (Below w.heap.size w x42) := Lib.hid (HT_39.out.trans ((hl48).mono HT_39.out.size))
      have D_50 := Lib.hid (hn44)
      clear hb43 hn44
      clear hx41
      go_wp2_with fail
      refine (play_any (.slice A2 n2 cc2) L2 C_47.out D_50.out HO2.out HT_49.out QC.out.2 QD.out.2).mono ?_
      rintro e x51 ⟨rfl, hp, hr, hc⟩
      have HT_52 : Hid (Below w.heap.size w x51) := Lib.hid (HT_49.out.trans (hc.below HT_49.out.size (fun j hj => by rcases hj with rfl | rfl; exact QC.out.2; exact QD.out.2)))
      have P_53 := Lib.hid (P_45.out.chg hc (fun e => by rcases e with e | e; exact NPC.out.1 e; exact NPD.out.1 e) (fun e => by rcases e with e | e; exact NPC.out.2.1 e; exact NPD.out.2.1 e))
      have R_54 := Lib.hid (R_46.out.chg hc (fun e => by rcases e with e | e; exact NRC.out.1 e; exact NRD.out.1 e) (fun e => by rcases e with e | e; exact NRC.out.2.1 e; exact NRD.out.2.1 e))
      have C_55 := Lib.hid hp
      have D_56 := Lib.hid hr
      clear hp hr hc
      go_wp2_with fail
      refine (same_any P_53.out R_54.out).mono ?_
      rintro e x57 ⟨rfl, hb58⟩
      have P_59 := Lib.hid (Md.fw P_53.out (hb58))
      have R_60 := Lib.hid (Md.fw R_54.out (hb58))
      have C_61 := Lib.hid (Md.fw C_55.out (hb58))
      have D_62 := Lib.hid (Md.fw D_56.out (hb58))
      have hl63 := hb58
      have HT_64 : Hid (Below w.heap.size w x57) := Lib.hid (HT_52.out.trans ((hl63).mono HT_52.out.size))
      clear hb58 
      go_wp2_with fail
      refine (play_any (.slice A n cc) L P_59.out R_60.out HO.out HT_64.out QP.out.2.1 QR.out.2.1).mono ?_
      rintro e x65 ⟨rfl, hp, hr, hc⟩
      have HT_66 : Hid (Below w.heap.size w x65) := Lib.hid (HT_64.out.trans (hc.below HT_64.out.size (fun j hj => by rcases hj with rfl | rfl; exact QP.out.2.1; exact QR.out.2.1)))
      have C_67 := Lib.hid (C_61.out.chg hc (fun e => by rcases e with e | e; exact NPC.out.2.2.2 e.symm; exact NRC.out.2.2.2 e.symm) (fun e => by rcases e with e | e; exact NPC.out.2.1 e.symm; exact NRC.out.2.1 e.symm))
      have D_68 := Lib.hid (D_62.out.chg hc (fun e => by rcases e with e | e; exact NPD.out.2.2.2 e.symm; exact NRD.out.2.2.2 e.symm) (fun e => by rcases e with e | e; exact NPD.out.2.1 e.symm; exact NRD.out.2.1 e.symm))
      have P_69 := Lib.hid hp
      have R_70 := Lib.hid hr
      clear hp hr hc
      go_wp2_with fail
      refine (same_any C_67.out D_68.out).mono ?_
      rintro e x71 ⟨rfl, hb72⟩
      have P_73 := Lib.hid (Md.fw P_69.out (hb72))
      have R_74 := Lib.hid (Md.fw R_70.out (hb72))
      have C_75 := Lib.hid (Md.fw C_67.out (hb72))
      have D_76 := Lib.hid (Md.fw D_68.out (hb72))
      have hl77 := hb72
      have HT_78 : Hid (Below w.heap.size w x71) := Lib.hid (HT_66.out.trans ((hl77).mono HT_66.out.size))
      clear hb72 
      go_wp2_with fail
      refine (same_any P_73.out R_74.out).mono ?_
      rintro e x79 ⟨rfl, hb80⟩
      have P_81 := Lib.hid (Md.fw P_73.out (hb80))
      have R_82 := Lib.hid (Md.fw R_74.out (hb80))
      have C_83 := Lib.hid (Md.fw C_75.out (hb80))
      have D_84 := Lib.hid (Md.fw D_76.out (hb80))
      have hl85 := hb80
      have HT_86 : Hid (Below w.heap.size w x79) := Lib.hid (HT_78.out.trans ((hl85).mono HT_78.out.size))
      clear hb80 
      go_wp2_with fail
      go_ret
      exact ⟨rfl, HT_86.out⟩
theorem medcl_walk (r b t s o : Int) (v v2 : Value) (L L2 : List Med.Op) (w : World) (h : Ols w v L) (h2 : Ols w v2 L2) : Calls Try.prog 4 #[.agg #[.int .i64 r, .int .i64 b, .int .i64 t, .int .i64 s, .int .i64 o], v, v2] w (lawPost w) := by
  by_cases hf : Geo.fair r b t s o
  · obtain ⟨R, B, T, S, O, rfl, rfl, rfl, rfl, rfl⟩ := Geo.fair_nat hf
    exact medcl_yes R B T S O v v2 L L2 w h h2 hf
  · exact medcl_no r b t s o v v2 L L2 w h h2 hf
end Go.Proofs.Ytkaklgdjlanigaa
