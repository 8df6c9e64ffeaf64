/- Layer 10: the walks of GeometryAddress and GeometryInverse. WRITTEN BY gen_Ki.py. -/
import Derived.Test.YtgdhpcajiggnbaaKe
namespace Go.Proofs.Ytgdhpcajiggnbaa
open Go Go.RowKit
set_option linter.unusedVariables false
set_option linter.unusedSimpArgs false

set_option maxHeartbeats 4000000 in
set_option maxRecDepth 100000 in
theorem gaddress_walk (r b t s o x y z : Int) (w : World) : Calls Try.prog 5 #[.agg #[.int .i64 r, .int .i64 b, .int .i64 t, .int .i64 s, .int .i64 o], .agg #[.int .i64 x, .int .i64 y, .int .i64 z]] w (lawPost w) := by
  obtain ⟨q, hq⟩ : ∃ v, Geo.addr r b t s o x y z = v := ⟨_, rfl⟩
  have A1 := Lib.hid fun w => paddr_any r b t s o x y z w
  have A2 := Lib.hid fun w => raddr_any r b t s o x y z w
  rw [hq] at A1 A2
  clear hq
  obtain ⟨q1, q2⟩ := q
  obtain ⟨B0, hB0⟩ : ∃ B, w.heap.size = B := ⟨_, rfl⟩
  obtain ⟨W0, hW0⟩ : ∃ W, (w.alloc (.cells #[.int .i64 r, .int .i64 b, .int .i64 t, .int .i64 s, .int .i64 o] 23)).alloc (.cells #[.int .i64 x, .int .i64 y, .int .i64 z] 31) = W := ⟨_, rfl⟩
  have BW : Hid (Below w.heap.size w W0) := Lib.hid (by subst hW0; exact ((Below.refl _ _).alloc (Nat.le_refl _) _).alloc (by simp) _)
  have R0 : Hid (Row W0 B0 23 #[.int .i64 r, .int .i64 b, .int .i64 t, .int .i64 s, .int .i64 o]) := Lib.hid (by subst hW0 hB0; exact rw_fw (gr_new w _ _ rfl) ((Below.refl _ _).alloc (Nat.le_refl _) _))
  have Q0 : Hid (Row W0 (B0 + 1) 31 #[.int .i64 x, .int .i64 y, .int .i64 z]) := Lib.hid (by
    have := gr_new (w.alloc (.cells #[.int .i64 r, .int .i64 b, .int .i64 t, .int .i64 s, .int .i64 o] 23)) #[.int .i64 x, .int .i64 y, .int .i64 z] 31 rfl
    rw [World.size_alloc, hB0] at this
    subst hW0; exact this)
  have c0 := R0.out.cell 0
  have c1 := R0.out.cell 1
  have c2 := R0.out.cell 2
  have c3 := R0.out.cell 3
  have c4 := R0.out.cell 4
  have p0 := Q0.out.cell 0
  have p1 := Q0.out.cell 1
  have p2 := Q0.out.cell 2
  simp only [List.getElem?_toArray, List.getElem?_cons_zero, List.getElem?_cons_succ] at c0 c1 c2 c3 c4 p0 p1 p2
  have HB0 := Lib.hid hB0
  have HW0 := Lib.hid hW0
  clear hB0 hW0
  go_enter Try.func5, Try.ntmps5
  go_wp2_with (first | rw [HB0.out] | rw [HW0.out])
  refine (A1.out _).mono ?_
  rintro e w1 ⟨rfl, hb⟩
  replace c0 := ce_fw c0 hb
  replace c1 := ce_fw c1 hb
  replace c2 := ce_fw c2 hb
  replace c3 := ce_fw c3 hb
  replace c4 := ce_fw c4 hb
  replace p0 := ce_fw p0 hb
  replace p1 := ce_fw p1 hb
  replace p2 := ce_fw p2 hb
  have B1 := Lib.hid (BW.out.trans (hb.mono BW.out.size))
  clear hb
  go_wp2_with fail
  refine (A2.out _).mono ?_
  rintro e w2 ⟨rfl, hb⟩
  have B2 := Lib.hid (B1.out.trans (hb.mono B1.out.size))
  clear hb c0 c1 c2 c3 c4 p0 p1 p2
  go_wp2_with fail
  refine (awake10 _).mono ?_
  rintro e w3 ⟨rfl, hb⟩
  have B3 := Lib.hid (B2.out.trans (hb.mono B2.out.size))
  clear hb
  go_wp2_with fail
  go_ret
  exact ⟨congrArg (fun t => Ending.returned (.bool t)) (by simp), B3.out⟩
set_option maxHeartbeats 4000000 in
set_option maxRecDepth 100000 in
theorem ginv_bad (r b t s o a : Int) (w : World) (h : ¬ Geo.GV r b t s o) : Calls Try.prog 7 #[.agg #[.int .i64 r, .int .i64 b, .int .i64 t, .int .i64 s, .int .i64 o], .int .i64 a] w (lawPost w) := by
  have V := Lib.hid fun w => rvalid_any r b t s o w
  rw [decide_eq_false h] at V
  clear h
  obtain ⟨B0, hB0⟩ : ∃ B, w.heap.size = B := ⟨_, rfl⟩
  obtain ⟨W0, hW0⟩ : ∃ W, w.alloc (.cells #[.int .i64 r, .int .i64 b, .int .i64 t, .int .i64 s, .int .i64 o] 23) = W := ⟨_, rfl⟩
  have BW : Hid (Below w.heap.size w W0) := Lib.hid (by subst hW0; exact (Below.refl _ _).alloc (Nat.le_refl _) _)
  have R0 : Hid (Row W0 B0 23 #[.int .i64 r, .int .i64 b, .int .i64 t, .int .i64 s, .int .i64 o]) := Lib.hid (by subst hW0; exact gr_new w _ _ hB0)
  have c0 := R0.out.cell 0
  have c1 := R0.out.cell 1
  have c2 := R0.out.cell 2
  have c3 := R0.out.cell 3
  have c4 := R0.out.cell 4
  simp only [List.getElem?_toArray, List.getElem?_cons_zero, List.getElem?_cons_succ] at c0 c1 c2 c3 c4
  have HB0 := Lib.hid hB0
  have HW0 := Lib.hid hW0
  clear hB0 hW0
  go_enter Try.func7, Try.ntmps7
  go_wp2_with (first | rw [HB0.out] | rw [HW0.out])
  refine (awake10 _).mono ?_
  rintro e x1 ⟨rfl, hb⟩
  replace c0 := ce_fw c0 hb
  replace c1 := ce_fw c1 hb
  replace c2 := ce_fw c2 hb
  replace c3 := ce_fw c3 hb
  replace c4 := ce_fw c4 hb
  have D1 := Lib.hid (BW.out.trans (hb.mono BW.out.size))
  clear hb
  go_wp2_with fail
  refine (V.out _).mono ?_
  rintro e x2 ⟨rfl, hb⟩
  replace c0 := ce_fw c0 hb
  replace c1 := ce_fw c1 hb
  replace c2 := ce_fw c2 hb
  replace c3 := ce_fw c3 hb
  replace c4 := ce_fw c4 hb
  have D2 := Lib.hid (D1.out.trans (hb.mono D1.out.size))
  clear hb
  go_wp2_with fail
  refine (awake10 _).mono ?_
  rintro e x3 ⟨rfl, hb⟩
  replace c0 := ce_fw c0 hb
  replace c1 := ce_fw c1 hb
  replace c2 := ce_fw c2 hb
  replace c3 := ce_fw c3 hb
  replace c4 := ce_fw c4 hb
  have D3 := Lib.hid (D2.out.trans (hb.mono D2.out.size))
  clear hb
  go_wp2_with fail
  go_ret
  exact ⟨rfl, D3.out⟩

set_option maxHeartbeats 4000000 in
set_option maxRecDepth 100000 in
theorem ginv_neg (r b t s o a : Int) (w : World) (h : Geo.GV r b t s o) (h0 : a < 0) : Calls Try.prog 7 #[.agg #[.int .i64 r, .int .i64 b, .int .i64 t, .int .i64 s, .int .i64 o], .int .i64 a] w (lawPost w) := by
  have V := Lib.hid fun w => rvalid_any r b t s o w
  rw [decide_eq_true h] at V
  clear h
  have d : decide (a < (0 : Int)) = true := decide_eq_true h0
  obtain ⟨B0, hB0⟩ : ∃ B, w.heap.size = B := ⟨_, rfl⟩
  obtain ⟨W0, hW0⟩ : ∃ W, w.alloc (.cells #[.int .i64 r, .int .i64 b, .int .i64 t, .int .i64 s, .int .i64 o] 23) = W := ⟨_, rfl⟩
  have BW : Hid (Below w.heap.size w W0) := Lib.hid (by subst hW0; exact (Below.refl _ _).alloc (Nat.le_refl _) _)
  have R0 : Hid (Row W0 B0 23 #[.int .i64 r, .int .i64 b, .int .i64 t, .int .i64 s, .int .i64 o]) := Lib.hid (by subst hW0; exact gr_new w _ _ hB0)
  have c0 := R0.out.cell 0
  have c1 := R0.out.cell 1
  have c2 := R0.out.cell 2
  have c3 := R0.out.cell 3
  have c4 := R0.out.cell 4
  simp only [List.getElem?_toArray, List.getElem?_cons_zero, List.getElem?_cons_succ] at c0 c1 c2 c3 c4
  have HB0 := Lib.hid hB0
  have HW0 := Lib.hid hW0
  clear hB0 hW0
  go_enter Try.func7, Try.ntmps7
  go_wp2_with (first | rw [HB0.out] | rw [HW0.out])
  refine (awake10 _).mono ?_
  rintro e x1 ⟨rfl, hb⟩
  replace c0 := ce_fw c0 hb
  replace c1 := ce_fw c1 hb
  replace c2 := ce_fw c2 hb
  replace c3 := ce_fw c3 hb
  replace c4 := ce_fw c4 hb
  have D1 := Lib.hid (BW.out.trans (hb.mono BW.out.size))
  clear hb
  go_wp2_with fail
  refine (V.out _).mono ?_
  rintro e x2 ⟨rfl, hb⟩
  replace c0 := ce_fw c0 hb
  replace c1 := ce_fw c1 hb
  replace c2 := ce_fw c2 hb
  replace c3 := ce_fw c3 hb
  replace c4 := ce_fw c4 hb
  have D2 := Lib.hid (D1.out.trans (hb.mono D1.out.size))
  clear hb
  go_wp2_with fail
  refine (awake10 _).mono ?_
  rintro e x3 ⟨rfl, hb⟩
  replace c0 := ce_fw c0 hb
  replace c1 := ce_fw c1 hb
  replace c2 := ce_fw c2 hb
  replace c3 := ce_fw c3 hb
  replace c4 := ce_fw c4 hb
  have D3 := Lib.hid (D2.out.trans (hb.mono D2.out.size))
  clear hb
  go_wp2_with fail
  go_ret
  exact ⟨rfl, D3.out⟩

set_option maxHeartbeats 4000000 in
set_option maxRecDepth 100000 in
theorem ginv_high (r b t s o a : Int) (w : World) (h : Geo.GV r b t s o) (h0 : ¬ a < 0) (z : Int) (hz : Geo.size r b t s o = z) (h1 : z ≤ a) : Calls Try.prog 7 #[.agg #[.int .i64 r, .int .i64 b, .int .i64 t, .int .i64 s, .int .i64 o], .int .i64 a] w (lawPost w) := by
  have V := Lib.hid fun w => rvalid_any r b t s o w
  have Z := Lib.hid fun w => rsize_any r b t s o w
  rw [decide_eq_true h] at V
  rw [hz] at Z
  clear h hz
  have d : decide (a < (0 : Int)) = false := decide_eq_false h0
  have d1 : decide (z ≤ a) = true := decide_eq_true h1
  obtain ⟨B0, hB0⟩ : ∃ B, w.heap.size = B := ⟨_, rfl⟩
  obtain ⟨W0, hW0⟩ : ∃ W, w.alloc (.cells #[.int .i64 r, .int .i64 b, .int .i64 t, .int .i64 s, .int .i64 o] 23) = W := ⟨_, rfl⟩
  have BW : Hid (Below w.heap.size w W0) := Lib.hid (by subst hW0; exact (Below.refl _ _).alloc (Nat.le_refl _) _)
  have R0 : Hid (Row W0 B0 23 #[.int .i64 r, .int .i64 b, .int .i64 t, .int .i64 s, .int .i64 o]) := Lib.hid (by subst hW0; exact gr_new w _ _ hB0)
  have c0 := R0.out.cell 0
  have c1 := R0.out.cell 1
  have c2 := R0.out.cell 2
  have c3 := R0.out.cell 3
  have c4 := R0.out.cell 4
  simp only [List.getElem?_toArray, List.getElem?_cons_zero, List.getElem?_cons_succ] at c0 c1 c2 c3 c4
  have HB0 := Lib.hid hB0
  have HW0 := Lib.hid hW0
  clear hB0 hW0
  go_enter Try.func7, Try.ntmps7
  go_wp2_with (first | rw [HB0.out] | rw [HW0.out])
  refine (awake10 _).mono ?_
  rintro e x1 ⟨rfl, hb⟩
  replace c0 := ce_fw c0 hb
  replace c1 := ce_fw c1 hb
  replace c2 := ce_fw c2 hb
  replace c3 := ce_fw c3 hb
  replace c4 := ce_fw c4 hb
  have D1 := Lib.hid (BW.out.trans (hb.mono BW.out.size))
  clear hb
  go_wp2_with fail
  refine (V.out _).mono ?_
  rintro e x2 ⟨rfl, hb⟩
  replace c0 := ce_fw c0 hb
  replace c1 := ce_fw c1 hb
  replace c2 := ce_fw c2 hb
  replace c3 := ce_fw c3 hb
  replace c4 := ce_fw c4 hb
  have D2 := Lib.hid (D1.out.trans (hb.mono D1.out.size))
  clear hb
  go_wp2_with fail
  refine (Z.out _).mono ?_
  rintro e x3 ⟨rfl, hb⟩
  replace c0 := ce_fw c0 hb
  replace c1 := ce_fw c1 hb
  replace c2 := ce_fw c2 hb
  replace c3 := ce_fw c3 hb
  replace c4 := ce_fw c4 hb
  have D3 := Lib.hid (D2.out.trans (hb.mono D2.out.size))
  clear hb
  go_wp2_with fail
  refine (awake10 _).mono ?_
  rintro e x4 ⟨rfl, hb⟩
  replace c0 := ce_fw c0 hb
  replace c1 := ce_fw c1 hb
  replace c2 := ce_fw c2 hb
  replace c3 := ce_fw c3 hb
  replace c4 := ce_fw c4 hb
  have D4 := Lib.hid (D3.out.trans (hb.mono D3.out.size))
  clear hb
  go_wp2_with fail
  go_ret
  exact ⟨rfl, D4.out⟩

set_option maxHeartbeats 4000000 in
set_option maxRecDepth 100000 in
theorem ginv_rand (r b t s o a : Int) (w : World) (h : Geo.GV r b t s o) (h0 : ¬ a < 0) (z : Int) (hz : Geo.size r b t s o = z) (h1 : ¬ z ≤ a) (h2 : a < r) : Calls Try.prog 7 #[.agg #[.int .i64 r, .int .i64 b, .int .i64 t, .int .i64 s, .int .i64 o], .int .i64 a] w (lawPost w) := by
  have V := Lib.hid fun w => rvalid_any r b t s o w
  have Z := Lib.hid fun w => rsize_any r b t s o w
  have L := Lib.hid fun w => ploc_any r b t s o a w
  have U := Lib.hid fun w => prand_any r b t s o a w
  rw [show Geo.loc r b t s o a = (0, 0, 0, 2) by unfold Geo.loc; rw [if_pos h, if_neg (by omega)]] at L
  rw [show Geo.rand r b t s o a = true from decide_eq_true ⟨h, by omega, h2⟩] at U
  rw [decide_eq_true h] at V
  rw [hz] at Z
  unfold locV at L
  clear h hz
  have d : decide (a < (0 : Int)) = false := decide_eq_false h0
  have d1 : decide (z ≤ a) = false := decide_eq_false h1
  obtain ⟨B0, hB0⟩ : ∃ B, w.heap.size = B := ⟨_, rfl⟩
  obtain ⟨W0, hW0⟩ : ∃ W, w.alloc (.cells #[.int .i64 r, .int .i64 b, .int .i64 t, .int .i64 s, .int .i64 o] 23) = W := ⟨_, rfl⟩
  have BW : Hid (Below w.heap.size w W0) := Lib.hid (by subst hW0; exact (Below.refl _ _).alloc (Nat.le_refl _) _)
  have R0 : Hid (Row W0 B0 23 #[.int .i64 r, .int .i64 b, .int .i64 t, .int .i64 s, .int .i64 o]) := Lib.hid (by subst hW0; exact gr_new w _ _ hB0)
  have c0 := R0.out.cell 0
  have c1 := R0.out.cell 1
  have c2 := R0.out.cell 2
  have c3 := R0.out.cell 3
  have c4 := R0.out.cell 4
  simp only [List.getElem?_toArray, List.getElem?_cons_zero, List.getElem?_cons_succ] at c0 c1 c2 c3 c4
  have HB0 := Lib.hid hB0
  have HW0 := Lib.hid hW0
  clear hB0 hW0
  go_enter Try.func7, Try.ntmps7
  go_wp2_with (first | rw [HB0.out] | rw [HW0.out])
  refine (awake10 _).mono ?_
  rintro e x1 ⟨rfl, hb⟩
  replace c0 := ce_fw c0 hb
  replace c1 := ce_fw c1 hb
  replace c2 := ce_fw c2 hb
  replace c3 := ce_fw c3 hb
  replace c4 := ce_fw c4 hb
  have D1 := Lib.hid (BW.out.trans (hb.mono BW.out.size))
  clear hb
  go_wp2_with fail
  refine (V.out _).mono ?_
  rintro e x2 ⟨rfl, hb⟩
  replace c0 := ce_fw c0 hb
  replace c1 := ce_fw c1 hb
  replace c2 := ce_fw c2 hb
  replace c3 := ce_fw c3 hb
  replace c4 := ce_fw c4 hb
  have D2 := Lib.hid (D1.out.trans (hb.mono D1.out.size))
  clear hb
  go_wp2_with fail
  refine (Z.out _).mono ?_
  rintro e x3 ⟨rfl, hb⟩
  replace c0 := ce_fw c0 hb
  replace c1 := ce_fw c1 hb
  replace c2 := ce_fw c2 hb
  replace c3 := ce_fw c3 hb
  replace c4 := ce_fw c4 hb
  have D3 := Lib.hid (D2.out.trans (hb.mono D2.out.size))
  clear hb
  go_wp2_with fail
  refine (L.out _).mono ?_
  rintro e x4 ⟨rfl, hb⟩
  replace c0 := ce_fw c0 hb
  replace c1 := ce_fw c1 hb
  replace c2 := ce_fw c2 hb
  replace c3 := ce_fw c3 hb
  replace c4 := ce_fw c4 hb
  have D4 := Lib.hid (D3.out.trans (hb.mono D3.out.size))
  clear hb
  go_wp2_with fail
  refine (U.out _).mono ?_
  rintro e x5 ⟨rfl, hb⟩
  replace c0 := ce_fw c0 hb
  replace c1 := ce_fw c1 hb
  replace c2 := ce_fw c2 hb
  replace c3 := ce_fw c3 hb
  replace c4 := ce_fw c4 hb
  have D5 := Lib.hid (D4.out.trans (hb.mono D4.out.size))
  clear hb
  go_wp2_with fail
  go_ret
  exact ⟨rfl, D5.out⟩

set_option maxHeartbeats 4000000 in
set_option maxRecDepth 100000 in
theorem ginv_in (r b t s o a : Int) (w : World) (h : Geo.GV r b t s o) (h0 : ¬ a < 0) (z : Int) (hz : Geo.size r b t s o = z) (h1 : ¬ z ≤ a) (h2 : ¬ a < r) (x y p : Int) (hl : Geo.loc r b t s o a = (x, y, p, 0)) (ha : Geo.addr r b t s o x y p = (a, 0)) : Calls Try.prog 7 #[.agg #[.int .i64 r, .int .i64 b, .int .i64 t, .int .i64 s, .int .i64 o], .int .i64 a] w (lawPost w) := by
  have V := Lib.hid fun w => rvalid_any r b t s o w
  have Z := Lib.hid fun w => rsize_any r b t s o w
  have L := Lib.hid fun w => ploc_any r b t s o a w
  have U := Lib.hid fun w => prand_any r b t s o a w
  have A := Lib.hid fun w => paddr_any r b t s o x y p w
  rw [hl] at L
  rw [ha] at A
  rw [show Geo.rand r b t s o a = false from decide_eq_false fun h => h2 h.2.2] at U
  rw [decide_eq_true h] at V
  rw [hz] at Z
  unfold locV at L
  clear h hz hl ha
  have d : decide (a < (0 : Int)) = false := decide_eq_false h0
  have d1 : decide (z ≤ a) = false := decide_eq_false h1
  obtain ⟨B0, hB0⟩ : ∃ B, w.heap.size = B := ⟨_, rfl⟩
  obtain ⟨W0, hW0⟩ : ∃ W, w.alloc (.cells #[.int .i64 r, .int .i64 b, .int .i64 t, .int .i64 s, .int .i64 o] 23) = W := ⟨_, rfl⟩
  have BW : Hid (Below w.heap.size w W0) := Lib.hid (by subst hW0; exact (Below.refl _ _).alloc (Nat.le_refl _) _)
  have R0 : Hid (Row W0 B0 23 #[.int .i64 r, .int .i64 b, .int .i64 t, .int .i64 s, .int .i64 o]) := Lib.hid (by subst hW0; exact gr_new w _ _ hB0)
  have c0 := R0.out.cell 0
  have c1 := R0.out.cell 1
  have c2 := R0.out.cell 2
  have c3 := R0.out.cell 3
  have c4 := R0.out.cell 4
  simp only [List.getElem?_toArray, List.getElem?_cons_zero, List.getElem?_cons_succ] at c0 c1 c2 c3 c4
  have HB0 := Lib.hid hB0
  have HW0 := Lib.hid hW0
  clear hB0 hW0
  go_enter Try.func7, Try.ntmps7
  go_wp2_with (first | rw [HB0.out] | rw [HW0.out])
  refine (awake10 _).mono ?_
  rintro e x1 ⟨rfl, hb⟩
  replace c0 := ce_fw c0 hb
  replace c1 := ce_fw c1 hb
  replace c2 := ce_fw c2 hb
  replace c3 := ce_fw c3 hb
  replace c4 := ce_fw c4 hb
  have D1 := Lib.hid (BW.out.trans (hb.mono BW.out.size))
  clear hb
  go_wp2_with fail
  refine (V.out _).mono ?_
  rintro e x2 ⟨rfl, hb⟩
  replace c0 := ce_fw c0 hb
  replace c1 := ce_fw c1 hb
  replace c2 := ce_fw c2 hb
  replace c3 := ce_fw c3 hb
  replace c4 := ce_fw c4 hb
  have D2 := Lib.hid (D1.out.trans (hb.mono D1.out.size))
  clear hb
  go_wp2_with fail
  refine (Z.out _).mono ?_
  rintro e x3 ⟨rfl, hb⟩
  replace c0 := ce_fw c0 hb
  replace c1 := ce_fw c1 hb
  replace c2 := ce_fw c2 hb
  replace c3 := ce_fw c3 hb
  replace c4 := ce_fw c4 hb
  have D3 := Lib.hid (D2.out.trans (hb.mono D2.out.size))
  clear hb
  go_wp2_with fail
  refine (L.out _).mono ?_
  rintro e x4 ⟨rfl, hb⟩
  replace c0 := ce_fw c0 hb
  replace c1 := ce_fw c1 hb
  replace c2 := ce_fw c2 hb
  replace c3 := ce_fw c3 hb
  replace c4 := ce_fw c4 hb
  have D4 := Lib.hid (D3.out.trans (hb.mono D3.out.size))
  clear hb
  go_wp2_with fail
  refine (U.out _).mono ?_
  rintro e x5 ⟨rfl, hb⟩
  replace c0 := ce_fw c0 hb
  replace c1 := ce_fw c1 hb
  replace c2 := ce_fw c2 hb
  replace c3 := ce_fw c3 hb
  replace c4 := ce_fw c4 hb
  have D5 := Lib.hid (D4.out.trans (hb.mono D4.out.size))
  clear hb
  go_wp2_with fail
  refine (A.out _).mono ?_
  rintro e x6 ⟨rfl, hb⟩
  replace c0 := ce_fw c0 hb
  replace c1 := ce_fw c1 hb
  replace c2 := ce_fw c2 hb
  replace c3 := ce_fw c3 hb
  replace c4 := ce_fw c4 hb
  have D6 := Lib.hid (D5.out.trans (hb.mono D5.out.size))
  clear hb
  go_wp2_with fail
  go_ret
  exact ⟨congrArg (fun t => Ending.returned (.bool t)) (by simp), D6.out⟩

theorem ginverse_walk (r b t s o a : Int) (w : World) : Calls Try.prog 7 #[.agg #[.int .i64 r, .int .i64 b, .int .i64 t, .int .i64 s, .int .i64 o], .int .i64 a] w (lawPost w) := by
  by_cases h : Geo.GV r b t s o
  · by_cases h0 : a < 0
    · exact ginv_neg r b t s o a w h h0
    have h' := h
    unfold Geo.GV at h'
    obtain ⟨R, rfl⟩ : ∃ n : Nat, r = n := ⟨r.toNat, by omega⟩
    obtain ⟨B, rfl⟩ : ∃ n : Nat, b = n := ⟨b.toNat, by omega⟩
    obtain ⟨T, rfl⟩ : ∃ n : Nat, t = n := ⟨t.toNat, by omega⟩
    obtain ⟨S, rfl⟩ : ∃ n : Nat, s = n := ⟨s.toNat, by omega⟩
    obtain ⟨O, rfl⟩ : ∃ n : Nat, o = n := ⟨o.toNat, by omega⟩
    clear h'
    have hz := Geo.size_nat h
    by_cases h1 : ((R + B * (T * S) : Nat) : Int) ≤ a
    · exact ginv_high _ _ _ _ _ a w h h0 _ hz h1
    by_cases h2 : a < (R : Int)
    · exact ginv_rand _ _ _ _ _ a w h h0 _ hz h1 h2
    obtain ⟨n, rfl⟩ : ∃ n : Nat, a = ((R + n : Nat) : Int) := ⟨(a - R).toNat, by omega⟩
    have hn : n < B * (T * S) := by omega
    have hg := Geo.gv_nat h
    have ha := Geo.addr_in h (Geo.div_lt hn) (Nat.mod_lt (n / S) (show T > 0 by omega)) (Nat.mod_lt n (show S > 0 by omega))
    rw [Geo.parts] at ha
    exact ginv_in _ _ _ _ _ _ w h h0 _ hz h1 h2 _ _ _ (Geo.loc_in h hn) ha
  · exact ginv_bad r b t s o a w h
end Go.Proofs.Ytgdhpcajiggnbaa
