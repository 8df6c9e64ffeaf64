/- The program's Random, Address. WRITTEN BY gen_Kpb.py. -/
import Derived.Test.YtbaclcpnnompnaaKpa
namespace Go.Proofs.Ytbaclcpnnompnaa
open Go Go.RowKit
set_option linter.unusedVariables false
set_option linter.unusedSimpArgs false
set_option maxHeartbeats 4000000 in
set_option maxRecDepth 100000 in
theorem paddr_bad (r b t s o x y z : Int) (w : World) (h : ¬ Geo.GV r b t s o) : Calls Try.prog 54 #[.agg #[.int .i64 r, .int .i64 b, .int .i64 t, .int .i64 s, .int .i64 o], .int .i64 x, .int .i64 y, .int .i64 z] w (gPost (.tuple #[.int .i64 0, .int .i64 1]) w) := by
  obtain ⟨B0, hB0⟩ : ∃ B, w.heap.size = B := ⟨_, rfl⟩
  obtain ⟨W0, hW0⟩ : ∃ W, w.alloc (.cells #[.int .i64 r, .int .i64 b, .int .i64 t, .int .i64 s, .int .i64 o] 23) = W := ⟨_, rfl⟩
  have BW : Hid (Below w.heap.size w W0) := Lib.hid (by subst hW0; exact (Below.refl _ _).alloc (Nat.le_refl _) _)
  have R0 : Hid (Row W0 B0 23 #[.int .i64 r, .int .i64 b, .int .i64 t, .int .i64 s, .int .i64 o]) := Lib.hid (by subst hW0; exact gr_new w _ _ hB0)
  have c0 := R0.out.cell 0
  have c1 := R0.out.cell 1
  have c2 := R0.out.cell 2
  have c3 := R0.out.cell 3
  have c4 := R0.out.cell 4
  simp only [List.getElem?_toArray, List.getElem?_cons_zero, List.getElem?_cons_succ] at c0 c1 c2 c3 c4
  have HB0 := Lib.hid hB0
  have HW0 := Lib.hid hW0
  clear hB0 hW0
  go_enter Try.func54, Try.ntmps54
  go_wp2_with (first | rw [HB0.out] | rw [HW0.out])
  refine (pvalid_any r b t s o W0).mono ?_
  rintro e w1 ⟨rfl, hb⟩
  replace c0 := ce_fw c0 hb
  replace c1 := ce_fw c1 hb
  replace c2 := ce_fw c2 hb
  replace c3 := ce_fw c3 hb
  replace c4 := ce_fw c4 hb
  have B1 := Lib.hid (BW.out.trans (hb.mono BW.out.size))
  clear hb
  rw [decide_eq_false h]
  clear h
  go_wp2_with fail
  go_ret2
  exact ⟨rfl, B1.out⟩
set_option maxHeartbeats 4000000 in
set_option maxRecDepth 100000 in
theorem paddr_o0 (r b t s o x y z : Int) (w : World) (h : Geo.GV r b t s o)  (h0 : ¬ (0 ≤ x ∧ x < b)) : Calls Try.prog 54 #[.agg #[.int .i64 r, .int .i64 b, .int .i64 t, .int .i64 s, .int .i64 o], .int .i64 x, .int .i64 y, .int .i64 z] w (gPost (.tuple #[.int .i64 0, .int .i64 2]) w) := by
  have Q0 := Lib.hid (decide_eq_false h0)
  obtain ⟨B0, hB0⟩ : ∃ B, w.heap.size = B := ⟨_, rfl⟩
  obtain ⟨W0, hW0⟩ : ∃ W, w.alloc (.cells #[.int .i64 r, .int .i64 b, .int .i64 t, .int .i64 s, .int .i64 o] 23) = W := ⟨_, rfl⟩
  have BW : Hid (Below w.heap.size w W0) := Lib.hid (by subst hW0; exact (Below.refl _ _).alloc (Nat.le_refl _) _)
  have R0 : Hid (Row W0 B0 23 #[.int .i64 r, .int .i64 b, .int .i64 t, .int .i64 s, .int .i64 o]) := Lib.hid (by subst hW0; exact gr_new w _ _ hB0)
  have c0 := R0.out.cell 0
  have c1 := R0.out.cell 1
  have c2 := R0.out.cell 2
  have c3 := R0.out.cell 3
  have c4 := R0.out.cell 4
  simp only [List.getElem?_toArray, List.getElem?_cons_zero, List.getElem?_cons_succ] at c0 c1 c2 c3 c4
  have HB0 := Lib.hid hB0
  have HW0 := Lib.hid hW0
  clear hB0 hW0
  go_enter Try.func54, Try.ntmps54
  go_wp2_with (first | rw [HB0.out] | rw [HW0.out])
  refine (pvalid_any r b t s o W0).mono ?_
  rintro e w1 ⟨rfl, hb⟩
  replace c0 := ce_fw c0 hb
  replace c1 := ce_fw c1 hb
  replace c2 := ce_fw c2 hb
  replace c3 := ce_fw c3 hb
  replace c4 := ce_fw c4 hb
  have B1 := Lib.hid (BW.out.trans (hb.mono BW.out.size))
  clear hb
  rw [decide_eq_true h]
  clear h h0
  go_wp2_with fail
  refine (below_any x b w1).mono ?_
  rw [Q0.out]
  rintro e w2 ⟨rfl, hb⟩
  replace c0 := ce_fw c0 hb
  replace c1 := ce_fw c1 hb
  replace c2 := ce_fw c2 hb
  replace c3 := ce_fw c3 hb
  replace c4 := ce_fw c4 hb
  have B2 := Lib.hid (B1.out.trans (hb.mono B1.out.size))
  clear hb
  go_wp2_with fail
  go_ret2
  exact ⟨rfl, B2.out⟩
set_option maxHeartbeats 4000000 in
set_option maxRecDepth 100000 in
theorem paddr_o1 (r b t s o x y z : Int) (w : World) (h : Geo.GV r b t s o) (h0 : (0 ≤ x ∧ x < b)) (h1 : ¬ (0 ≤ y ∧ y < t)) : Calls Try.prog 54 #[.agg #[.int .i64 r, .int .i64 b, .int .i64 t, .int .i64 s, .int .i64 o], .int .i64 x, .int .i64 y, .int .i64 z] w (gPost (.tuple #[.int .i64 0, .int .i64 2]) w) := by
  have Q0 := Lib.hid (decide_eq_true h0)
  have Q1 := Lib.hid (decide_eq_false h1)
  obtain ⟨B0, hB0⟩ : ∃ B, w.heap.size = B := ⟨_, rfl⟩
  obtain ⟨W0, hW0⟩ : ∃ W, w.alloc (.cells #[.int .i64 r, .int .i64 b, .int .i64 t, .int .i64 s, .int .i64 o] 23) = W := ⟨_, rfl⟩
  have BW : Hid (Below w.heap.size w W0) := Lib.hid (by subst hW0; exact (Below.refl _ _).alloc (Nat.le_refl _) _)
  have R0 : Hid (Row W0 B0 23 #[.int .i64 r, .int .i64 b, .int .i64 t, .int .i64 s, .int .i64 o]) := Lib.hid (by subst hW0; exact gr_new w _ _ hB0)
  have c0 := R0.out.cell 0
  have c1 := R0.out.cell 1
  have c2 := R0.out.cell 2
  have c3 := R0.out.cell 3
  have c4 := R0.out.cell 4
  simp only [List.getElem?_toArray, List.getElem?_cons_zero, List.getElem?_cons_succ] at c0 c1 c2 c3 c4
  have HB0 := Lib.hid hB0
  have HW0 := Lib.hid hW0
  clear hB0 hW0
  go_enter Try.func54, Try.ntmps54
  go_wp2_with (first | rw [HB0.out] | rw [HW0.out])
  refine (pvalid_any r b t s o W0).mono ?_
  rintro e w1 ⟨rfl, hb⟩
  replace c0 := ce_fw c0 hb
  replace c1 := ce_fw c1 hb
  replace c2 := ce_fw c2 hb
  replace c3 := ce_fw c3 hb
  replace c4 := ce_fw c4 hb
  have B1 := Lib.hid (BW.out.trans (hb.mono BW.out.size))
  clear hb
  rw [decide_eq_true h]
  clear h h0 h1
  go_wp2_with fail
  refine (below_any x b w1).mono ?_
  rw [Q0.out]
  rintro e w2 ⟨rfl, hb⟩
  replace c0 := ce_fw c0 hb
  replace c1 := ce_fw c1 hb
  replace c2 := ce_fw c2 hb
  replace c3 := ce_fw c3 hb
  replace c4 := ce_fw c4 hb
  have B2 := Lib.hid (B1.out.trans (hb.mono B1.out.size))
  clear hb
  go_wp2_with fail
  refine (below_any y t w2).mono ?_
  rw [Q1.out]
  rintro e w3 ⟨rfl, hb⟩
  replace c0 := ce_fw c0 hb
  replace c1 := ce_fw c1 hb
  replace c2 := ce_fw c2 hb
  replace c3 := ce_fw c3 hb
  replace c4 := ce_fw c4 hb
  have B3 := Lib.hid (B2.out.trans (hb.mono B2.out.size))
  clear hb
  go_wp2_with fail
  go_ret2
  exact ⟨rfl, B3.out⟩
set_option maxHeartbeats 4000000 in
set_option maxRecDepth 100000 in
theorem paddr_o2 (r b t s o x y z : Int) (w : World) (h : Geo.GV r b t s o) (h0 : (0 ≤ x ∧ x < b)) (h1 : (0 ≤ y ∧ y < t)) (h2 : ¬ (0 ≤ z ∧ z < s)) : Calls Try.prog 54 #[.agg #[.int .i64 r, .int .i64 b, .int .i64 t, .int .i64 s, .int .i64 o], .int .i64 x, .int .i64 y, .int .i64 z] w (gPost (.tuple #[.int .i64 0, .int .i64 2]) w) := by
  have Q0 := Lib.hid (decide_eq_true h0)
  have Q1 := Lib.hid (decide_eq_true h1)
  have Q2 := Lib.hid (decide_eq_false h2)
  obtain ⟨B0, hB0⟩ : ∃ B, w.heap.size = B := ⟨_, rfl⟩
  obtain ⟨W0, hW0⟩ : ∃ W, w.alloc (.cells #[.int .i64 r, .int .i64 b, .int .i64 t, .int .i64 s, .int .i64 o] 23) = W := ⟨_, rfl⟩
  have BW : Hid (Below w.heap.size w W0) := Lib.hid (by subst hW0; exact (Below.refl _ _).alloc (Nat.le_refl _) _)
  have R0 : Hid (Row W0 B0 23 #[.int .i64 r, .int .i64 b, .int .i64 t, .int .i64 s, .int .i64 o]) := Lib.hid (by subst hW0; exact gr_new w _ _ hB0)
  have c0 := R0.out.cell 0
  have c1 := R0.out.cell 1
  have c2 := R0.out.cell 2
  have c3 := R0.out.cell 3
  have c4 := R0.out.cell 4
  simp only [List.getElem?_toArray, List.getElem?_cons_zero, List.getElem?_cons_succ] at c0 c1 c2 c3 c4
  have HB0 := Lib.hid hB0
  have HW0 := Lib.hid hW0
  clear hB0 hW0
  go_enter Try.func54, Try.ntmps54
  go_wp2_with (first | rw [HB0.out] | rw [HW0.out])
  refine (pvalid_any r b t s o W0).mono ?_
  rintro e w1 ⟨rfl, hb⟩
  replace c0 := ce_fw c0 hb
  replace c1 := ce_fw c1 hb
  replace c2 := ce_fw c2 hb
  replace c3 := ce_fw c3 hb
  replace c4 := ce_fw c4 hb
  have B1 := Lib.hid (BW.out.trans (hb.mono BW.out.size))
  clear hb
  rw [decide_eq_true h]
  clear h h0 h1 h2
  go_wp2_with fail
  refine (below_any x b w1).mono ?_
  rw [Q0.out]
  rintro e w2 ⟨rfl, hb⟩
  replace c0 := ce_fw c0 hb
  replace c1 := ce_fw c1 hb
  replace c2 := ce_fw c2 hb
  replace c3 := ce_fw c3 hb
  replace c4 := ce_fw c4 hb
  have B2 := Lib.hid (B1.out.trans (hb.mono B1.out.size))
  clear hb
  go_wp2_with fail
  refine (below_any y t w2).mono ?_
  rw [Q1.out]
  rintro e w3 ⟨rfl, hb⟩
  replace c0 := ce_fw c0 hb
  replace c1 := ce_fw c1 hb
  replace c2 := ce_fw c2 hb
  replace c3 := ce_fw c3 hb
  replace c4 := ce_fw c4 hb
  have B3 := Lib.hid (B2.out.trans (hb.mono B2.out.size))
  clear hb
  go_wp2_with fail
  refine (below_any z s w3).mono ?_
  rw [Q2.out]
  rintro e w4 ⟨rfl, hb⟩
  replace c0 := ce_fw c0 hb
  replace c1 := ce_fw c1 hb
  replace c2 := ce_fw c2 hb
  replace c3 := ce_fw c3 hb
  replace c4 := ce_fw c4 hb
  have B4 := Lib.hid (B3.out.trans (hb.mono B3.out.size))
  clear hb
  go_wp2_with fail
  go_ret2
  exact ⟨rfl, B4.out⟩
set_option maxHeartbeats 4000000 in
set_option maxRecDepth 100000 in
theorem paddr_in (r b t s o x y z : Int) (w : World) (h : Geo.GV r b t s o) (h0 : (0 ≤ x ∧ x < b)) (h1 : (0 ≤ y ∧ y < t)) (h2 : (0 ≤ z ∧ z < s)) : Calls Try.prog 54 #[.agg #[.int .i64 r, .int .i64 b, .int .i64 t, .int .i64 s, .int .i64 o], .int .i64 x, .int .i64 y, .int .i64 z] w (gPost (.tuple #[.int .i64 (r + (x * t + y) * s + z), .int .i64 0]) w) := by
  obtain ⟨q, hq⟩ : ∃ q, r + (x * t + y) * s + z = q := ⟨_, rfl⟩
  rw [hq]
  have Q0 := Lib.hid (decide_eq_true h0)
  have Q1 := Lib.hid (decide_eq_true h1)
  have Q2 := Lib.hid (decide_eq_true h2)
  obtain ⟨B0, hB0⟩ : ∃ B, w.heap.size = B := ⟨_, rfl⟩
  obtain ⟨W0, hW0⟩ : ∃ W, w.alloc (.cells #[.int .i64 r, .int .i64 b, .int .i64 t, .int .i64 s, .int .i64 o] 23) = W := ⟨_, rfl⟩
  have BW : Hid (Below w.heap.size w W0) := Lib.hid (by subst hW0; exact (Below.refl _ _).alloc (Nat.le_refl _) _)
  have R0 : Hid (Row W0 B0 23 #[.int .i64 r, .int .i64 b, .int .i64 t, .int .i64 s, .int .i64 o]) := Lib.hid (by subst hW0; exact gr_new w _ _ hB0)
  have c0 := R0.out.cell 0
  have c1 := R0.out.cell 1
  have c2 := R0.out.cell 2
  have c3 := R0.out.cell 3
  have c4 := R0.out.cell 4
  simp only [List.getElem?_toArray, List.getElem?_cons_zero, List.getElem?_cons_succ] at c0 c1 c2 c3 c4
  have HB0 := Lib.hid hB0
  have HW0 := Lib.hid hW0
  clear hB0 hW0
  go_enter Try.func54, Try.ntmps54
  go_wp2_with (first | rw [HB0.out] | rw [HW0.out])
  refine (pvalid_any r b t s o W0).mono ?_
  rintro e w1 ⟨rfl, hb⟩
  replace c0 := ce_fw c0 hb
  replace c1 := ce_fw c1 hb
  replace c2 := ce_fw c2 hb
  replace c3 := ce_fw c3 hb
  replace c4 := ce_fw c4 hb
  have B1 := Lib.hid (BW.out.trans (hb.mono BW.out.size))
  clear hb
  rw [decide_eq_true h]
  unfold Geo.GV at h
  have b1 := gm (t := x) (s := t) (a := 64) (c := 16) (by omega) (by omega) (by omega) (by omega)
  obtain ⟨p1, hp1⟩ : ∃ p, x * t = p := ⟨_, rfl⟩
  rw [hp1] at b1 hq
  have b2 := gm (t := p1 + y) (s := s) (a := 1040) (c := 64) (by omega) (by omega) (by omega) (by omega)
  obtain ⟨p2, hp2⟩ : ∃ p, (p1 + y) * s = p := ⟨_, rfl⟩
  rw [hp2] at b2 hq
  go_wp2_with fail
  refine (below_any x b w1).mono ?_
  rw [Q0.out]
  rintro e w2 ⟨rfl, hb⟩
  replace c0 := ce_fw c0 hb
  replace c1 := ce_fw c1 hb
  replace c2 := ce_fw c2 hb
  replace c3 := ce_fw c3 hb
  replace c4 := ce_fw c4 hb
  have B2 := Lib.hid (B1.out.trans (hb.mono B1.out.size))
  clear hb
  go_wp2_with fail
  refine (below_any y t w2).mono ?_
  rw [Q1.out]
  rintro e w3 ⟨rfl, hb⟩
  replace c0 := ce_fw c0 hb
  replace c1 := ce_fw c1 hb
  replace c2 := ce_fw c2 hb
  replace c3 := ce_fw c3 hb
  replace c4 := ce_fw c4 hb
  have B3 := Lib.hid (B2.out.trans (hb.mono B2.out.size))
  clear hb
  go_wp2_with fail
  refine (below_any z s w3).mono ?_
  rw [Q2.out]
  rintro e w4 ⟨rfl, hb⟩
  replace c0 := ce_fw c0 hb
  replace c1 := ce_fw c1 hb
  replace c2 := ce_fw c2 hb
  replace c3 := ce_fw c3 hb
  replace c4 := ce_fw c4 hb
  have B4 := Lib.hid (B3.out.trans (hb.mono B3.out.size))
  clear hb
  go_wp2_with fail
  go_ret2
  exact ⟨by rw [← hq]; first | rfl | (simp; done), B4.out⟩
theorem paddr_any (r b t s o x y z : Int) (w : World) : Calls Try.prog 54 #[.agg #[.int .i64 r, .int .i64 b, .int .i64 t, .int .i64 s, .int .i64 o], .int .i64 x, .int .i64 y, .int .i64 z] w (gPost (.tuple #[.int .i64 (Geo.addr r b t s o x y z).1, .int .i64 (Geo.addr r b t s o x y z).2]) w) := by
  by_cases h : ¬ Geo.GV r b t s o
  · rw [Geo.addr_bad h]; exact paddr_bad r b t s o x y z w h
  replace h := Decidable.not_not.1 h
  by_cases h0 : ¬ (0 ≤ x ∧ x < b)
  · rw [Geo.addr_out h (by omega)]; exact paddr_o0 r b t s o x y z w h h0
  replace h0 := Decidable.not_not.1 h0
  by_cases h1 : ¬ (0 ≤ y ∧ y < t)
  · rw [Geo.addr_out h (by omega)]; exact paddr_o1 r b t s o x y z w h h0 h1
  replace h1 := Decidable.not_not.1 h1
  by_cases h2 : ¬ (0 ≤ z ∧ z < s)
  · rw [Geo.addr_out h (by omega)]; exact paddr_o2 r b t s o x y z w h h0 h1 h2
  replace h2 := Decidable.not_not.1 h2
  have e : Geo.addr r b t s o x y z = (r + (x * t + y) * s + z, 0) := by unfold Geo.addr; rw [if_pos h, if_pos (by omega)]
  rw [e]; exact paddr_in r b t s o x y z w h h0 h1 h2
end Go.Proofs.Ytbaclcpnnompnaa
