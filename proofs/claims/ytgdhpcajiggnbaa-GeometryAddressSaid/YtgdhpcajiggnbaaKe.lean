/- Layer 10: the example of the document holds. -/
import Derived.Test.YtgdhpcajiggnbaaKp
import Derived.Test.YtgdhpcajiggnbaaGK
namespace Go.Proofs.Ytgdhpcajiggnbaa
open Go Go.RowKit
set_option linter.unusedVariables false
set_option linter.unusedSimpArgs false
theorem Geo.exV : Geo.GV 80 5 2 4 1 := by decide
theorem Geo.exL : Geo.loc 80 5 2 4 1 93 = (1, 1, 1, 0) := by decide
theorem Geo.exS : Geo.shadow 80 5 2 4 1 89 = [93] := by decide
theorem Geo.exZ : Geo.size 80 5 2 4 1 = 120 := by decide
theorem is_one (w : World) (t : TypeId) (x : Int) : Is (w.alloc (.cells #[.int .i64 x] t)) (.slice (some ⟨w.heap.size, 0, none⟩) 1 1) [x] := by
  refine ⟨some ⟨w.heap.size, 0, none⟩, 1, rfl, ⟨Nat.le_refl _, by decide⟩, fun h => (by cases h), fun _ => ⟨w.heap.size, 0, rfl, fun k hk => ?_⟩⟩
  obtain rfl : k = 0 := by simpa using hk
  exact ⟨.int .i64 x, by rw [(gr_new w #[.int .i64 x] t rfl).cell]; rfl, rfl⟩
set_option maxHeartbeats 2000000 in
set_option maxRecDepth 100000 in
theorem awake10 (w : World) : Calls Try.prog 10 #[] w (gPost (.bool true) w) := by
  have L := Lib.hid fun w => ploc_any 80 5 2 4 1 93 w
  have S := Lib.hid fun w => pshadow_any 80 5 2 4 1 89 w
  have Z := Lib.hid fun w => psize_any 80 5 2 4 1 w
  rw [Geo.exL] at L
  rw [Geo.exS] at S
  rw [Geo.exZ] at Z
  unfold locV at L
  obtain ⟨B0, hB0⟩ : ∃ B, w.heap.size = B := ⟨_, rfl⟩
  obtain ⟨W0, hW0⟩ : ∃ W, w.alloc (.cells #[.int .i64 80, .int .i64 5, .int .i64 2, .int .i64 4, .int .i64 1] 23) = W := ⟨_, rfl⟩
  have BW : Hid (Below w.heap.size w W0) := Lib.hid (by subst hW0; exact (Below.refl _ _).alloc (Nat.le_refl _) _)
  have R0 : Hid (Row W0 B0 23 #[.int .i64 80, .int .i64 5, .int .i64 2, .int .i64 4, .int .i64 1]) := Lib.hid (by subst hW0; exact gr_new w _ _ hB0)
  have c0 := R0.out.cell 0
  have c1 := R0.out.cell 1
  have c2 := R0.out.cell 2
  have c3 := R0.out.cell 3
  have c4 := R0.out.cell 4
  simp only [List.getElem?_toArray, List.getElem?_cons_zero, List.getElem?_cons_succ] at c0 c1 c2 c3 c4
  have HB0 := Lib.hid hB0
  have HW0 := Lib.hid hW0
  clear hB0 hW0
  go_enter Try.func10, Try.ntmps10
  go_wp2_with fail
  rw [HB0.out, HW0.out]
  refine (L.out _).mono ?_
  rintro e w1 ⟨rfl, hb⟩
  replace c0 := ce_fw c0 hb
  replace c1 := ce_fw c1 hb
  replace c2 := ce_fw c2 hb
  replace c3 := ce_fw c3 hb
  replace c4 := ce_fw c4 hb
  have B1 := Lib.hid (BW.out.trans (hb.mono BW.out.size))
  clear hb
  go_wp2_with fail
  refine (S.out _).mono ?_
  rintro e w2 ⟨v2, rfl, hi, hb⟩
  replace c0 := ce_fw c0 hb
  replace c1 := ce_fw c1 hb
  replace c2 := ce_fw c2 hb
  replace c3 := ce_fw c3 hb
  replace c4 := ce_fw c4 hb
  have B2 := Lib.hid (B1.out.trans (hb.mono B1.out.size))
  have I2 := Lib.hid hi
  obtain ⟨A2, d2, e2⟩ := is_form hi
  have e3 : v2 = .slice A2 1 d2 := e2
  clear hb hi e2
  subst e3
  have BA := Lib.hid ((Below.refl w2.heap.size w2).alloc (Nat.le_refl _) (.cells #[.int .i64 93] 3))
  have i3 := Lib.hid (rints_any (.slice A2 1 d2) (.slice (some ⟨w2.heap.size, 0, none⟩) 1 1) [93] [93] _ (is_fw I2.out BA.out) (is_one w2 3 93))
  replace c0 := ce_fw c0 BA.out
  replace c1 := ce_fw c1 BA.out
  replace c2 := ce_fw c2 BA.out
  replace c3 := ce_fw c3 BA.out
  replace c4 := ce_fw c4 BA.out
  go_wp2_with fail
  refine i3.out.mono ?_
  rintro e w3 ⟨rfl, hb⟩
  replace c0 := ce_fw c0 hb
  replace c1 := ce_fw c1 hb
  replace c2 := ce_fw c2 hb
  replace c3 := ce_fw c3 hb
  replace c4 := ce_fw c4 hb
  have B3 := Lib.hid ((B2.out.trans (BA.out.mono B2.out.size)).trans (hb.mono (Nat.le_trans B2.out.size BA.out.size)))
  clear hb
  simp only [decide_true]
  go_wp2_with fail
  refine (Z.out _).mono ?_
  rintro e w4 ⟨rfl, hb⟩
  have B4 := Lib.hid (B3.out.trans (hb.mono B3.out.size))
  clear hb
  go_wp2_with fail
  go_ret
  exact ⟨rfl, B4.out⟩
end Go.Proofs.Ytgdhpcajiggnbaa
