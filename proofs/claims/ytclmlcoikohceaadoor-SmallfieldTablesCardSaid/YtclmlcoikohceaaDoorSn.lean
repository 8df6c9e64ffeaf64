/- Contracts: awake. WRITTEN BY gen_Sn.py. -/
import Derived.Test.YtclmlcoikohceaaDoorSk
namespace Go.Proofs.YtclmlcoikohceaaDoor
open Go Go.RowKit
set_option linter.unusedVariables false

def awakePost (w : World) (e : Ending) (w' : World) : Prop := e = .returned (.bool true) ∧ Below w.heap.size w w'
set_option maxHeartbeats 1000000 in
set_option maxRecDepth 100000 in
theorem awake_any (w : World) (hK : Kd w) : Calls Tryd.prog 10 #[] w (awakePost w) := by
  have HK0 := Lib.hid hK
  clear hK
  go_enter Tryd.func10, Tryd.ntmps10
  go_wp2_with fail
  refine (new_ok 4 _ HK0.out (by decide)).mono ?_
  rintro e x2 ⟨u1, rfl, hn3, hb1⟩
  have hq4 : Below w.heap.size w x2 := hb1
  have K_5 := Lib.hid (Kd.below HK0.out hq4)
  have HB_6 : Hid (Below w.heap.size w x2) := Lib.hid (hq4)
  clear hq4
  have F1_7 := Lib.hid hn3
  clear hb1 hn3
  go_wp2_with fail
  refine (new_ok 8 _ K_5.out (by decide)).mono ?_
  rintro e x9 ⟨u2, rfl, hn10, hb8⟩
  have hq11 : Below x2.heap.size x2 x9 := hb8
  have K_12 := Lib.hid (Kd.below K_5.out hq11)
  have F1_13 := Lib.hid (Fd.to F1_7.out hq11)
  have HB_14 : Hid (Below w.heap.size w x9) := Lib.hid (HB_6.out.trans (hq11.mono HB_6.out.size))
  clear hq11
  have F2_15 := Lib.hid hn10
  clear hb8 hn10
  go_wp2_with fail
  refine (new_ok 9 _ K_12.out (by decide)).mono ?_
  rintro e x17 ⟨u3, rfl, hn18, hb16⟩
  have hq19 : Below x9.heap.size x9 x17 := hb16
  have K_20 := Lib.hid (Kd.below K_12.out hq19)
  have F1_21 := Lib.hid (Fd.to F1_13.out hq19)
  have F2_22 := Lib.hid (Fd.to F2_15.out hq19)
  have HB_23 : Hid (Below w.heap.size w x17) := Lib.hid (HB_14.out.trans (hq19.mono HB_14.out.size))
  clear hq19
  have F3_24 := Lib.hid hn18
  clear hb16 hn18
  go_wp2_with fail
  refine (new_ok 7 _ K_20.out (by decide)).mono ?_
  rintro e x26 ⟨u4, rfl, hn27, hb25⟩
  have hq28 : Below x17.heap.size x17 x26 := hb25
  have K_29 := Lib.hid (Kd.below K_20.out hq28)
  have F1_30 := Lib.hid (Fd.to F1_21.out hq28)
  have F2_31 := Lib.hid (Fd.to F2_22.out hq28)
  have F3_32 := Lib.hid (Fd.to F3_24.out hq28)
  have HB_33 : Hid (Below w.heap.size w x26) := Lib.hid (HB_23.out.trans (hq28.mono HB_23.out.size))
  clear hq28
  have F4_34 := Lib.hid hn27
  clear hb25 hn27
  have M0 : Hid (Calls Tryd.prog 22 #[u1, .int .i64 2, .int .i64 2] x26 (still (.int .i64 3) x26)) := Lib.hid (by
    have h := mul_ok 4 2 2 u1 x26 (by decide) F1_30.out (by decide) (by decide)
    rw [show Sf.mulF 4 2 2 = 3 by decide] at h
    exact h)
  have M1 : Hid (Calls Tryd.prog 22 #[u1, .int .i64 2, .int .i64 3] x26 (still (.int .i64 1) x26)) := Lib.hid (by
    have h := mul_ok 4 2 3 u1 x26 (by decide) F1_30.out (by decide) (by decide)
    rw [show Sf.mulF 4 2 3 = 1 by decide] at h
    exact h)
  have M2 : Hid (Calls Tryd.prog 22 #[u2, .int .i64 2, .int .i64 4] x26 (still (.int .i64 3) x26)) := Lib.hid (by
    have h := mul_ok 8 2 4 u2 x26 (by decide) F2_31.out (by decide) (by decide)
    rw [show Sf.mulF 8 2 4 = 3 by decide] at h
    exact h)
  have M3 : Hid (Calls Tryd.prog 22 #[u3, .int .i64 3, .int .i64 3] x26 (still (.int .i64 2) x26)) := Lib.hid (by
    have h := mul_ok 9 3 3 u3 x26 (by decide) F3_32.out (by decide) (by decide)
    rw [show Sf.mulF 9 3 3 = 2 by decide] at h
    exact h)
  have M4 : Hid (Calls Tryd.prog 21 #[u3, .int .i64 5, .int .i64 5] x26 (still (.int .i64 7) x26)) := Lib.hid (by
    have h := add_ok 9 5 5 u3 x26 (by decide) F3_32.out (by decide) (by decide)
    rw [show Sf.addF 9 5 5 = 7 by decide] at h
    exact h)
  have M5 : Hid (Calls Tryd.prog 24 #[u3, .int .i64 3] x26 (still (.int .i64 6) x26)) := Lib.hid (by
    have h := inv_el 9 3 u3 x26 (by decide) F3_32.out (by decide) (by decide)
    rw [show Sf.invF 9 3 = 6 by decide] at h
    exact h)
  have M6 : Hid (Calls Tryd.prog 24 #[u4, .int .i64 3] x26 (still (.int .i64 5) x26)) := Lib.hid (by
    have h := inv_el 7 3 u4 x26 (by decide) F4_34.out (by decide) (by decide)
    rw [show Sf.invF 7 3 = 5 by decide] at h
    exact h)
  go_wp2_with fail
  refine M0.out.mono ?_
  rintro e x0 ⟨rfl, rfl⟩
  go_wp2_with fail
  refine M1.out.mono ?_
  rintro e x1 ⟨rfl, rfl⟩
  go_wp2_with fail
  refine M2.out.mono ?_
  rintro e x2 ⟨rfl, rfl⟩
  go_wp2_with fail
  refine M3.out.mono ?_
  rintro e x3 ⟨rfl, rfl⟩
  go_wp2_with fail
  refine M4.out.mono ?_
  rintro e x4 ⟨rfl, rfl⟩
  go_wp2_with fail
  refine M5.out.mono ?_
  rintro e x5 ⟨rfl, rfl⟩
  go_wp2_with fail
  refine M6.out.mono ?_
  rintro e x6 ⟨rfl, rfl⟩
  go_wp2_with fail
  go_ret
  exact ⟨rfl, HB_33.out⟩
end Go.Proofs.YtclmlcoikohceaaDoor
