/- Layer 14: walk of the law DiskNil. WRITTEN BY gen_Dqa.py. -/
import Derived.Test.YtdjjihppaobbcaaDps
namespace Go.Proofs.Ytdjjihppaobbcaa
open Go Go.RowKit Med Flt
set_option linter.unusedVariables false
set_option linter.unusedSimpArgs false
set_option maxHeartbeats 4000000 in
set_option maxRecDepth 100000 in
theorem nil14_walk (key : Nat) (a : Int) (w : World) : Calls Try.prog 7 #[.int .u64 (key : Int), .int .i64 a] w (lawPost w) := by
  go_enter Try.func7, Try.ntmps7
  go_wp2_with fail
  refine (parm_nil a w).mono ?_
  rintro e x1 ⟨⟨u1, rfl⟩, hw⟩
  subst hw
  go_wp2_with fail
  refine (pon14_nil w).mono ?_
  rintro e x2 ⟨⟨u2, rfl⟩, hw⟩
  subst hw
  go_wp2_with fail
  refine (pkill_nil w).mono ?_
  rintro e x3 ⟨⟨u3, rfl⟩, hw⟩
  subst hw
  go_wp2_with fail
  refine (prd14_nil key a w).mono ?_
  rintro e x4 ⟨rfl, hb⟩
  have T4 := Lib.hid ((Below.refl w.heap.size w).trans (hb.mono (Below.refl w.heap.size w).size))
  clear hb
  go_wp2_with fail
  refine (pwr14_nil key a true x4).mono ?_
  rintro e x5 ⟨rfl, hb⟩
  have T5 := Lib.hid (T4.out.trans (hb.mono T4.out.size))
  clear hb
  go_wp2_with fail
  refine (per14_nil key a x5).mono ?_
  rintro e x6 ⟨rfl, hb⟩
  have T6 := Lib.hid (T5.out.trans (hb.mono T5.out.size))
  clear hb
  go_wp2_with fail
  refine (pfl14_nil key x6).mono ?_
  rintro e x7 ⟨rfl, hb⟩
  have T7 := Lib.hid (T6.out.trans (hb.mono T6.out.size))
  clear hb
  go_wp2_with fail
  refine (pacq_nil key x7).mono ?_
  rintro e x8 ⟨rfl, hw⟩
  subst hw
  go_wp2_with fail
  refine (prs14_nil a x7).mono ?_
  rintro e x9 ⟨rfl, hw⟩
  subst hw
  go_wp2_with fail
  refine (awake14 x7).mono ?_
  rintro e x10 ⟨rfl, hb⟩
  have T10 := Lib.hid (T7.out.trans (hb.mono T7.out.size))
  clear hb
  go_wp2_with fail
  refine (poff_nil x10).mono ?_
  rintro e x11 ⟨rfl, hw⟩
  subst hw
  go_wp2_with fail
  refine (pgeo14_nil x10).mono ?_
  rintro e x12 ⟨rfl, hb⟩
  have T12 := Lib.hid (T10.out.trans (hb.mono T10.out.size))
  clear hb
  go_wp2_with fail
  refine (pdead_nil x12).mono ?_
  rintro e x13 ⟨rfl, hw⟩
  subst hw
  go_wp2_with fail
  refine (pstats_nil x12).mono ?_
  rintro e x14 ⟨rfl, hb⟩
  have T14 := Lib.hid (T12.out.trans (hb.mono T12.out.size))
  clear hb
  go_wp2_with fail
  refine (pops_nil x14).mono ?_
  rintro e x15 ⟨rfl, hw⟩
  subst hw
  go_wp2_with fail
  refine (ppend_nil x14).mono ?_
  rintro e x16 ⟨rfl, hw⟩
  subst hw
  go_wp2_with fail
  refine (pstat_nil a x14).mono ?_
  rintro e x17 ⟨rfl, hw⟩
  subst hw
  go_wp2_with fail
  go_ret
  exact ⟨rfl, T14.out⟩
end Go.Proofs.Ytdjjihppaobbcaa

