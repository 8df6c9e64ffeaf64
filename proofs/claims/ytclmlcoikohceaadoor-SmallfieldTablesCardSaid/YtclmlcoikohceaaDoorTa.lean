/- Law walk: SmallfieldTables. WRITTEN BY gen_Ta.py. -/
import Derived.Test.YtclmlcoikohceaaDoorSz
import Derived.Test.YtclmlcoikohceaaDoorGK
namespace Go.Proofs.YtclmlcoikohceaaDoor
open Go Go.RowKit
set_option linter.unusedVariables false

set_option maxHeartbeats 4000000 in
set_option maxRecDepth 100000 in
theorem tableslaw_walk (n : Nat) (a b : Int) (w : World) (hK : Kd w) (hn : n < 256) : Calls Tryd.prog 4 #[.int .u8 (n : Int), .int .i64 a, .int .i64 b] w (lawPost w) := by
  obtain ⟨q, hq⟩ : ∃ q, kS (n % 7) = q := ⟨_, rfl⟩
  have qs : q ∈ Sf.sizes := hq ▸ (kS_ok _ (Nat.mod_lt _ (by decide))).1
  have q9 := (Sf.prm_ok qs).2.2.1
  have q2 := (Sf.prm_ok qs).2.2.2.1
  have QS := Lib.hid qs
  have CF := fun W hb => Lib.hid (field_any n q W (hK.below hb) hn hq)
  have CF' := Lib.hid CF
  have CA := fun W hb => Lib.hid (awake_any W (hK.below hb))
  have CA' := Lib.hid CA
  clear CF CA hq qs hK
  go_enter Tryd.func4, Tryd.ntmps4
  go_wp2_with fail
  refine ((CA'.out _ (Below.refl w.heap.size w)).out).mono ?_
  rintro e w1 ⟨rfl, hb1⟩
  have B1 := Lib.hid hb1
  clear hb1
  go_wp2_with fail
  refine ((CF'.out _ B1.out).out).mono ?_
  rintro e w2 ⟨u, rfl, hf, hb2⟩
  have HF0 := Lib.hid hf
  have HB0 := Lib.hid (B1.out.trans (hb2.mono (B1.out).size))
  clear hf hb2 CA' CF' B1
  by_cases ha : 0 ≤ a ∧ a < (q : Int)
  · obtain ⟨ha1, ha2⟩ := ha
    obtain ⟨x, rfl⟩ : ∃ x : Nat, (x : Int) = a := ⟨a.toNat, by omega⟩
    have xq : x < q := by omega
    have ha3 : (x : Int) ≥ 0 := by omega
    have XQ := Lib.hid xq
    have CN : Hid (∀ W, Calls Tryd.prog 19 #[.int .i64 (q : Int), .int .i64 (x : Int)] W (newN (Sf.negF q x) W)) := Lib.hid fun W => rneg_any q x W QS.out xq
    have CI : Hid (∀ W, Calls Tryd.prog 20 #[.int .i64 (q : Int), .int .i64 (x : Int)] W fun e w' => e = .returned (.int .i64 (invI q x)) ∧ Below W.heap.size W w') := Lib.hid fun W => rinv_any q x W QS.out xq
    have FN := Lib.hid fun W h => neg_el q x u W QS.out h xq
    have FI : Hid (∀ W, Fd W u q → Calls Tryd.prog 24 #[u, .int .i64 (x : Int)] W (still (.int .i64 (invI q x)) W)) := Lib.hid fun W h => by
      by_cases h0 : x = 0
      · subst h0; rw [invI, if_pos rfl]; exact inv_0 q u W QS.out h
      · rw [invI, if_neg h0]; exact inv_el q x u W QS.out h xq h0
    obtain ⟨rn, hrn⟩ : ∃ y, Sf.negF q x = y := ⟨_, rfl⟩
    obtain ⟨ri, hri⟩ : ∃ y, invI q x = y := ⟨_, rfl⟩
    rw [hrn] at CN FN
    rw [hri] at CI FI
    clear hrn hri
    by_cases hb : 0 ≤ b ∧ b < (q : Int)
    · obtain ⟨hb1, hb2⟩ := hb
      obtain ⟨y, rfl⟩ : ∃ y : Nat, (y : Int) = b := ⟨b.toNat, by omega⟩
      have yq : y < q := by omega
      have hb3 : (y : Int) ≥ 0 := by omega
      have RA : Hid (∀ W, Calls Tryd.prog 17 #[.int .i64 (q : Int), .int .i64 (x : Int), .int .i64 (y : Int)] W (newN (Sf.addF q x y) W)) := Lib.hid fun W => radd_any q x y W QS.out xq yq
      have RM : Hid (∀ W, Calls Tryd.prog 18 #[.int .i64 (q : Int), .int .i64 (x : Int), .int .i64 (y : Int)] W (newN (Sf.mulF q x y) W)) := Lib.hid fun W => rmul_any q x y W QS.out xq yq
      have FA := Lib.hid fun W h => add_ok q x y u W QS.out h xq yq
      have FM := Lib.hid fun W h => mul_ok q x y u W QS.out h xq yq
      obtain ⟨ra, hra⟩ : ∃ z, Sf.addF q x y = z := ⟨_, rfl⟩
      obtain ⟨rm, hrm⟩ : ∃ z, Sf.mulF q x y = z := ⟨_, rfl⟩
      rw [hra] at RA FA
      rw [hrm] at RM FM
      clear hra hrm
      go_wp2_with fail
      refine (RA.out _).mono ?_
      rintro e y1 ⟨rfl, hb⟩
      have HF1 := Lib.hid (HF0.out.to hb)
      have HB1 := Lib.hid (HB0.out.trans (hb.mono HB0.out.size))
      clear hb HF0 HB0
      go_wp2_with fail
      refine (RM.out _).mono ?_
      rintro e y2 ⟨rfl, hb⟩
      have HF2 := Lib.hid (HF1.out.to hb)
      have HB2 := Lib.hid (HB1.out.trans (hb.mono HB1.out.size))
      clear hb HF1 HB1
      go_wp2_with fail
      refine (CN.out _).mono ?_
      rintro e y3 ⟨rfl, hb⟩
      have HF3 := Lib.hid (HF2.out.to hb)
      have HB3 := Lib.hid (HB2.out.trans (hb.mono HB2.out.size))
      clear hb HF2 HB2
      go_wp2_with fail
      refine (CI.out _).mono ?_
      rintro e y4 ⟨rfl, hb⟩
      have HF4 := Lib.hid (HF3.out.to hb)
      have HB4 := Lib.hid (HB3.out.trans (hb.mono HB3.out.size))
      clear hb HF3 HB3
      go_wp2_with fail
      have K0 := Lib.hid (FA.out _ HF4.out)
      have K1 := Lib.hid (FM.out _ HF4.out)
      have K2 := Lib.hid (FN.out _ HF4.out)
      have K3 := Lib.hid (FI.out _ HF4.out)
      refine K0.out.mono ?_
      rintro e z1 ⟨rfl, hzz⟩
      obtain rfl := hzz.symm
      go_wp2_with fail
      refine K1.out.mono ?_
      rintro e z2 ⟨rfl, hzz⟩
      obtain rfl := hzz.symm
      go_wp2_with fail
      refine K2.out.mono ?_
      rintro e z3 ⟨rfl, hzz⟩
      obtain rfl := hzz.symm
      go_wp2_with fail
      refine K3.out.mono ?_
      rintro e z4 ⟨rfl, hzz⟩
      obtain rfl := hzz.symm
      go_wp2_with fail
      go_ret
      exact ⟨rfl, HB4.out⟩
    · by_cases hb0 : 0 ≤ b
      · have hb1 : ¬ b < (q : Int) := by omega
        have FA := Lib.hid fun W h => add_out q (x : Int) b u W (Fd.fq QS.out h) (by omega)
        have FM := Lib.hid fun W h => mul_out q (x : Int) b u W (Fd.fq QS.out h) (by omega)
        have hb3 : b ≥ 0 := hb0
        clear hb
        go_wp2_with fail
        refine (CN.out _).mono ?_
        rintro e y5 ⟨rfl, hb⟩
        have HF5 := Lib.hid (HF0.out.to hb)
        have HB5 := Lib.hid (HB0.out.trans (hb.mono HB0.out.size))
        clear hb HF0 HB0
        go_wp2_with fail
        refine (CI.out _).mono ?_
        rintro e y6 ⟨rfl, hb⟩
        have HF6 := Lib.hid (HF5.out.to hb)
        have HB6 := Lib.hid (HB5.out.trans (hb.mono HB5.out.size))
        clear hb HF5 HB5
        go_wp2_with fail
        have K0 := Lib.hid (FA.out _ HF6.out)
        have K1 := Lib.hid (FM.out _ HF6.out)
        have K2 := Lib.hid (FN.out _ HF6.out)
        have K3 := Lib.hid (FI.out _ HF6.out)
        refine K0.out.mono ?_
        rintro e z5 ⟨rfl, hzz⟩
        obtain rfl := hzz.symm
        go_wp2_with fail
        refine K1.out.mono ?_
        rintro e z6 ⟨rfl, hzz⟩
        obtain rfl := hzz.symm
        go_wp2_with fail
        refine K2.out.mono ?_
        rintro e z7 ⟨rfl, hzz⟩
        obtain rfl := hzz.symm
        go_wp2_with fail
        refine K3.out.mono ?_
        rintro e z8 ⟨rfl, hzz⟩
        obtain rfl := hzz.symm
        go_wp2_with fail
        go_ret
        exact ⟨rfl, HB6.out⟩
      · have hb1 : ¬ b ≥ 0 := by omega
        have FA := Lib.hid fun W h => add_out q (x : Int) b u W (Fd.fq QS.out h) (by omega)
        have FM := Lib.hid fun W h => mul_out q (x : Int) b u W (Fd.fq QS.out h) (by omega)
        clear hb
        go_wp2_with fail
        refine (CN.out _).mono ?_
        rintro e y7 ⟨rfl, hb⟩
        have HF7 := Lib.hid (HF0.out.to hb)
        have HB7 := Lib.hid (HB0.out.trans (hb.mono HB0.out.size))
        clear hb HF0 HB0
        go_wp2_with fail
        refine (CI.out _).mono ?_
        rintro e y8 ⟨rfl, hb⟩
        have HF8 := Lib.hid (HF7.out.to hb)
        have HB8 := Lib.hid (HB7.out.trans (hb.mono HB7.out.size))
        clear hb HF7 HB7
        go_wp2_with fail
        have K0 := Lib.hid (FA.out _ HF8.out)
        have K1 := Lib.hid (FM.out _ HF8.out)
        have K2 := Lib.hid (FN.out _ HF8.out)
        have K3 := Lib.hid (FI.out _ HF8.out)
        refine K0.out.mono ?_
        rintro e z9 ⟨rfl, hzz⟩
        obtain rfl := hzz.symm
        go_wp2_with fail
        refine K1.out.mono ?_
        rintro e z10 ⟨rfl, hzz⟩
        obtain rfl := hzz.symm
        go_wp2_with fail
        refine K2.out.mono ?_
        rintro e z11 ⟨rfl, hzz⟩
        obtain rfl := hzz.symm
        go_wp2_with fail
        refine K3.out.mono ?_
        rintro e z12 ⟨rfl, hzz⟩
        obtain rfl := hzz.symm
        go_wp2_with fail
        go_ret
        exact ⟨rfl, HB8.out⟩
  · by_cases ha0 : 0 ≤ a
    · have ha1 : ¬ a < (q : Int) := by omega
      have FA := Lib.hid fun W h => add_out q a b u W (Fd.fq QS.out h) (by omega)
      have FM := Lib.hid fun W h => mul_out q a b u W (Fd.fq QS.out h) (by omega)
      have FN := Lib.hid fun W h => neg_out q a u W (Fd.fq QS.out h) (by omega)
      have FI := Lib.hid fun W h => inv_out q a u W (Fd.fq QS.out h) (by omega)
      have ha3 : a ≥ 0 := ha0
      clear ha
      go_wp2_with fail
      have K0 := Lib.hid (FA.out _ HF0.out)
      have K1 := Lib.hid (FM.out _ HF0.out)
      have K2 := Lib.hid (FN.out _ HF0.out)
      have K3 := Lib.hid (FI.out _ HF0.out)
      refine K0.out.mono ?_
      rintro e z13 ⟨rfl, hzz⟩
      obtain rfl := hzz.symm
      go_wp2_with fail
      refine K1.out.mono ?_
      rintro e z14 ⟨rfl, hzz⟩
      obtain rfl := hzz.symm
      go_wp2_with fail
      refine K2.out.mono ?_
      rintro e z15 ⟨rfl, hzz⟩
      obtain rfl := hzz.symm
      go_wp2_with fail
      refine K3.out.mono ?_
      rintro e z16 ⟨rfl, hzz⟩
      obtain rfl := hzz.symm
      go_wp2_with fail
      go_ret
      exact ⟨rfl, HB0.out⟩
    · have ha1 : ¬ a ≥ 0 := by omega
      have FA := Lib.hid fun W h => add_out q a b u W (Fd.fq QS.out h) (by omega)
      have FM := Lib.hid fun W h => mul_out q a b u W (Fd.fq QS.out h) (by omega)
      have FN := Lib.hid fun W h => neg_out q a u W (Fd.fq QS.out h) (by omega)
      have FI := Lib.hid fun W h => inv_out q a u W (Fd.fq QS.out h) (by omega)
      clear ha
      go_wp2_with fail
      have K0 := Lib.hid (FA.out _ HF0.out)
      have K1 := Lib.hid (FM.out _ HF0.out)
      have K2 := Lib.hid (FN.out _ HF0.out)
      have K3 := Lib.hid (FI.out _ HF0.out)
      refine K0.out.mono ?_
      rintro e z17 ⟨rfl, hzz⟩
      obtain rfl := hzz.symm
      go_wp2_with fail
      refine K1.out.mono ?_
      rintro e z18 ⟨rfl, hzz⟩
      obtain rfl := hzz.symm
      go_wp2_with fail
      refine K2.out.mono ?_
      rintro e z19 ⟨rfl, hzz⟩
      obtain rfl := hzz.symm
      go_wp2_with fail
      refine K3.out.mono ?_
      rintro e z20 ⟨rfl, hzz⟩
      obtain rfl := hzz.symm
      go_wp2_with fail
      go_ret
      exact ⟨rfl, HB0.out⟩
end Go.Proofs.YtclmlcoikohceaaDoor
