/- The walks of the laws ParityMatrix and ParityShifted. WRITTEN BY gen_Qb.py. -/
import Derived.Test.YtfhgalfdlkdliaaQa
namespace Go.Proofs.Ytfhgalfdlkdliaa
open Go Go.RowKit
set_option linter.unusedVariables false

set_option maxHeartbeats 4000000 in
set_option maxRecDepth 100000 in
theorem plmat_lo (n : Int) (w : World) (hs : n < 1) : Calls Try.prog 4 #[.int .i64 n] w (lawPost w) := by
  have HS : Hid (n < 1 ∨ 13 < n) := Lib.hid (by omega)
  have g1 : decide (n < 1) = true := decide_eq_true hs
  clear hs
  go_enter Try.func4, Try.ntmps4
  go_wp2_with fail
  refine (pawake_any _).mono ?_
  rintro e x2 ⟨rfl, hb1⟩
  have hq3 : Below w.heap.size w x2 := hb1
  have HB_4 : Hid (Below w.heap.size w x2) := Lib.hid (hq3)
  clear hq3
  clear hb1
  go_wp2_with fail
  refine (matrix_err n _ HS.out).mono ?_
  rintro e w' ⟨rfl, rfl⟩
  go_wp2_with fail
  go_ret
  exact ⟨by first | rfl | simp, HB_4.out⟩
set_option maxHeartbeats 4000000 in
set_option maxRecDepth 100000 in
theorem plmat_hi (n : Int) (w : World) (hs : ¬ n < 1) (h2 : 13 < n) : Calls Try.prog 4 #[.int .i64 n] w (lawPost w) := by
  have HS : Hid (n < 1 ∨ 13 < n) := Lib.hid (by omega)
  have g1 : decide (n < 1) = false := decide_eq_false hs
  have g2 : decide (13 < n) = true := decide_eq_true h2
  clear hs h2
  go_enter Try.func4, Try.ntmps4
  go_wp2_with fail
  refine (pawake_any _).mono ?_
  rintro e x2 ⟨rfl, hb1⟩
  have hq3 : Below w.heap.size w x2 := hb1
  have HB_4 : Hid (Below w.heap.size w x2) := Lib.hid (hq3)
  clear hq3
  clear hb1
  go_wp2_with fail
  refine (matrix_err n _ HS.out).mono ?_
  rintro e w' ⟨rfl, rfl⟩
  go_wp2_with fail
  go_ret
  exact ⟨by first | rfl | simp, HB_4.out⟩
set_option maxHeartbeats 4000000 in
set_option maxRecDepth 100000 in
theorem plmat_ok (n : Nat) (w : World) (h1 : 1 ≤ n) (h13 : n ≤ 13) : Calls Try.prog 4 #[.int .i64 (n : Int)] w (lawPost w) := by
  have g1 : decide ((n : Int) < 1) = false := by simp; omega
  have g2 : decide ((13 : Int) < (n : Int)) = false := by simp; omega
  go_enter Try.func4, Try.ntmps4
  go_wp2_with fail
  refine (pawake_any _).mono ?_
  rintro e x2 ⟨rfl, hb1⟩
  have hq3 : Below w.heap.size w x2 := hb1
  have HB_4 : Hid (Below w.heap.size w x2) := Lib.hid (hq3)
  clear hq3
  clear hb1
  go_wp2_with fail
  refine (matrix_ok n _ h1 h13).mono ?_
  rintro e x9 ⟨rfl, hg, hb⟩
  have hq5 : Below x2.heap.size x2 x9 := hb
  have HB_6 : Hid (Below w.heap.size w x9) := Lib.hid (HB_4.out.trans (hq5.mono HB_4.out.size))
  clear hq5
  have GG := Lib.hid hg
  clear hg hb
  go_wp2_with fail
  obtain ⟨B, hB⟩ : ∃ B, x2.heap.size = B := ⟨_, rfl⟩
  rw [hB] at GG ⊢
  clear hB
  go_loopw [5, 6] (fun q _ wr => ∃ j : Nat, j ≤ 3 ∧ q = .int .i64 (j : Int) ∧ Hid (Dr x9 wr)) (fun q _ _ => 3 - (intOf q).toNat)
  case atStart => exact ⟨0, Nat.zero_le _, rfl, Lib.hid (Dr.refl _)⟩
  case round =>
    obtain ⟨j, hj, rfl, H⟩ := hrel
    obtain ⟨wo, rfl⟩ : ∃ wo, wo = wr := ⟨_, rfl⟩
    by_cases hlt : j < 3
    · have hjI : (j : Int) < 3 := by omega
      have q1 := (H.out.cell _).trans (GG.out.top.cell hlt)
      go_wp2_with fail
      go_loopw [6] (fun q wq => ∃ i : Nat, i ≤ n ∧ q = .int .i64 (i : Int) ∧ Hid (Dr wo wq)) (fun q _ => n - (intOf q).toNat)
      case atStart => exact ⟨0, Nat.zero_le _, rfl, Lib.hid (Dr.refl _)⟩
      case round =>
        obtain ⟨i, hi, rfl, H2⟩ := hrel
        by_cases hlt2 : i < n
        · have hiI : (i : Int) < (n : Int) := by omega
          have q2 := (H2.out.cell _).trans q1
          have q3 := ((H.out.trans H2.out).cell _).trans ((GG.out.row j hlt).cell hlt2)
          have hjn : i * j ≤ 13 * 3 := Nat.mul_le_mul (by omega) (by omega)
          have e1 : (i : Int) * (j : Int) = ((j * i : Nat) : Int) := by rw [Int.natCast_mul, Int.mul_comm]
          have e2 : wrap64 ((i : Int) * (j : Int)) = ((j * i : Nat) : Int) := by rw [e1]; exact IntWalk.wrap64_in _ ⟨by omega, by rw [Nat.mul_comm] at hjn; omega⟩
          have RP := Lib.hid fun w' => rpower_any 2 (j * i) (by decide) (by rw [Nat.mul_comm] at hjn; omega) w'
          obtain ⟨x, hx⟩ : ∃ x, Gf.gpow 2 (j * i) = x := ⟨_, rfl⟩
          rw [hx] at q3 RP
          have DD := Lib.hid (H.out.trans H2.out)
          clear hx e1 q1 hjn
          go_wp2
          go_quiet ((go_at_call 19; refine Calls.quiet_of_same ((RP.out _).mono fun _ _ h => ⟨h.1, h.2.symm⟩)))
          go_wp2
          go_roundw
          case rel => exact ⟨i + 1, by omega, by go_num, Lib.hid (H2.out.more _)⟩
          case measure => simp [intOf]; omega
        · go_wp2
          go_roundw
          case rel => exact ⟨j + 1, by omega, by go_num, Lib.hid (H.out.trans H2.out)⟩
          case measure => simp [intOf]; omega
    · go_wp2
      go_ret
      exact ⟨rfl, HB_6.out.trans (H.out.below _)⟩
theorem plmat_walk (n : Int) (w : World) : Calls Try.prog 4 #[.int .i64 n] w (lawPost w) := by
  by_cases h1 : n < 1
  · exact plmat_lo n w h1
  · by_cases h2 : 13 < n
    · exact plmat_hi n w h1 h2
    · have := plmat_ok n.toNat w (by omega) (by omega)
      rwa [show ((n.toNat : Nat) : Int) = n by omega] at this
end Go.Proofs.Ytfhgalfdlkdliaa
