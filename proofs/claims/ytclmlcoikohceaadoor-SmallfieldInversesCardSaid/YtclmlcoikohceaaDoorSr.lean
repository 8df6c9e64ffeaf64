/- Law walk: SmallfieldInverses. WRITTEN BY gen_Sr.py. -/
import Derived.Test.YtclmlcoikohceaaDoorSn
import Derived.Test.YtclmlcoikohceaaDoorGK
namespace Go.Proofs.YtclmlcoikohceaaDoor
open Go Go.RowKit
set_option linter.unusedVariables false

set_option maxHeartbeats 2000000 in
set_option maxRecDepth 100000 in
theorem inverseslaw_walk (n x0 x1 : Nat) (w : World) (hK : Kd w) (hn : n < 256) (hx0 : x0 < 256) (hx1 : x1 < 256) : Calls Tryd.prog 7 #[.int .u8 (n : Int), .agg #[.int .u8 (x0 : Int), .int .u8 (x1 : Int)]] w (lawPost w) := by
  obtain ⟨q, hq⟩ : ∃ q, kS (n % 7) = q := ⟨_, rfl⟩
  have qs : q ∈ Sf.sizes := hq ▸ (kS_ok _ (Nat.mod_lt _ (by decide))).1
  have q9 := (Sf.prm_ok qs).2.2.1
  have q2 := (Sf.prm_ok qs).2.2.2.1
  have QS := Lib.hid qs
  obtain ⟨a, ha⟩ : ∃ a, x0 % q = a := ⟨_, rfl⟩
  have aq : a < q := ha ▸ Nat.mod_lt _ (by omega)
  have ea : (x0 : Int) % (q : Int) = (a : Int) := by rw [← ha]; rfl
  obtain ⟨b, hb⟩ : ∃ b, x1 % q = b := ⟨_, rfl⟩
  have bq : b < q := hb ▸ Nat.mod_lt _ (by omega)
  have eb : (x1 : Int) % (q : Int) = (b : Int) := by rw [← hb]; rfl
  have CF := fun W hb => Lib.hid (field_any n q W (hK.below hb) hn hq)
  have CF' := Lib.hid CF
  have CA := fun W hb => Lib.hid (awake_any W (hK.below hb))
  have CA' := Lib.hid CA
  have HB0 := fun o => Lib.hid ((Below.refl w.heap.size w).alloc (Nat.le_refl _) o)
  have HB0' := Lib.hid HB0
  have CX0 : Hid ((w.alloc (.cells #[.int .u8 (x0 : Int), .int .u8 (x1 : Int)] 42)).cell? ⟨w.heap.size, 0, none⟩ = some (.int .u8 (x0 : Int))) := Lib.hid (by rw [cell_of_row _ _ _ _ _ _ (heap_alloc_new w _)]; rfl)
  have LX0 : Hid (w.heap.size < (w.alloc (.cells #[.int .u8 (x0 : Int), .int .u8 (x1 : Int)] 42)).heap.size) := Lib.hid (World.block_lt_of_cell? _ _ CX0.out)
  have CX1 : Hid ((w.alloc (.cells #[.int .u8 (x0 : Int), .int .u8 (x1 : Int)] 42)).cell? ⟨w.heap.size, 1, none⟩ = some (.int .u8 (x1 : Int))) := Lib.hid (by rw [cell_of_row _ _ _ _ _ _ (heap_alloc_new w _)]; rfl)
  have LX1 : Hid (w.heap.size < (w.alloc (.cells #[.int .u8 (x0 : Int), .int .u8 (x1 : Int)] 42)).heap.size) := Lib.hid (World.block_lt_of_cell? _ _ CX1.out)
  clear CF CA hq qs hK HB0 ha hb
  go_enter Tryd.func7, Tryd.ntmps7
  go_wp2_with fail
  refine ((CA'.out _ (HB0'.out _).out).out).mono ?_
  rintro e w1 ⟨rfl, hb1⟩
  have B1 := Lib.hid ((HB0'.out _).out.trans (hb1.mono ((HB0'.out _).out).size))
  have DX0 := Lib.hid ((hb1.cell LX0.out).trans CX0.out)
  have DX1 := Lib.hid ((hb1.cell LX1.out).trans CX1.out)
  clear hb1
  go_wp2_with fail
  refine ((CF'.out _ B1.out).out).mono ?_
  rintro e w2 ⟨u, rfl, hf, hb2⟩
  have HF := Lib.hid hf
  have HB := Lib.hid (B1.out.trans (hb2.mono (B1.out).size))
  have cx0 := (hb2.cell (World.block_lt_of_cell? _ _ DX0.out)).trans DX0.out
  have cx1 := (hb2.cell (World.block_lt_of_cell? _ _ DX1.out)).trans DX1.out
  clear hf hb2 CX0 LX0 DX0 CX1 LX1 DX1
  go_wp2_with fail
  go_quiet (fail)
  have HF3 := Lib.hid (HF.out.to (below_drewN (Below.refl w2.heap.size w2) nq))
  have HB3 := Lib.hid (below_drewN HB.out nq)
  generalize w2.drewN nq = w3 at HF3 HB3 ⊢
  rw [ea, eb]
  clear HF HB cx0 cx1 ea eb CA' CF' HB0' B1
  obtain ⟨na, hna⟩ : ∃ y, Sf.negF q a = y := ⟨_, rfl⟩
  have hN := Sf.neg_ok QS.out aq
  rw [hna] at hN
  obtain ⟨naq, N0, -⟩ := hN
  have NN : Sf.negF q na = a := ((Sf.neg_ok QS.out naq).2.2 a aq (by rw [Sf.add_comm QS.out naq aq]; exact N0)).symm
  have M0 : Hid (Calls Tryd.prog 23 #[u, .int .i64 (a : Int)] w3 (still (.int .i64 (na : Int)) w3)) := Lib.hid (by
    have h := neg_el q a u w3 QS.out HF3.out aq
    rw [show Sf.negF q a = na from hna] at h
    exact h)
  have M1 : Hid (Calls Tryd.prog 21 #[u, .int .i64 (a : Int), .int .i64 (na : Int)] w3 (still (.int .i64 0) w3)) := Lib.hid (by
    have h := add_ok q a na u w3 QS.out HF3.out aq naq
    rw [show Sf.addF q a na = 0 from N0] at h
    exact h)
  have M2 : Hid (Calls Tryd.prog 23 #[u, .int .i64 (na : Int)] w3 (still (.int .i64 (a : Int)) w3)) := Lib.hid (by
    have h := neg_el q na u w3 QS.out HF3.out naq
    rw [show Sf.negF q na = a from NN] at h
    exact h)
  clear hna N0 NN
  go_wp2_with fail
  refine M0.out.mono ?_
  rintro e z1 ⟨rfl, hzz⟩
  obtain rfl := hzz.symm
  go_wp2_with fail
  refine M1.out.mono ?_
  rintro e z2 ⟨rfl, hzz⟩
  obtain rfl := hzz.symm
  go_wp2_with fail
  refine M0.out.mono ?_
  rintro e z3 ⟨rfl, hzz⟩
  obtain rfl := hzz.symm
  go_wp2_with fail
  refine M2.out.mono ?_
  rintro e z4 ⟨rfl, hzz⟩
  obtain rfl := hzz.symm
  by_cases a0 : a = 0
  · subst a0
    have I0 := Lib.hid (inv_0 q u w3 QS.out HF3.out)
    go_wp2_with fail
    refine I0.out.mono ?_
    rintro e z5 ⟨rfl, hzz⟩
    obtain rfl := hzz.symm
    go_wp2_with fail
    go_ret
    exact ⟨rfl, HB3.out⟩
  have a0I : ¬ ((a : Int) = 0) := by omega
  obtain ⟨ia, hia⟩ : ∃ y, Sf.invF q a = y := ⟨_, rfl⟩
  have hI := Sf.inv_ok QS.out aq a0
  rw [hia] at hI
  obtain ⟨iaq, ia0, I1, -⟩ := hI
  have II : Sf.invF q ia = a := ((Sf.inv_ok QS.out iaq ia0).2.2.2 a aq (by rw [Sf.mul_comm QS.out iaq aq]; exact I1)).symm
  obtain ⟨y0, hy0⟩ : ∃ y, Sf.mulF q b ia = y := ⟨_, rfl⟩
  have y0q : y0 < q := hy0 ▸ Sf.mul_lt QS.out bq iaq
  have Y1 : Sf.mulF q a y0 = b := by
    rw [← hy0, ← Sf.mul_assoc QS.out aq bq iaq, Sf.mul_comm QS.out aq bq, Sf.mul_assoc QS.out bq aq iaq, I1]
    exact (Sf.units QS.out bq).2.1
  have UQ := Lib.hid (show ∀ y, y < q → Sf.mulF q a y = b → y = y0 by
    intro y hy e
    rw [← hy0, ← e, Sf.mul_comm QS.out (Sf.mul_lt QS.out aq hy) iaq, ← Sf.mul_assoc QS.out iaq aq hy, Sf.mul_comm QS.out iaq aq, I1, Sf.mul_comm QS.out (by have := q2; omega) hy]
    exact ((Sf.units QS.out hy).2.1).symm)
  have M3 : Hid (Calls Tryd.prog 24 #[u, .int .i64 (a : Int)] w3 (still (.int .i64 (ia : Int)) w3)) := Lib.hid (by
    have h := inv_el q a u w3 QS.out HF3.out aq a0
    rw [show Sf.invF q a = ia from hia] at h
    exact h)
  have M4 : Hid (Calls Tryd.prog 22 #[u, .int .i64 (a : Int), .int .i64 (ia : Int)] w3 (still (.int .i64 1) w3)) := Lib.hid (by
    have h := mul_ok q a ia u w3 QS.out HF3.out aq iaq
    rw [show Sf.mulF q a ia = 1 from I1] at h
    exact h)
  have M5 : Hid (Calls Tryd.prog 24 #[u, .int .i64 (ia : Int)] w3 (still (.int .i64 (a : Int)) w3)) := Lib.hid (by
    have h := inv_el q ia u w3 QS.out HF3.out iaq ia0
    rw [show Sf.invF q ia = a from II] at h
    exact h)
  have M6 : Hid (Calls Tryd.prog 22 #[u, .int .i64 (b : Int), .int .i64 (ia : Int)] w3 (still (.int .i64 (y0 : Int)) w3)) := Lib.hid (by
    have h := mul_ok q b ia u w3 QS.out HF3.out bq iaq
    rw [show Sf.mulF q b ia = y0 from hy0] at h
    exact h)
  have M7 : Hid (Calls Tryd.prog 22 #[u, .int .i64 (a : Int), .int .i64 (y0 : Int)] w3 (still (.int .i64 (b : Int)) w3)) := Lib.hid (by
    have h := mul_ok q a y0 u w3 QS.out HF3.out aq y0q
    rw [show Sf.mulF q a y0 = b from Y1] at h
    exact h)
  have YY := Lib.hid Y1
  clear hia I1 II hy0 Y1
  go_wp2_with fail
  refine M3.out.mono ?_
  rintro e z6 ⟨rfl, hzz⟩
  obtain rfl := hzz.symm
  go_wp2_with fail
  refine M4.out.mono ?_
  rintro e z7 ⟨rfl, hzz⟩
  obtain rfl := hzz.symm
  go_wp2_with fail
  refine M3.out.mono ?_
  rintro e z8 ⟨rfl, hzz⟩
  obtain rfl := hzz.symm
  go_wp2_with fail
  refine M5.out.mono ?_
  rintro e z9 ⟨rfl, hzz⟩
  obtain rfl := hzz.symm
  go_wp2_with fail
  clear M0 M1 M2 M4 M5
  go_loopw [10, 11] (fun c y wr => wr = w3 ∧ ∃ k m : Nat, k ≤ q ∧ m ≤ k ∧ y = .int .i64 (k : Int) ∧ c = .int .i64 (m : Int) ∧ Hid (m = if y0 < k then 1 else 0)) (fun _ y _ => q - (intOf y).toNat)
  case atStart => exact ⟨rfl, 0, 0, Nat.zero_le _, Nat.le_refl _, rfl, rfl, Lib.hid rfl⟩
  case round =>
    obtain ⟨rfl, k, m, hk, hm, rfl, rfl, H⟩ := hrel
    by_cases hlt : k < q
    · have hkI : (k : Int) < (q : Int) := by omega
      have cM := Lib.hid (mul_ok q a k u wr QS.out HF3.out aq hlt)
      by_cases hy : k = y0
      · have E : Sf.mulF q a k = b := by rw [hy]; exact YY.out
        rw [E] at cM
        have X : Hid (m + 1 = if y0 < k + 1 then 1 else 0) := Lib.hid (by rw [H.out, if_neg (by omega), if_pos (by omega)])
        clear E H hy
        go_wp2_with (go_at_call 22; refine cM.out.mono ?_; rintro e w' ⟨rfl, rfl⟩)
        go_roundw
        case rel => exact ⟨trivial, k + 1, m + 1, by omega, by omega, by go_num, by go_num, X⟩
        case measure => simp [intOf]; omega
      · obtain ⟨z, hz⟩ : ∃ z, Sf.mulF q a k = z := ⟨_, rfl⟩
        have nz : ¬ ((z : Int) = (b : Int)) := fun e => hy (UQ.out k hlt (by rw [hz]; omega))
        rw [hz] at cM
        have X : Hid (m = if y0 < k + 1 then 1 else 0) := Lib.hid (by rw [H.out]; split <;> split <;> omega)
        clear hz H hy
        go_wp2_with (go_at_call 22; refine cM.out.mono ?_; rintro e w' ⟨rfl, rfl⟩)
        go_roundw
        case rel => exact ⟨trivial, k + 1, m, by omega, by omega, by go_num, rfl, X⟩
        case measure => simp [intOf]; omega
    · obtain rfl : k = q := by omega
      obtain rfl : m = 1 := by rw [H.out, if_pos y0q]
      clear H
      go_wp2_with fail
      refine M3.out.mono ?_
      rintro e z10 ⟨rfl, hzz⟩
      obtain rfl := hzz.symm
      go_wp2_with fail
      refine M6.out.mono ?_
      rintro e z11 ⟨rfl, hzz⟩
      obtain rfl := hzz.symm
      go_wp2_with fail
      refine M7.out.mono ?_
      rintro e z12 ⟨rfl, hzz⟩
      obtain rfl := hzz.symm
      go_wp2_with fail
      go_ret
      exact ⟨rfl, HB3.out⟩
end Go.Proofs.YtclmlcoikohceaaDoor
