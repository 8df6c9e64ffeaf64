/- Law walk: DesignPairs. -/
import Derived.Test.YtnnacofjogfkeaaDoorYn
import Derived.Test.YtnnacofjogfkeaaDoorYp
import Derived.Test.YtnnacofjogfkeaaDoorGK
import Derived.Test.YtnnacofjogfkeaaDoorCoi
namespace Go.Proofs.YtnnacofjogfkeaaDoor
open Go Go.RowKit Pl Co
set_option linter.unusedVariables false
set_option linter.unusedSimpArgs false

theorem ch_small : ∀ v, v ≤ 8 → ∀ k, k ≤ v → ch v k ≤ 70 := by decide
theorem pair_comb {v k a b : Nat} {L : List (List Nat)} {r l : Nat} (h : Bal v L k r l) (ha : a < v) (hb : b < v) : prs L a b = if a = b then r else l := by
  by_cases e : a = b
  · subst e; rw [if_pos rfl, prs_self]; exact h.deg a ha
  · rw [if_neg e]; exact h.prs a b ha hb e
set_option maxHeartbeats 4000000 in
set_option maxRecDepth 100000 in
theorem pairslaw_walk (n : Nat) (w : World) (hK : Kd w) (hP : Pd w) (hn : n < 65536) : Calls Tryd.prog 8 #[.int .u16 (n : Int)] w (lawPost w) := by
  have AW := Lib.hid (awake7 w hK hP)
  have SM := Lib.hid fun W => small_any n W hn
  clear hK hP hn
  go_enter Tryd.func8, Tryd.ntmps8
  go_wp2_with fail
  refine AW.out.mono ?_
  rintro e z1 ⟨rfl, hb1⟩
  have B1 := Lib.hid hb1
  clear hb1 AW
  go_wp2_with fail
  refine (SM.out z1).mono ?_
  rintro e z2 ⟨v, k, rfl, ⟨k2, kv, v8⟩, hb2⟩
  have B2 := Lib.hid (B1.out.trans (hb2.mono B1.out.size))
  have c70 := ch_small v v8 k kv
  have BAL := Lib.hid (bal_comb (v := v) (k := k) (by omega) (by omega) k2 kv (by omega))
  have EQ := Lib.hid (comb_eqs k2 kv)
  have LN := Lib.hid (comb_len v v k)
  have r70 := ch_small (v - 1) (by omega) (k - 1) (by omega)
  have l70 := ch_small (v - 2) (by omega) (k - 2) (by omega)
  have CO := Lib.hid fun W => complete_le (v := v) (k := k) W k2 kv (by omega) (by omega)
  obtain ⟨r, hr⟩ : ∃ r, ch (v - 1) (k - 1) = r := ⟨_, rfl⟩
  obtain ⟨l, hl⟩ : ∃ l, ch (v - 2) (k - 2) = l := ⟨_, rfl⟩
  obtain ⟨c, hc⟩ : ∃ c, ch v k = c := ⟨_, rfl⟩
  rw [hr, hl] at BAL EQ
  rw [hr] at r70
  rw [hl] at l70
  rw [hc] at EQ LN c70
  obtain ⟨L, hL⟩ : ∃ L, comb v v k = L := ⟨_, rfl⟩
  rw [hL] at BAL LN CO
  clear hb2 SM hr hl hc hL
  go_wp2_with fail
  refine (CO.out z2).mono ?_
  rintro e z3 ⟨u, rfl, hg, hb3⟩
  obtain ⟨A1, k1, rfl⟩ := slform hg
  rw [LN.out] at hg ⊢
  have B3 := Lib.hid (B2.out.trans (hb3.mono B2.out.size))
  have G3 := Lib.hid hg
  have hba : Below z3.heap.size z3 (z3.alloc (.cells #[.int .i64 (v : Int), .slice A1 c k1] 25)) := (Below.refl _ _).alloc (Nat.le_refl _) _
  have RD := Lib.hid (row_new' z3 #[.int .i64 (v : Int), .slice A1 c k1] 25)
  clear hb3 hg CO
  unfold dv
  go_wp2_with fail
  obtain ⟨D, hD⟩ : ∃ D, z3.heap.size = D := ⟨_, rfl⟩
  obtain ⟨y, hy⟩ : ∃ y, (z3.alloc (.cells #[.int .i64 (v : Int), .slice A1 c k1] 25)) = y := ⟨_, rfl⟩
  rw [hy] at RD hba ⊢
  have GY := Lib.hid (G3.out.to hba)
  have BY := Lib.hid (B3.out.trans (hba.mono B3.out.size))
  rw [hD] at RD ⊢
  have CK : Hid (Calls Tryd.prog 16 #[.agg #[.int .i64 (v : Int), .slice A1 c k1]] y (bel (.tuple #[.int .i64 (r : Int), .int .i64 (l : Int), .int .i64 0]) y)) := Lib.hid (check_bal BAL.out _ y GY.out)
  clear hba hy hD G3 B3
  refine CK.out.mono ?_
  rintro e z4 ⟨rfl, hb4⟩
  have B4 := Lib.hid (BY.out.trans (hb4.mono BY.out.size))
  have G4 := Lib.hid (GY.out.to hb4)
  have R4 := Lib.hid (RD.out.go hb4)
  have e0 : z4.cell? ⟨D, 0, none⟩ = some (.int .i64 (v : Int)) := R4.out.cell 0
  have e1 : z4.cell? ⟨D, 1, none⟩ = some (.slice A1 c k1) := R4.out.cell 1
  have SH := Lib.hid fun a b (ha : a < v) (hb : b < v) W (hw : Below z4.heap.size z4 W) => (by
    have h := shared_in (a := a) (b := b) ha hb _ W (G4.out.to hw)
    rw [pair_comb BAL.out ha hb] at h
    exact h : Calls Tryd.prog 21 #[.agg #[.int .i64 (v : Int), .slice A1 c k1], .int .i64 (a : Int), .int .i64 (b : Int)] W (bel (.int .i64 ((if a = b then r else l : Nat) : Int)) W))
  clear hb4 CK
  go_wp2_with fail
  clear e0 e1
  go_loopw [10, 11, 12] (fun i _ _ wr => ∃ a : Nat, a ≤ v ∧ i = .int .i64 (a : Int) ∧ Hid (Below z4.heap.size z4 wr)) (fun i _ _ _ => v - (intOf i).toNat)
  case atStart => exact ⟨0, Nat.zero_le _, rfl, Lib.hid (Below.refl _ _)⟩
  case round =>
    obtain ⟨a, ha, rfl, I⟩ := hrel
    by_cases hlt : a < v
    · have aI : (a : Int) < (v : Int) := by omega
      go_wp2_with fail
      go_loopw [11, 12] (fun i _ wr => ∃ b : Nat, b ≤ v ∧ i = .int .i64 (b : Int) ∧ Hid (Below z4.heap.size z4 wr)) (fun i _ _ => v - (intOf i).toNat)
      case atStart => exact ⟨0, Nat.zero_le _, rfl, I⟩
      case round =>
        obtain ⟨b, hb, rfl, J⟩ := hrel
        by_cases blt : b < v
        · have bI : (b : Int) < (v : Int) := by omega
          have R5 := Lib.hid (R4.out.go J.out)
          have e0 : wr.cell? ⟨D, 0, none⟩ = some (.int .i64 (v : Int)) := R5.out.cell 0
          have e1 : wr.cell? ⟨D, 1, none⟩ = some (.slice A1 c k1) := R5.out.cell 1
          have CS := Lib.hid (SH.out a b hlt blt wr J.out)
          by_cases ab : a = b
          · subst ab
            rw [if_pos rfl] at CS
            have eB : ((a : Int) == (a : Int)) = true := by simp
            have fB : ((r : Int) != (r : Int)) = false := by simp
            go_wp2_with fail
            refine CS.out.mono ?_
            rintro e x ⟨rfl, hb5⟩
            have J5 := Lib.hid (J.out.trans (hb5.mono J.out.size))
            clear hb5 e0 e1 CS
            go_wp2_with fail
            go_roundw
            case rel => exact ⟨a + 1, by omega, by go_num, J5⟩
            case measure => simp [intOf]; omega
          · rw [if_neg ab] at CS
            have eB : ((a : Int) == (b : Int)) = false := by rw [beq_eq_false_iff_ne]; omega
            have fB : ((l : Int) != (l : Int)) = false := by simp
            go_wp2_with fail
            refine CS.out.mono ?_
            rintro e x ⟨rfl, hb5⟩
            have J5 := Lib.hid (J.out.trans (hb5.mono J.out.size))
            clear hb5 e0 e1 CS
            go_wp2_with fail
            go_roundw
            case rel => exact ⟨b + 1, by omega, by go_num, J5⟩
            case measure => simp [intOf]; omega
        · obtain rfl : b = v := by omega
          have bI : ¬ (b : Int) < (b : Int) := by omega
          go_wp2_with fail
          go_roundw
          case rel => exact ⟨a + 1, by omega, by go_num, J⟩
          case measure => simp [intOf]; omega
    · obtain rfl : a = v := by omega
      have aI : ¬ (a : Int) < (a : Int) := by omega
      have R5 := Lib.hid (R4.out.go I.out)
      have e1 : wr.cell? ⟨D, 1, none⟩ = some (.slice A1 c k1) := R5.out.cell 1
      have E := EQ.out
      have m1 : (c : Int) * (k : Int) = (a : Int) * (r : Int) := by rw [← Int.natCast_mul, ← Int.natCast_mul, E.1]
      have k1I : (k : Int) - 1 = ((k - 1 : Nat) : Int) := by omega
      have v1I : (a : Int) - 1 = ((a - 1 : Nat) : Int) := by omega
      have m2 : (r : Int) * ((k - 1 : Nat) : Int) = (l : Int) * ((a - 1 : Nat) : Int) := by rw [← Int.natCast_mul, ← Int.natCast_mul, E.2]
      have p1 : a * r ≤ 8 * 70 := Nat.mul_le_mul v8 r70
      have p2 : l * (a - 1) ≤ 70 * 8 := Nat.mul_le_mul l70 (by omega)
      have P1 := Lib.hid (show ((a : Int) * (r : Int)) ≤ 560 ∧ 0 ≤ (a : Int) * (r : Int) by rw [← Int.natCast_mul]; omega)
      have P2 := Lib.hid (show ((l : Int) * ((a - 1 : Nat) : Int)) ≤ 560 ∧ 0 ≤ (l : Int) * ((a - 1 : Nat) : Int) by rw [← Int.natCast_mul]; omega)
      obtain ⟨x, hx⟩ : ∃ x, (a : Int) * (r : Int) = x := ⟨_, rfl⟩
      obtain ⟨x', hx'⟩ : ∃ x', (l : Int) * ((a - 1 : Nat) : Int) = x' := ⟨_, rfl⟩
      rw [hx] at m1 P1
      rw [hx'] at m2 P2
      have w1 : IntKind.i64.wrap x = x := by have := P1.out; rw [IntKind.wrap_i64]; omega
      have w2 : IntKind.i64.wrap x' = x' := by have := P2.out; rw [IntKind.wrap_i64]; omega
      have w1' : wrap64 x = x := by have := P1.out; rw [IntWalk.wrap64_in _ ⟨by omega, by omega⟩]
      have w2' : wrap64 x' = x' := by have := P2.out; rw [IntWalk.wrap64_in _ ⟨by omega, by omega⟩]
      have B9 := Lib.hid (B4.out.trans (I.out.mono B4.out.size))
      clear E p1 p2
      go_wp2_with fail
      go_ret
      exact ⟨rfl, B9.out⟩
end Go.Proofs.YtnnacofjogfkeaaDoor
