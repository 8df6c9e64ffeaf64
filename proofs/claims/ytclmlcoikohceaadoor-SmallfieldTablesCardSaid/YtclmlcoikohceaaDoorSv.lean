/- Law walk: SmallfieldSizes; the reference's Prime. -/
import Derived.Test.YtclmlcoikohceaaDoorSn
import Derived.Test.YtclmlcoikohceaaDoorGK
namespace Go.Proofs.YtclmlcoikohceaaDoor
open Go Go.RowKit
set_option linter.unusedVariables false

/-- The number of digits. -/
def digs (q : Nat) : Nat := [0, 0, 1, 1, 2, 1, 0, 1, 3, 2].getD q 0
theorem rprime_any (q : Nat) (w : World) (hq : q ∈ Sf.sizes) : Calls Tryd.prog 13 #[.int .i64 (q : Int)] w (still (.tuple #[.int .i64 (Sf.prm q : Int), .int .i64 (digs q : Int)]) w) := by
  rcases (show ∀ q ∈ Sf.sizes, q = 2 ∨ q = 3 ∨ q = 4 ∨ q = 5 ∨ q = 7 ∨ q = 8 ∨ q = 9 by decide) q hq with rfl | rfl | rfl | rfl | rfl | rfl | rfl
  all_goals
    clear hq
    go_enter Tryd.func13, Tryd.ntmps13
    go_wp2
    go_ret2
    exact ⟨rfl, rfl⟩

theorem szs_cell {w w' : World} {B : Nat} (h : w.rowIs B 3 7 (fun i => .int .i64 (kS i : Int))) (hb : Below w.heap.size w w') (k : Nat) (hk : k < 7) : w'.cell? ⟨B, k, none⟩ = some (.int .i64 (kS k : Int)) :=
  (hb.cell (World.block_lt_of_cell? w _ (h.cell hk))).trans (h.cell hk)
set_option maxHeartbeats 2000000 in
set_option maxRecDepth 100000 in
theorem sizeslaw_walk (q : Int) (w : World) (hK : Kd w) : Calls Tryd.prog 3 #[.int .i64 q] w (lawPost w) := by
  have CA := fun W hb => Lib.hid (awake_any W (hK.below hb))
  have CA' := Lib.hid CA
  have CS := fun W hb => Lib.hid (sizes_any W (hK.below hb))
  have CS' := Lib.hid CS
  have KH := Lib.hid hK
  clear CA CS hK
  go_enter Tryd.func3, Tryd.ntmps3
  go_wp2_with fail
  refine ((CA'.out _ (Below.refl w.heap.size w)).out).mono ?_
  rintro e w1 ⟨rfl, hb1⟩
  have B1 := Lib.hid hb1
  clear hb1
  go_wp2_with fail
  refine ((CS'.out _ B1.out).out).mono ?_
  rintro e w2 ⟨v, rfl, hs, hb2⟩
  obtain ⟨B, rfl, hr⟩ := hs
  have HR := Lib.hid hr
  have B2 := Lib.hid (B1.out.trans (hb2.mono B1.out.size))
  have HL := Lib.hid (sizes_lit w2 3)
  have BL := Lib.hid (fun o => ((Below.refl w2.heap.size w2).alloc (Nat.le_refl _) o))
  have BQ := Lib.hid (fun o => B2.out.alloc B2.out.size o)
  clear hb2 hr CA' CS' B1
  go_wp2_with fail
  go_loopw [5, 6] (fun c i wr => ∃ (k : Nat) (b : Bool), k ≤ 7 ∧ i = .int .i64 (k : Int) ∧ c = .bool b ∧ Hid (Below w.heap.size w wr ∧ (∀ j, j < 7 → wr.cell? ⟨B, j, none⟩ = some (.int .i64 (kS j : Int))) ∧ (∀ j, j < 7 → wr.cell? ⟨w2.heap.size, j, none⟩ = some (.int .i64 (kS j : Int))) ∧ (b = true ↔ ∃ j, j < k ∧ (kS j : Int) = q))) (fun _ i _ => 7 - (intOf i).toNat)
  case atStart => exact ⟨0, false, by omega, rfl, rfl, Lib.hid ⟨BQ.out _, fun j hj => szs_cell HR.out (BL.out _) j hj, fun j hj => HL.out j hj, by simp⟩⟩
  case round =>
    obtain ⟨k, b, hk, rfl, rfl, H⟩ := hrel
    by_cases hlt : k < 7
    · have hkI : (k : Int) < 7 := by omega
      have c1 := H.out.2.1 k hlt
      have c2 := H.out.2.2.1 k hlt
      have W' := Lib.hid (fun nq => (below_drewN H.out.1 nq : Below w.heap.size w (wr.drewN nq)))
      have X := Lib.hid (fun nq => (⟨below_drewN H.out.1 nq, H.out.2.1, H.out.2.2.1⟩ : Below w.heap.size w (wr.drewN nq) ∧ (∀ j, j < 7 → (wr.drewN nq).cell? ⟨B, j, none⟩ = some (.int .i64 (kS j : Int))) ∧ (∀ j, j < 7 → (wr.drewN nq).cell? ⟨w2.heap.size, j, none⟩ = some (.int .i64 (kS j : Int)))))
      have Hb := Lib.hid H.out.2.2.2
      obtain ⟨s, hs⟩ : ∃ s, kS k = s := ⟨_, rfl⟩
      rw [hs] at c1 c2
      have KK := Lib.hid hs
      clear hs H BL BQ HL HR W'
      go_wp2_with fail
      go_quiet (fail)
      have Z := Lib.hid (X.out nq)
      have d1 : (wr.drewN nq).cell? ⟨B, k, none⟩ = some (.int .i64 (s : Int)) := c1
      clear c1 c2 X
      generalize wr.drewN nq = wz at Z d1 ⊢
      by_cases hb : b = true
      · subst hb
        have E : Hid (true = true ↔ ∃ j, j < k + 1 ∧ (kS j : Int) = q) := Lib.hid ⟨fun _ => by obtain ⟨j, hj, e⟩ := Hb.out.1 rfl; exact ⟨j, by omega, e⟩, fun _ => rfl⟩
        clear Hb KK
        go_wp2_with fail
        go_roundw
        case rel => exact ⟨k + 1, true, by omega, by go_num, rfl, Lib.hid ⟨Z.out.1, Z.out.2.1, Z.out.2.2, E.out⟩⟩
        case measure => simp [intOf]; omega
      · obtain rfl : b = false := by simpa using hb
        clear hb
        have N0 : ∀ j, j < k → (kS j : Int) ≠ q := fun j hj e => absurd (Hb.out.2 ⟨j, hj, e⟩) (by simp)
        by_cases hs : (s : Int) = q
        · have E : Hid (true = true ↔ ∃ j, j < k + 1 ∧ (kS j : Int) = q) := Lib.hid ⟨fun _ => ⟨k, by omega, by rw [KK.out]; exact hs⟩, fun _ => rfl⟩
          clear Hb KK N0
          subst hs
          go_wp2_with fail
          go_roundw
          case rel => exact ⟨k + 1, true, by omega, by go_num, rfl, Lib.hid ⟨Z.out.1, Z.out.2.1, Z.out.2.2, E.out⟩⟩
          case measure => simp [intOf]; omega
        · have E : Hid (false = true ↔ ∃ j, j < k + 1 ∧ (kS j : Int) = q) := Lib.hid ⟨fun h => absurd h (by simp), fun ⟨j, hj, e⟩ => by
            rcases Nat.lt_or_eq_of_le (Nat.le_of_lt_succ hj) with h | h
            · exact absurd e (N0 j h)
            · rw [h, KK.out] at e; exact absurd e hs⟩
          have hsB : ((s : Int) == q) = false := by simpa using hs
          clear Hb KK N0 hs
          go_wp2_with fail
          go_roundw
          case rel => exact ⟨k + 1, false, by omega, by go_num, rfl, Lib.hid ⟨Z.out.1, Z.out.2.1, Z.out.2.2, E.out⟩⟩
          case measure => simp [intOf]; omega
    · obtain rfl : k = 7 := by omega
      have HB := Lib.hid H.out.1
      have HKr := Lib.hid (KH.out.below H.out.1)
      cases b with
      | false =>
        have HE := Lib.hid (new_err q wr HKr.out fun k hk e => absurd (H.out.2.2.2.2 ⟨k, hk, e⟩) (by simp))
        clear H HKr BL BQ HL HR KH B2
        go_wp2_with fail
        refine HE.out.mono ?_
        rintro e w4 ⟨rfl, hb4⟩
        have B4 := Lib.hid (HB.out.trans (hb4.mono HB.out.size))
        clear hb4
        go_wp2_with fail
        go_ret
        exact ⟨rfl, B4.out⟩
      | true =>
        obtain ⟨s, hs, rfl⟩ : ∃ s : Nat, s ∈ Sf.sizes ∧ (s : Int) = q := by
          obtain ⟨j, hj, e⟩ := H.out.2.2.2.1 rfl
          exact ⟨kS j, (kS_ok j hj).1, e⟩
        have HN := Lib.hid (new_ok s wr HKr.out hs)
        have QS := Lib.hid hs
        clear H HKr BL BQ HL HR KH B2 hs
        go_wp2_with fail
        refine HN.out.mono ?_
        rintro e w4 ⟨u, rfl, hf, hb4⟩
        have HF := Lib.hid hf
        have B4 := Lib.hid (HB.out.trans (hb4.mono HB.out.size))
        have M0 := Lib.hid (rprime_any s w4 QS.out)
        have M1 := Lib.hid (size_ok s u w4 (Sf.prm_ok QS.out).2.2.1 HF.out)
        have M2 := Lib.hid (prime_ok s u w4 HF.out)
        obtain ⟨p, hp⟩ : ∃ p, Sf.prm s = p := ⟨_, rfl⟩
        rw [hp] at M0 M2
        clear hf hb4 hp
        go_wp2_with fail
        refine M0.out.mono ?_
        rintro e z1 ⟨rfl, hzz⟩
        obtain rfl := hzz.symm
        go_wp2_with fail
        refine M1.out.mono ?_
        rintro e z2 ⟨rfl, hzz⟩
        obtain rfl := hzz.symm
        go_wp2_with fail
        refine M2.out.mono ?_
        rintro e z3 ⟨rfl, hzz⟩
        obtain rfl := hzz.symm
        go_wp2_with fail
        go_ret
        exact ⟨rfl, B4.out⟩
end Go.Proofs.YtclmlcoikohceaaDoor
