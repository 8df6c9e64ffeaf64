/- Layer 13: contracts of the program: Valid. -/
import Derived.Test.YtdjjihppaobbcaaFg
namespace Go.Proofs.Ytdjjihppaobbcaa
open Go Go.RowKit Flt
set_option linter.unusedVariables false
set_option linter.unusedSimpArgs false
set_option maxHeartbeats 2000000 in
set_option maxRecDepth 100000 in
theorem ple_any (y : Int) (w : World) : Calls Try.prog 72 #[.int .i64 y] w (kPost (.bool (aims y)) w) := by
  by_cases y3 : y = 3
  · have E : Hid (aims y = true) := Lib.hid (by simp [aims, y3])
    have d3 : (y == 3) = true := by simp [y3]
    clear y3
    rw [E.out]
    go_enter Try.func72, Try.ntmps72
    go_wp2_with fail
    go_ret
    exact ⟨rfl, rfl⟩
  · have d3 : (y == 3) = false := by simp [y3]
    by_cases y5 : y = 5
    · have E : Hid (aims y = true) := Lib.hid (by simp [aims, y5])
      have d5 : (y == 5) = true := by simp [y5]
      clear y3 y5
      rw [E.out]
      go_enter Try.func72, Try.ntmps72
      go_wp2_with fail
      go_ret
      exact ⟨rfl, rfl⟩
    · have E : Hid (aims y = false) := Lib.hid (by simp [aims, y3, y5])
      have d5 : (y == 5) = false := by simp [y5]
      clear y3 y5
      rw [E.out]
      go_enter Try.func72, Try.ntmps72
      go_wp2_with fail
      go_ret
      exact ⟨rfl, rfl⟩
theorem last_lo : ∀ (L : List F) (p : Int), vldP p L = true → p ≤ last p L
  | [], p, _ => Int.le_refl _
  | g :: L, p, h => by
    rw [vldP] at h
    simp only [Bool.and_eq_true, decide_eq_true_eq] at h
    exact Int.le_trans (Int.le_of_lt h.1.1) (last_lo L g.pos h.2)
set_option maxHeartbeats 4000000 in
set_option maxRecDepth 100000 in
theorem pvl_any (v : Value) (L : List F) (w : World) (h : Fts w v L) : Calls Try.prog 40 #[v] w (mPost (.bool (vld L)) w) := by
  have HL := Lib.hid h.len
  obtain ⟨A, cc, rfl⟩ := h.form
  have HO := Lib.hid h
  clear h
  obtain ⟨n, hn⟩ : ∃ n, L.length = n := ⟨_, rfl⟩
  have EN := Lib.hid hn
  rw [hn] at HO HL ⊢
  obtain ⟨q, hq⟩ : ∃ q, vld L = q := ⟨_, rfl⟩
  have EQ := Lib.hid hq
  rw [hq]
  clear hn hq
  go_enter Try.func40, Try.ntmps40
  go_wp2_with fail
  go_loopw [3, 8] (fun lv i wr => ∃ (k : Nat) (lp : Int), k ≤ n ∧ lv = .int .i64 lp ∧ i = .int .i64 (k : Int) ∧ Hid (Below w.heap.size w wr ∧ vld (L.take k) = true ∧ last (-1) (L.take k) = lp)) (fun _ i _ => n - (intOf i).toNat)
  case atStart => exact ⟨0, -1, Nat.zero_le _, rfl, rfl, Lib.hid ⟨Below.refl _ _, rfl, rfl⟩⟩
  case round =>
    obtain ⟨k, lp, hk, rfl, rfl, V⟩ := hrel
    have nb := HL.out
    by_cases hlt : k < n
    · have kI : (k : Int) < (n : Int) := by omega
      obtain ⟨b, off, hk2, rfl, hr⟩ := HO.out.nth hlt
      have VS := Lib.hid (vld_step hk2 V.out.2.1)
      have VT := Lib.hid (vld_take (L := L) (k := k + 1))
      have LS := Lib.hid (last_take hk2 (-1))
      have TB := Lib.hid V.out.1
      have LO := last_lo _ _ V.out.2.1
      rw [V.out.2.2] at VS LO
      obtain ⟨f, hf⟩ : ∃ f, L[k] = f := ⟨_, rfl⟩
      rw [hf] at hr VS LS
      obtain ⟨x, y, z⟩ := f
      have RG := Lib.hid (rng13 hr V.out.1)
      clear V hr hf
      have BADW : Hid (x ≤ lp ∨ y < 1 ∨ 7 < y ∨ z < 0 → vld L = false) := Lib.hid fun c => VT.out (by rw [VS.out]; simp [okF]; omega)
      have BADL : Hid (aims y = false → 0 < z → vld L = false) := Lib.hid fun c d => VT.out (by rw [VS.out]; simp [aims] at c; simp [okF]; omega)
      have GOOD : Hid (lp < x → 1 ≤ y → y ≤ 7 → 0 ≤ z → (z = 0 ∨ aims y = true) → vld (L.take (k + 1)) = true) := Lib.hid fun c d e f g => by rw [VS.out]; simp [aims] at g; simp [okF]; omega
      have AL := Lib.hid (TB.out.alloc TB.out.size (.cells #[.int .i64 x, .int .i64 y, .int .i64 z] 80))
      clear VS VT LO
      go_wp2_with (refine wpList_load_mid rfl _ _ rfl b (off + k * 3) rfl [.int .i64 x, .int .i64 y, .int .i64 z] _ RG.out Try.underlying80 rfl (by kernel_rfl) ?_)
      · go_ret
        exact ⟨by rw [← EQ.out, BADW.out (by omega)]; rfl, AL.out⟩
      · refine (ple_any y _).mono ?_
        rintro e w5 ⟨rfl, rfl⟩
        cases ha : aims y with
        | true =>
          have GD := Lib.hid (GOOD.out (by omega) (by omega) (by omega) (by omega) (Or.inr ha))
          clear ha
          go_wp2_with fail
          go_roundw
          case rel => exact ⟨k + 1, x, by omega, rfl, by go_num, Lib.hid ⟨AL.out, GD.out, LS.out⟩⟩
          case measure => simp [intOf]; omega
        | false =>
          have BD := Lib.hid (BADL.out ha (by omega))
          clear ha
          go_wp2_with fail
          go_ret
          exact ⟨by rw [← EQ.out, BD.out]; rfl, AL.out⟩
      · have GD := Lib.hid (GOOD.out (by omega) (by omega) (by omega) (by omega) (Or.inl (by omega)))
        go_roundw
        case rel => exact ⟨k + 1, x, by omega, rfl, by go_num, Lib.hid ⟨AL.out, GD.out, LS.out⟩⟩
        case measure => simp [intOf]; omega
      all_goals go_ret
      all_goals exact ⟨by rw [← EQ.out, BADW.out (by omega)]; rfl, AL.out⟩
    · obtain rfl : k = n := by omega
      have kI : ¬ (k : Int) < (k : Int) := by omega
      have dk : decide ((k : Int) < (k : Int)) = false := decide_eq_false kI
      have VF := Lib.hid V.out.2.1
      have TB := Lib.hid V.out.1
      clear V
      go_wp2_with fail
      go_ret
      exact ⟨by rw [← EQ.out, ← VF.out, List.take_of_length_le (Nat.le_of_eq EN.out)]; rw [List.take_of_length_le (Nat.le_of_eq EN.out)] at VF; rw [VF.out]; rfl, TB.out⟩
end Go.Proofs.Ytdjjihppaobbcaa
