/- Law walk: DesignShared. -/
import Derived.Test.YtnnacofjogfkeaaDoorYn
import Derived.Test.YtnnacofjogfkeaaDoorYp
import Derived.Test.YtnnacofjogfkeaaDoorGK
namespace Go.Proofs.YtnnacofjogfkeaaDoor
open Go Go.RowKit Pl Co
set_option linter.unusedVariables false
set_option linter.unusedSimpArgs false

theorem Pd.to {w w' : World} (h : Pd w) (hb : Below w.heap.size w w') : Pd w' := h.below hb
theorem shI_comm (m : List (List Int)) (a b : Int) : shI m a b = shI m b a := by
  unfold shI
  congr 2
  funext l
  rw [Bool.and_comm]
theorem shD_comm (d : Int) (m : List (List Int)) (a b : Int) : shD d m a b = shD d m b a := by
  unfold shD
  rw [shI_comm]
  by_cases h : (0 ≤ a ∧ a < d) ∧ (0 ≤ b ∧ b < d)
  · rw [if_pos h, if_pos ⟨h.2, h.1⟩]
  · rw [if_neg h, if_neg fun k => h ⟨k.2, k.1⟩]
set_option maxHeartbeats 4000000 in
set_option maxRecDepth 100000 in
theorem sharedlaw_walk (d a b : Int) (m : List (List Int)) (v : Value) (w : World) (hK : Kd w) (hP : Pd w) (h : Gi w v m) : Calls Tryd.prog 7 #[.agg #[.int .i64 d, v], .int .i64 a, .int .i64 b] w (lawPost w) := by
  have FW := Lib.hid fun W (hb : Below w.heap.size w W) => few_any d m v W (h.to hb)
  have SA := Lib.hid fun W (hb : Below w.heap.size w W) => shared_any d a b m v W (h.to hb)
  have SB := Lib.hid fun W (hb : Below w.heap.size w W) => shared_any d b a m v W (h.to hb)
  rw [shD_comm d m b a] at SB
  have OUT := Lib.hid (show ¬ ((0 ≤ a ∧ a < d) ∧ (0 ≤ b ∧ b < d)) → shD d m a b = 0 from fun h => if_neg h)
  have INN := Lib.hid (show ((0 ≤ a ∧ a < d) ∧ (0 ≤ b ∧ b < d)) → shD d m a b = shI m a b from fun h => if_pos h)
  have AW := Lib.hid fun W (hb : Below w.heap.size w W) => awake7 W (hK.below hb) (hP.below hb)
  obtain ⟨S, hS⟩ : ∃ S, shD d m a b = S := ⟨_, rfl⟩
  rw [hS] at SA SB OUT INN
  obtain ⟨f, hf⟩ : ∃ f, fewB m = f := ⟨_, rfl⟩
  rw [hf] at FW
  obtain ⟨A1, c1, rfl⟩ := slform h
  obtain ⟨N, hN⟩ : ∃ N, m.length = N := ⟨_, rfl⟩
  rw [hN] at h FW SA SB ⊢
  have l1 := h.cells.2.1
  have l2 := h.cells.2.2.1
  unfold maxLen at l2
  obtain ⟨B, hB⟩ : ∃ B, w.heap.size = B := ⟨_, rfl⟩
  obtain ⟨W, hW⟩ : ∃ W, w.alloc (.cells #[.int .i64 d, .slice A1 N c1] 25) = W := ⟨_, rfl⟩
  have hbw : Below w.heap.size w W := by rw [← hW]; exact (Below.refl _ _).alloc (Nat.le_refl _) _
  have r1 : Row W B 25 #[.int .i64 d, .slice A1 N c1] := by
    rw [← hW, ← hB]; exact row_new' w _ _
  have RW := Lib.hid r1
  have BW := Lib.hid hbw
  have HE := Lib.hid hB
  have HW := Lib.hid hW
  have HM := Lib.hid hN
  have HG := Lib.hid h
  clear h hN r1 hbw hB hW hS hf hK hP
  go_enter Tryd.func7, Tryd.ntmps7
  go_wp2_with fail
  rw [HE.out, HW.out]
  refine (AW.out W BW.out).mono ?_
  rintro e z1 ⟨rfl, hb⟩
  have BZ := Lib.hid (BW.out.trans (hb.mono BW.out.size))
  have RZ := Lib.hid (RW.out.go hb)
  have e0 : z1.cell? ⟨B, 0, none⟩ = some (.int .i64 d) := RZ.out.cell 0
  have e1 : z1.cell? ⟨B, 1, none⟩ = some (.slice A1 N c1) := RZ.out.cell 1
  clear hb AW
  go_wp2_with fail
  refine (FW.out z1 BZ.out).mono ?_
  rintro e z2 ⟨rfl, hb⟩
  have BY := Lib.hid (BZ.out.trans (hb.mono BZ.out.size))
  have RY := Lib.hid (RZ.out.go hb)
  clear hb FW e0 e1
  cases f with
  | false =>
    clear SA SB OUT INN
    go_wp2_with fail
    go_ret
    exact ⟨rfl, BY.out⟩
  | true =>
    have e0 : z2.cell? ⟨B, 0, none⟩ = some (.int .i64 d) := RY.out.cell 0
    have e1 : z2.cell? ⟨B, 1, none⟩ = some (.slice A1 N c1) := RY.out.cell 1
    go_wp2_with fail
    go_loopw [7, 8] (fun s i wr => wr = z2 ∧ ∃ g q : Nat, (g ≤ N ∧ q ≤ g) ∧ i = .int .i64 (g : Int) ∧ s = .int .i64 (q : Int) ∧ Hid (shI (m.take g) a b = q)) (fun _ i _ => N - (intOf i).toNat)
    case atStart => exact ⟨rfl, 0, 0, ⟨Nat.zero_le _, Nat.le_refl _⟩, rfl, rfl, Lib.hid rfl⟩
    case round =>
      obtain ⟨rfl, g, q, ⟨hg, hq⟩, rfl, rfl, I⟩ := hrel
      by_cases hlt : g < N
      · have gI : (g : Int) < (N : Int) := by omega
        obtain ⟨b1, o1, rfl, hf⟩ := HG.out.cells.2.2.2 (by omega)
        obtain ⟨u, y1, n1⟩ := hf g hlt
        have x1 := cell7 y1 BY.out
        have SU := Lib.hid (shI_succ (m := m) (by rw [HM.out]; exact hlt) a b)
        rw [I.out] at SU
        obtain ⟨l, hl⟩ : ∃ l, m.getD g [] = l := ⟨_, rfl⟩
        rw [hl] at n1 SU
        have NI : Is wr u l := Sl.keeps Iv.keeps _ _ _ _ n1 (Below.toSame BY.out)
        have CA := Lib.hid (hasi_any l a u wr NI)
        have CB := Lib.hid (hasi_any l b u wr NI)
        obtain ⟨A3, c3, rfl⟩ := slform n1
        obtain ⟨ba, hba⟩ : ∃ x, hasI l a = x := ⟨_, rfl⟩
        obtain ⟨bb, hbb⟩ : ∃ x, hasI l b = x := ⟨_, rfl⟩
        rw [hba] at CA SU
        rw [hbb] at CB SU
        clear hf y1 n1 hl NI hba hbb I
        go_wp2_with fail
        refine CA.out.mono ?_
        rintro e z3 ⟨rfl, rfl⟩
        clear CA
        cases ba with
        | false =>
          have E2 := Lib.hid (SU.out.trans (if_neg (by simp)))
          clear SU CB
          go_wp2_with fail
          go_roundw
          case rel => exact ⟨trivial, g + 1, q, by omega, by go_num, rfl, E2⟩
          case measure => simp [intOf]; omega
        | true =>
          go_wp2_with fail
          refine CB.out.mono ?_
          rintro e z3 ⟨rfl, rfl⟩
          clear CB
          cases bb with
          | false =>
            have E2 := Lib.hid (SU.out.trans (if_neg (by simp)))
            clear SU
            go_wp2_with fail
            go_roundw
            case rel => exact ⟨trivial, g + 1, q, by omega, by go_num, rfl, E2⟩
            case measure => simp [intOf]; omega
          | true =>
            have E2 := Lib.hid (SU.out.trans (if_pos (by simp)))
            clear SU
            go_wp2_with fail
            go_roundw
            case rel => exact ⟨trivial, g + 1, q + 1, by omega, by go_num, by go_num, E2⟩
            case measure => simp [intOf]; omega
      · obtain rfl : g = N := by omega
        have gI : ¬ (g : Int) < (g : Int) := by omega
        have E2 := Lib.hid (show shI m a b = q by have h := I.out; rwa [List.take_of_length_le (by rw [HM.out]; exact Nat.le_refl _)] at h)
        have fin : ∀ (n : Nat), (S = n) → Hid (Calls Tryd.prog 21 #[.agg #[.int .i64 d, .slice A1 g c1], .int .i64 a, .int .i64 b] wr (bel (.int .i64 (n : Int)) wr)) := fun n hn => Lib.hid (by have h := SA.out wr BY.out; rwa [hn] at h)
        have fin2 : ∀ (n : Nat), (S = n) → ∀ z, Hid (Below w.heap.size w z) → Hid (Calls Tryd.prog 21 #[.agg #[.int .i64 d, .slice A1 g c1], .int .i64 b, .int .i64 a] z (bel (.int .i64 (n : Int)) z)) := fun n hn z hz => Lib.hid (by have h := SB.out z hz.out; rwa [hn] at h)
        have FA := Lib.hid fin
        have FB := Lib.hid fin2
        clear fin fin2 SA SB I
        by_cases a1 : a < 0
        · have E := Lib.hid (OUT.out (by omega))
          have CA := FA.out 0 E.out
          clear OUT INN
          go_wp2_with fail
          refine CA.out.mono ?_
          rintro e z3 ⟨rfl, hb⟩
          have B3 := Lib.hid (BY.out.trans (hb.mono BY.out.size))
          have R3 := Lib.hid (RY.out.go hb)
          have CB := FB.out 0 E.out z3 B3
          clear e0 e1 hb CA
          have e0 : z3.cell? ⟨B, 0, none⟩ = some (.int .i64 d) := R3.out.cell 0
          have e1 : z3.cell? ⟨B, 1, none⟩ = some (.slice A1 g c1) := R3.out.cell 1
          go_wp2_with fail
          refine CB.out.mono ?_
          rintro e z4 ⟨rfl, hb⟩
          have B4 := Lib.hid (B3.out.trans (hb.mono B3.out.size))
          clear CB hb
          go_wp2_with fail
          go_ret
          exact ⟨rfl, B4.out⟩
        by_cases a2 : d ≤ a
        · have E := Lib.hid (OUT.out (by omega))
          have CA := FA.out 0 E.out
          clear OUT INN
          go_wp2_with fail
          refine CA.out.mono ?_
          rintro e z3 ⟨rfl, hb⟩
          have B3 := Lib.hid (BY.out.trans (hb.mono BY.out.size))
          have R3 := Lib.hid (RY.out.go hb)
          have CB := FB.out 0 E.out z3 B3
          clear e0 e1 hb CA
          have e0 : z3.cell? ⟨B, 0, none⟩ = some (.int .i64 d) := R3.out.cell 0
          have e1 : z3.cell? ⟨B, 1, none⟩ = some (.slice A1 g c1) := R3.out.cell 1
          go_wp2_with fail
          refine CB.out.mono ?_
          rintro e z4 ⟨rfl, hb⟩
          have B4 := Lib.hid (B3.out.trans (hb.mono B3.out.size))
          clear CB hb
          go_wp2_with fail
          go_ret
          exact ⟨rfl, B4.out⟩
        by_cases b1 : b < 0
        · have E := Lib.hid (OUT.out (by omega))
          have CA := FA.out 0 E.out
          clear OUT INN
          go_wp2_with fail
          refine CA.out.mono ?_
          rintro e z3 ⟨rfl, hb⟩
          have B3 := Lib.hid (BY.out.trans (hb.mono BY.out.size))
          have R3 := Lib.hid (RY.out.go hb)
          have CB := FB.out 0 E.out z3 B3
          clear e0 e1 hb CA
          have e0 : z3.cell? ⟨B, 0, none⟩ = some (.int .i64 d) := R3.out.cell 0
          have e1 : z3.cell? ⟨B, 1, none⟩ = some (.slice A1 g c1) := R3.out.cell 1
          go_wp2_with fail
          refine CB.out.mono ?_
          rintro e z4 ⟨rfl, hb⟩
          have B4 := Lib.hid (B3.out.trans (hb.mono B3.out.size))
          clear CB hb
          go_wp2_with fail
          go_ret
          exact ⟨rfl, B4.out⟩
        by_cases b2 : d ≤ b
        · have E := Lib.hid (OUT.out (by omega))
          have CA := FA.out 0 E.out
          clear OUT INN
          go_wp2_with fail
          refine CA.out.mono ?_
          rintro e z3 ⟨rfl, hb⟩
          have B3 := Lib.hid (BY.out.trans (hb.mono BY.out.size))
          have R3 := Lib.hid (RY.out.go hb)
          have CB := FB.out 0 E.out z3 B3
          clear e0 e1 hb CA
          have e0 : z3.cell? ⟨B, 0, none⟩ = some (.int .i64 d) := R3.out.cell 0
          have e1 : z3.cell? ⟨B, 1, none⟩ = some (.slice A1 g c1) := R3.out.cell 1
          go_wp2_with fail
          refine CB.out.mono ?_
          rintro e z4 ⟨rfl, hb⟩
          have B4 := Lib.hid (B3.out.trans (hb.mono B3.out.size))
          clear CB hb
          go_wp2_with fail
          go_ret
          exact ⟨rfl, B4.out⟩
        · have E := Lib.hid ((INN.out (by omega)).trans E2.out)
          have CA := FA.out q E.out
          clear OUT INN
          go_wp2_with fail
          refine CA.out.mono ?_
          rintro e z3 ⟨rfl, hb⟩
          have B3 := Lib.hid (BY.out.trans (hb.mono BY.out.size))
          have R3 := Lib.hid (RY.out.go hb)
          have CB := FB.out q E.out z3 B3
          clear e0 e1 hb CA
          have e0 : z3.cell? ⟨B, 0, none⟩ = some (.int .i64 d) := R3.out.cell 0
          have e1 : z3.cell? ⟨B, 1, none⟩ = some (.slice A1 g c1) := R3.out.cell 1
          go_wp2_with fail
          refine CB.out.mono ?_
          rintro e z4 ⟨rfl, hb⟩
          have B4 := Lib.hid (B3.out.trans (hb.mono B3.out.size))
          clear CB hb
          go_wp2_with fail
          go_ret
          exact ⟨rfl, B4.out⟩
end Go.Proofs.YtnnacofjogfkeaaDoor
