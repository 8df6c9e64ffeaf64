/- Contracts: Same, for equal designs. -/
import Derived.Test.YtnnacofjogfkeaaDoorUh
namespace Go.Proofs.YtnnacofjogfkeaaDoor
open Go Go.RowKit Pl
set_option linter.unusedVariables false
set_option linter.unusedSimpArgs false

theorem Gs.cells {w : World} {A : Option Addr} {n c : Nat} {L : List (List Nat)} (h : Gs w (.slice A n c) L) : L.length = n ∧ n ≤ c ∧ c ≤ maxLen ∧ (0 < n → ∃ b off, A = some ⟨b, off, none⟩ ∧ ∀ k, k < n → ∃ u, w.cell? ⟨b, off + k, none⟩ = some u ∧ Ns w u (L.getD k [])) := by
  obtain ⟨A', c', he, hm, hz, hc⟩ := h
  injection he with h1 h2 h3
  subst h1 h3
  refine ⟨h2.symm, by omega, hm.2, fun hn => ?_⟩
  obtain ⟨b, off, hb, hcell⟩ := hc (by omega)
  refine ⟨b, off, hb, fun k hk => ?_⟩
  obtain ⟨u, hu, hr⟩ := hcell k (by omega)
  exact ⟨u, hu, by rw [getD_in (show k < L.length by omega)]; exact hr⟩
theorem Dr.gs {w w' : World} {v : Value} {L : List (List Nat)} (h : Gs w v L) (hd : Dr w w') : Gs w' v L := h.to (hd.below _)
theorem Dr.step {w w' : World} (h : Dr w w') (n : Nat) : Dr w (w'.drewN n) := h.more n
set_option maxHeartbeats 4000000 in
set_option maxRecDepth 100000 in
theorem same_any (n : Nat) (L : List (List Nat)) (va vb : Value) (w : World) (ha : Gs w va L) (hb : Gs w vb L) : Calls Tryd.prog 13 #[dv n va, dv n vb] w (bel (.bool true) w) := by
  obtain ⟨A1, c1, rfl⟩ := slform ha
  obtain ⟨A2, c2, rfl⟩ := slform hb
  obtain ⟨N, hN⟩ : ∃ N, L.length = N := ⟨_, rfl⟩
  rw [hN] at ha hb ⊢
  have hc := ha.cells
  have l1 := hc.2.1
  have l2 := hc.2.2.1
  unfold maxLen at l2
  obtain ⟨B1, hB1⟩ : ∃ B, w.heap.size = B := ⟨_, rfl⟩
  obtain ⟨W, hW⟩ : ∃ W, (w.alloc (.cells #[.int .i64 (n : Int), .slice A1 N c1] 25)).alloc (.cells #[.int .i64 (n : Int), .slice A2 N c2] 25) = W := ⟨_, rfl⟩
  have hbw : Below w.heap.size w W := by rw [← hW]; exact ((Below.refl _ _).alloc (Nat.le_refl _) _).alloc (by simp) _
  have r1 : Row W B1 25 #[.int .i64 (n : Int), .slice A1 N c1] := by
    rw [← hW, ← hB1]; exact (row_new' w _ _).go ((Below.refl _ _).alloc (Nat.le_refl _) _)
  have r2 : Row W (B1 + 1) 25 #[.int .i64 (n : Int), .slice A2 N c2] := by
    have := row_new' (w.alloc (.cells #[.int .i64 (n : Int), .slice A1 N c1] 25)) #[.int .i64 (n : Int), .slice A2 N c2] 25
    rw [World.size_alloc, hB1, hW] at this
    exact this
  have d0 := r1.cell 0
  have d1 := r1.cell 1
  have d2 := r2.cell 0
  have d3 := r2.cell 1
  have HA := Lib.hid (ha.to hbw)
  have HB := Lib.hid (hb.to hbw)
  have R1 := Lib.hid r1
  have R2 := Lib.hid r2
  have BW := Lib.hid hbw
  have HE := Lib.hid hB1
  have HW := Lib.hid hW
  clear ha hb hc hN r1 r2 hbw hB1 hW
  unfold dv
  go_enter Tryd.func13, Tryd.ntmps13
  go_wp2_with fail
  rw [HE.out, HW.out]
  go_wp2_with fail
  clear d0 d1 d2 d3
  go_loopw [5, 6] (fun i _ wr => ∃ k : Nat, k ≤ N ∧ i = .int .i64 (k : Int) ∧ Hid (Dr W wr)) (fun i _ _ => N - (intOf i).toNat)
  case atStart => exact ⟨0, Nat.zero_le _, rfl, Lib.hid (Dr.refl _)⟩
  case round =>
    obtain ⟨k, hk, rfl, H⟩ := hrel
    have e1 := (H.out.cell ⟨B1, 1, none⟩).trans (R1.out.cell 1)
    have e2 := (H.out.cell ⟨B1 + 1, 1, none⟩).trans (R2.out.cell 1)
    by_cases hlt : k < N
    · have kI : (k : Int) < (N : Int) := by omega
      obtain ⟨b1, o1, rfl, f1⟩ := (Dr.gs HA.out H.out).cells.2.2.2 (by omega)
      obtain ⟨b2, o2, rfl, f2⟩ := (Dr.gs HB.out H.out).cells.2.2.2 (by omega)
      obtain ⟨u1, x1, n1⟩ := f1 k hlt
      obtain ⟨u2, x2, n2⟩ := f2 k hlt
      obtain ⟨l, hl⟩ : ∃ l, L.getD k [] = l := ⟨_, rfl⟩
      rw [hl] at n1 n2
      obtain ⟨A3, c3, rfl⟩ := slform n1
      obtain ⟨A4, c4, rfl⟩ := slform n2
      obtain ⟨m, hm⟩ : ∃ m, l.length = m := ⟨_, rfl⟩
      rw [hm] at n1 n2 x1 x2
      have N1 := Lib.hid n1
      have N2 := Lib.hid n2
      have m1 := n1.cells.2.1
      have m2 := n1.cells.2.2.1
      unfold maxLen at m2
      have DR := Lib.hid fun nq => H.out.step nq
      clear f1 f2 hl hm n1 n2 H
      go_wp2_with fail
      go_quiet (fail)
      have DZ := Lib.hid (DR.out nq)
      have NZ1 := Lib.hid (show Ns (wr.drewN nq) (.slice A3 m c3) l from N1.out.to (below_drewN (Below.refl _ _) nq))
      have NZ2 := Lib.hid (show Ns (wr.drewN nq) (.slice A4 m c4) l from N2.out.to (below_drewN (Below.refl _ _) nq))
      have e3 : (wr.drewN nq).cell? ⟨B1, 1, none⟩ = some (.slice (some ⟨b1, o1, none⟩) N c1) := e1
      have e4 : (wr.drewN nq).cell? ⟨B1 + 1, 1, none⟩ = some (.slice (some ⟨b2, o2, none⟩) N c2) := e2
      have x3 : (wr.drewN nq).cell? ⟨b1, o1 + k, none⟩ = some (.slice A3 m c3) := x1
      have x4 : (wr.drewN nq).cell? ⟨b2, o2 + k, none⟩ = some (.slice A4 m c4) := x2
      have E3 := Lib.hid e3
      have E4 := Lib.hid e4
      have X3 := Lib.hid x3
      have X4 := Lib.hid x4
      clear e1 e2 x1 x2 DR N1 N2 e3 e4 x3 x4
      generalize wr.drewN nq = wz at DZ NZ1 NZ2 E3 E4 X3 X4 ⊢
      go_wp2_with fail
      go_loopw [6] (fun j wq => ∃ i : Nat, i ≤ m ∧ j = .int .i64 (i : Int) ∧ Hid (Dr wz wq)) (fun j _ => m - (intOf j).toNat)
      case atStart => exact ⟨0, Nat.zero_le _, rfl, Lib.hid (Dr.refl _)⟩
      case round =>
        obtain ⟨i, hi, rfl, I⟩ := hrel
        have e3 := (I.out.cell _).trans E3.out
        have x3 := (I.out.cell _).trans X3.out
        by_cases hi2 : i < m
        · have iI : (i : Int) < (m : Int) := by omega
          have e4 := (I.out.cell _).trans E4.out
          have x4 := (I.out.cell _).trans X4.out
          obtain ⟨b3, o3, rfl, f3⟩ := NZ1.out.cells.2.2.2 (by omega)
          obtain ⟨b4, o4, rfl, f4⟩ := NZ2.out.cells.2.2.2 (by omega)
          have y1 := (I.out.cell _).trans (f3 i hi2)
          have y2 := (I.out.cell _).trans (f4 i hi2)
          obtain ⟨y, hy⟩ : ∃ y, l.getD i 0 = y := ⟨_, rfl⟩
          rw [hy] at y1 y2
          have DI := Lib.hid fun nq => I.out.step nq
          clear f3 f4 hy I
          go_wp2_with fail
          go_quiet (fail)
          have DJ := Lib.hid (DI.out nq)
          clear e3 e4 x3 x4 y1 y2
          generalize wr.drewN nq = wy at DJ ⊢
          go_wp2_with fail
          go_roundw
          case rel => exact ⟨i + 1, by omega, by go_num, DJ⟩
          case measure => simp [intOf]; omega
        · obtain rfl : i = m := by omega
          have iI : ¬ (i : Int) < (i : Int) := by omega
          have DT := Lib.hid (DZ.out.trans I.out)
          clear I
          go_wp2_with fail
          go_roundw
          case rel => exact ⟨k + 1, by omega, by go_num, DT⟩
          case measure => simp [intOf]; omega
    · obtain rfl : k = N := by omega
      have kI : ¬ (k : Int) < (k : Int) := by omega
      have BE := Lib.hid (BW.out.trans (H.out.below _))
      clear H
      go_wp2_with fail
      go_ret
      exact ⟨rfl, BE.out⟩
end Go.Proofs.YtnnacofjogfkeaaDoor
