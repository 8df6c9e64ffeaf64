/- Contracts: Complete's errors; the table of planes; Choose. -/
import Derived.Test.YtnnacofjogfkeaaDoorGR
import Derived.Test.YtnnacofjogfkeaaDoorUj
import Derived.Test.YtnnacofjogfkeaaDoorCoj
namespace Go.Proofs.YtnnacofjogfkeaaDoor
open Go Go.RowKit Pl Co
set_option linter.unusedVariables false
set_option linter.unusedSimpArgs false

def zdV : Value := .agg #[.int .i64 0, .slice none 0 0]
def derrPost (c : Int) (w : World) (e : Ending) (w' : World) : Prop := e = .returned (.tuple #[.agg #[.int .i64 0, .slice none 0 0], .int .i64 c]) ∧ Below w.heap.size w w'
set_option maxHeartbeats 4000000 in
set_option maxRecDepth 100000 in
theorem complete_bad (d n : Int) (w : World) (hb : d < 2 ∨ 60 < d ∨ n < 2 ∨ d < n) : Calls Tryd.prog 11 #[.int .i64 d, .int .i64 n] w (derrPost 1 w) := by
  obtain ⟨B, hB⟩ : ∃ B, w.heap.size = B := ⟨_, rfl⟩
  obtain ⟨W, hW⟩ : ∃ W, (w.alloc (.cells #[.int .i64 0, .slice none 0 0] 25)).alloc (.cells #[.int .i64 1] 26) = W := ⟨_, rfl⟩
  have R0 : Row W B 25 #[.int .i64 0, .slice none 0 0] := by rw [← hW, ← hB]; exact (row_new' w _ _).al _
  have R1 : Row W (B + 1) 26 #[.int .i64 1] := by rw [← hW, ← hB]; exact row_al (by simp) _ _
  have BW : Below B w W := by rw [← hW, ← hB]; exact ((Below.refl _ w).alloc (Nat.le_refl _) _).alloc (by simp) _
  have RS := Lib.hid R0
  have ES := Lib.hid (R1.cell 0)
  have FIN : Hid (derrPost 1 w (.returned (.tuple #[.agg #[.int .i64 0, .slice none 0 0], .int .i64 1])) W) := Lib.hid ⟨rfl, by rw [hB]; exact BW⟩
  have HE := Lib.hid hB
  have HW := Lib.hid hW
  clear R0 R1 BW hB hW
  by_cases h1 : d < 2
  · clear hb
    go_enter Tryd.func11, Tryd.ntmps11
    go_wp2_with fail
    rw [HE.out, HW.out]
    refine bodyPost_ret (results_cell_cell (g := B) (g2 := B + 1) (t := 25) (fr := (0, 0)) rfl _ _ _ _ _ _ rfl RS.out Tryd.underlying25 rfl (by kernel_rfl) rfl ES.out Tryd.underlying26) rfl FIN.out
  by_cases h2 : 60 < d
  · clear hb
    go_enter Tryd.func11, Tryd.ntmps11
    go_wp2_with fail
    rw [HE.out, HW.out]
    refine bodyPost_ret (results_cell_cell (g := B) (g2 := B + 1) (t := 25) (fr := (0, 0)) rfl _ _ _ _ _ _ rfl RS.out Tryd.underlying25 rfl (by kernel_rfl) rfl ES.out Tryd.underlying26) rfl FIN.out
  by_cases h3 : n < 2
  · clear hb
    go_enter Tryd.func11, Tryd.ntmps11
    go_wp2_with fail
    rw [HE.out, HW.out]
    refine bodyPost_ret (results_cell_cell (g := B) (g2 := B + 1) (t := 25) (fr := (0, 0)) rfl _ _ _ _ _ _ rfl RS.out Tryd.underlying25 rfl (by kernel_rfl) rfl ES.out Tryd.underlying26) rfl FIN.out
  · have h4 : d < n := by omega
    clear hb
    go_enter Tryd.func11, Tryd.ntmps11
    go_wp2_with fail
    rw [HE.out, HW.out]
    refine bodyPost_ret (results_cell_cell (g := B) (g2 := B + 1) (t := 25) (fr := (0, 0)) rfl _ _ _ _ _ _ rfl RS.out Tryd.underlying25 rfl (by kernel_rfl) rfl ES.out Tryd.underlying26) rfl FIN.out
/-- The table of planes. -/
def plC : List Value := [.int .i64 13, .int .i64 4, .int .i64 3, .bool false, .int .i64 21, .int .i64 5, .int .i64 4, .bool false, .int .i64 31, .int .i64 6, .int .i64 5, .bool false, .int .i64 57, .int .i64 8, .int .i64 7, .bool false, .int .i64 16, .int .i64 4, .int .i64 4, .bool true, .int .i64 25, .int .i64 5, .int .i64 5, .bool true, .int .i64 49, .int .i64 7, .int .i64 7, .bool true]
def Pd (w : World) : Prop := w.rangeAt 0 0 plC
theorem Pd.below {w w' : World} (h : Pd w) (hb : Below w.heap.size w w') : Pd w' := fun j v hv => (hb.cell (World.block_lt_of_cell? w _ (h j v hv))).trans (h j v hv)
def dT (j : Nat) : Nat := [13, 21, 31, 57, 16, 25, 49].getD j 0
def kT (j : Nat) : Nat := [4, 5, 6, 8, 4, 5, 7].getD j 0
def qT (j : Nat) : Nat := [3, 4, 5, 7, 4, 5, 7].getD j 0
def aT (j : Nat) : Bool := decide (4 ≤ j)
theorem plane_at (k : Nat) (hk : k < 7) (w : World) : (Instr.index 60 (.agg plC.toArray) (.int .i64 (k : Int))).run Tryd.prog w = .ok (.agg #[.int .i64 (dT k : Int), .int .i64 (kT k : Int), .int .i64 (qT k : Int), .bool (aT k)]) w := by
  rcases (by omega : k = 0 ∨ k = 1 ∨ k = 2 ∨ k = 3 ∨ k = 4 ∨ k = 5 ∨ k = 6) with rfl | rfl | rfl | rfl | rfl | rfl | rfl <;> kernel_rfl
theorem t_le (k : Nat) (hk : k < 7) : dT k ≤ 60 ∧ kT k ≤ 16 ∧ qT k ≤ 7 := (show ∀ k, k < 7 → dT k ≤ 60 ∧ kT k ≤ 16 ∧ qT k ≤ 7 by decide) k hk
theorem t_sz (k : Nat) (hk : k < 7) : qT k ∈ szs := (show ∀ k, k < 7 → qT k ∈ szs by decide) k hk
theorem t_pr (k : Nat) (hk : k < 7) (h : aT k = false) : dT k = cN (qT k) ∧ szs.find? (prB (dT k) (kT k)) = some (qT k) := (show ∀ k, k < 7 → aT k = false → dT k = cN (qT k) ∧ szs.find? (prB (dT k) (kT k)) = some (qT k) by decide) k hk h
theorem t_af (k : Nat) (hk : k < 7) (h : aT k = true) : dT k = qT k * qT k ∧ szs.find? (prB (dT k) (kT k)) = none ∧ szs.find? (afB (dT k) (kT k)) = some (qT k) := (show ∀ k, k < 7 → aT k = true → dT k = qT k * qT k ∧ szs.find? (prB (dT k) (kT k)) = none ∧ szs.find? (afB (dT k) (kT k)) = some (qT k) by decide) k hk h
theorem cho_tp {k : Nat} (hk : k < 7) (h : aT k = false) : cho (dT k) (kT k) = some ((List.range (cN (qT k))).map (line (qT k))) := by
  unfold cho; rw [(t_pr k hk h).2]
theorem cho_ta {k : Nat} (hk : k < 7) (h : aT k = true) : cho (dT k) (kT k) = some ((List.range (qT k * qT k + qT k)).map (aff (qT k))) := by
  unfold cho; rw [(t_af k hk h).2.1, (t_af k hk h).2.2]
theorem t_all : ∀ q ∈ szs, 4 ≤ q + 1 → ∃ j, j < 7 ∧ dT j = cN q ∧ kT j = q + 1 := by decide
theorem t_alla : ∀ q ∈ szs, 4 ≤ q → ∃ j, j < 7 ∧ dT j = q * q ∧ kT j = q := by decide
theorem cho_none {d k : Nat} (h4 : 4 ≤ k) (h : ∀ j, j < 7 → ¬ (dT j = d ∧ kT j = k)) : cho d k = if ch d k ≤ 4096 then some (comb d d k) else none := by
  have hs : ∀ j, j < 5 → szs.getD j 0 ∈ szs := by decide
  refine cho_co (fun j hj => ?_) fun j hj => ?_
  · cases e : prB d k (szs.getD j 0)
    · rfl
    · unfold prB at e
      rw [Bool.and_eq_true] at e
      have e1 := Nat.eq_of_beq_eq_true e.1
      have e2 := Nat.eq_of_beq_eq_true e.2
      obtain ⟨i, hi, h1, h2⟩ := t_all _ (hs j hj) (by omega)
      exact absurd ⟨h1.trans e1.symm, h2.trans e2.symm⟩ (h i hi)
  · cases e : afB d k (szs.getD j 0)
    · rfl
    · unfold afB at e
      rw [Bool.and_eq_true] at e
      have e1 := Nat.eq_of_beq_eq_true e.1
      have e2 := Nat.eq_of_beq_eq_true e.2
      obtain ⟨i, hi, h1, h2⟩ := t_alla _ (hs j hj) (by omega)
      exact absurd ⟨h1.trans e1.symm, h2.trans e2.symm⟩ (h i hi)
theorem four_cells (w : World) (a b c d : Value) (t : TypeId) (n : Nat) (hn : w.heap.size = n) : (w.alloc (.cells #[a, b, c, d] t)).cell? ⟨n, 0, none⟩ = some a ∧ (w.alloc (.cells #[a, b, c, d] t)).cell? ⟨n, 1, none⟩ = some b ∧ (w.alloc (.cells #[a, b, c, d] t)).cell? ⟨n, 2, none⟩ = some c ∧ (w.alloc (.cells #[a, b, c, d] t)).cell? ⟨n, 3, none⟩ = some d := by
  subst hn
  refine ⟨?_, ?_, ?_, ?_⟩ <;> (rw [cell_of_row _ _ _ _ _ _ (heap_alloc_new w _)]; rfl)
set_option maxHeartbeats 4000000 in
set_option maxRecDepth 100000 in
theorem dcho_arg (d k : Int) (w : World) (h : k < 4 ∨ 16 < k ∨ d < k ∨ 60 < d) : Calls Tryd.prog 18 #[.int .i64 d, .int .i64 k] w (derrPost 1 w) := by
  by_cases h1 : k < 4
  · go_enter Tryd.func18, Tryd.ntmps18
    go_wp2_with fail
    refine bodyPost_ret (results_cell_tmp (g := w.heap.size) (t := 25) (fr := (0, 0)) rfl _ _ _ _ rfl (row_new' w #[.int .i64 0, .slice none 0 0] 25) Tryd.underlying25 rfl (by kernel_rfl)) rfl ?_
    exact ⟨rfl, (Below.refl _ _).alloc (Nat.le_refl _) _⟩
  by_cases h2 : 16 < k
  · go_enter Tryd.func18, Tryd.ntmps18
    go_wp2_with fail
    refine bodyPost_ret (results_cell_tmp (g := w.heap.size) (t := 25) (fr := (0, 0)) rfl _ _ _ _ rfl (row_new' w #[.int .i64 0, .slice none 0 0] 25) Tryd.underlying25 rfl (by kernel_rfl)) rfl ?_
    exact ⟨rfl, (Below.refl _ _).alloc (Nat.le_refl _) _⟩
  by_cases h3 : d < k
  · go_enter Tryd.func18, Tryd.ntmps18
    go_wp2_with fail
    refine bodyPost_ret (results_cell_tmp (g := w.heap.size) (t := 25) (fr := (0, 0)) rfl _ _ _ _ rfl (row_new' w #[.int .i64 0, .slice none 0 0] 25) Tryd.underlying25 rfl (by kernel_rfl)) rfl ?_
    exact ⟨rfl, (Below.refl _ _).alloc (Nat.le_refl _) _⟩
  have h4 : 60 < d := by omega
  clear h
  · go_enter Tryd.func18, Tryd.ntmps18
    go_wp2_with fail
    refine bodyPost_ret (results_cell_tmp (g := w.heap.size) (t := 25) (fr := (0, 0)) rfl _ _ _ _ rfl (row_new' w #[.int .i64 0, .slice none 0 0] 25) Tryd.underlying25 rfl (by kernel_rfl)) rfl ?_
    exact ⟨rfl, (Below.refl _ _).alloc (Nat.le_refl _) _⟩

set_option maxHeartbeats 4000000 in
set_option maxRecDepth 100000 in
theorem dcho_ok (d k : Nat) (w : World) (hK : Kd w) (hP : Pd w) (h4 : 4 ≤ k) (h16 : k ≤ 16) (hkd : k ≤ d) (h60 : d ≤ 60) : Calls Tryd.prog 18 #[.int .i64 (d : Int), .int .i64 (k : Int)] w (rchPost d k w) := by
  obtain ⟨C, hC⟩ : ∃ C, plC = C := ⟨_, rfl⟩
  have KI := Lib.hid plane_at
  obtain ⟨B, hB⟩ : ∃ B, w.heap.size = B := ⟨_, rfl⟩
  obtain ⟨W, hW⟩ : ∃ W, w.alloc (.cells #[.int .i64 0, .slice none 0 0] 25) = W := ⟨_, rfl⟩
  have b0 : Below w.heap.size w W := by rw [← hW]; exact (Below.refl _ _).alloc (Nat.le_refl _) _
  have r0 : Row W B 25 #[.int .i64 0, .slice none 0 0] := by rw [← hW, ← hB]; exact row_new' w _ _
  have KR := hP.below b0
  unfold Pd at KR
  rw [hC] at KI KR
  have SI : Hid ((Tryd.prog.info? 60).map (·.size) = some C.length) := Lib.hid (by rw [← hC]; kernel_rfl)
  have KR' := Lib.hid KR
  have KD := Lib.hid (hK.below b0)
  have RB := Lib.hid r0
  have BW := Lib.hid b0
  have HE := Lib.hid hB
  have HW := Lib.hid hW
  have g1 : ¬ (k : Int) < 4 := by omega
  have g2 : ¬ (16 : Int) < (k : Int) := by omega
  have g3 : ¬ d < k := by omega
  have g4 : ¬ (60 : Int) < (d : Int) := by omega
  clear KR hK hP hC b0 r0 hB
  rw [← HW.out] at KR'
  clear hW
  go_enter Tryd.func18, Tryd.ntmps18
  go_wp2_with (refine wpList_load_mid rfl _ _ rfl 0 0 rfl C _ KR'.out Tryd.underlying60 rfl SI.out ?_)
  rw [HE.out, HW.out]
  clear g1 g2 g3 g4
  go_loopw [7, 25] (fun _ i wr => ∃ j : Nat, j ≤ 7 ∧ i = .int .i64 (j : Int) ∧ Hid (Below W.heap.size W wr ∧ ∀ i, i < j → ¬ (dT i = d ∧ kT i = k))) (fun _ i _ => 7 - (intOf i).toNat)
  case atStart => exact ⟨0, by omega, rfl, Lib.hid ⟨Below.refl _ _, fun i hi => absurd hi (Nat.not_lt_zero i)⟩⟩
  case round =>
    obtain ⟨j, hj, rfl, H⟩ := hrel
    by_cases hlt : j < 7
    · have hjI : (j : Int) < 7 := by omega
      have hidx := KI.out j hlt
      have TL := t_le j hlt
      have TS := Lib.hid (t_sz j hlt)
      have TP := Lib.hid (show dT j = d → kT j = k → aT j = false → cho d k = some ((List.range (cN (qT j))).map (line (qT j))) ∧ d = cN (qT j) from fun h1 h2 h3 => by rw [← h1, ← h2]; exact ⟨cho_tp hlt h3, (t_pr j hlt h3).1⟩)
      have TA := Lib.hid (show dT j = d → kT j = k → aT j = true → cho d k = some ((List.range (qT j * qT j + qT j)).map (aff (qT j))) ∧ d = qT j * qT j from fun h1 h2 h3 => by rw [← h1, ← h2]; exact ⟨cho_ta hlt h3, (t_af j hlt h3).1⟩)
      have TN := Lib.hid (show ¬ (dT j = d ∧ kT j = k) → ∀ i, i < j + 1 → ¬ (dT i = d ∧ kT i = k) from fun hn i hi => by
        rcases Nat.lt_or_eq_of_le (Nat.le_of_lt_succ hi) with h | h
        · exact H.out.2 i h
        · rw [h]; exact hn)
      have HB := Lib.hid H.out.1
      obtain ⟨D, hD⟩ : ∃ D, dT j = D := ⟨_, rfl⟩
      obtain ⟨K, hKK⟩ : ∃ K, kT j = K := ⟨_, rfl⟩
      obtain ⟨q, hq⟩ : ∃ q, qT j = q := ⟨_, rfl⟩
      obtain ⟨a, ha⟩ : ∃ a, aT j = a := ⟨_, rfl⟩
      rw [hD, hKK, hq] at TL
      rw [hq] at TS
      rw [hD, hKK, hq, ha] at TP TA hidx
      rw [hD, hKK] at TN
      have SC := four_cells wr (.int .i64 (D : Int)) (.int .i64 (K : Int)) (.int .i64 (q : Int)) (.bool a) 59 _ rfl
      have B1 := Lib.hid (HB.out.alloc HB.out.size (.cells #[.int .i64 (D : Int), .int .i64 (K : Int), .int .i64 (q : Int), .bool a] 59))
      obtain ⟨hc0, hc1, hc2, hc3⟩ := SC
      clear hD hKK hq ha H
      by_cases e1 : D = d
      case neg =>
        have eB : ((D : Int) != (d : Int)) = true := by simp; omega
        have E := Lib.hid (TN.out fun h => e1 h.1)
        clear e1 TP TA TN
        go_wp2_with fail
        go_roundw
        case rel => exact ⟨j + 1, by omega, by go_num, Lib.hid ⟨B1.out, E.out⟩⟩
        case measure => simp [intOf]; omega
      by_cases e2 : K = k
      case neg =>
        have eB : ((D : Int) != (d : Int)) = false := by simp; omega
        have fB : ((K : Int) != (k : Int)) = true := by simp; omega
        have E := Lib.hid (TN.out fun h => e2 h.2)
        clear e1 e2 TP TA TN
        go_wp2_with fail
        go_roundw
        case rel => exact ⟨j + 1, by omega, by go_num, Lib.hid ⟨B1.out, E.out⟩⟩
        case measure => simp [intOf]; omega
      have eB : ((D : Int) != (d : Int)) = false := by simp; omega
      have fB : ((K : Int) != (k : Int)) = false := by simp; omega
      have TP1 := Lib.hid (TP.out e1 e2)
      have TA1 := Lib.hid (TA.out e1 e2)
      have RZ := Lib.hid (RB.out.go B1.out)
      have KZ := Lib.hid (KD.out.below B1.out)
      have BZ := Lib.hid (BW.out.trans (B1.out.mono BW.out.size))
      clear e1 e2 TP TA TN
      cases a with
      | true =>
        have T := Lib.hid (TA1.out rfl)
        have CP := Lib.hid (affine_fx q _ KZ.out TS.out)
        clear TP1 TA1
        go_wp2_with fail
        refine CP.out.mono ?_
        clear CP KZ
        rintro e x ⟨v, rfl, hg, hb⟩
        obtain ⟨Av, cv, rfl⟩ := slform hg.gs
        obtain ⟨nl, hnl⟩ : ∃ m, ((List.range (q * q + q)).map (aff q)).length = m := ⟨_, rfl⟩
        rw [hnl] at hg ⊢
        obtain ⟨N, hN⟩ : ∃ N, (q * q) = N := ⟨_, rfl⟩
        rw [hN]
        have RX := Lib.hid (RZ.out.go hb)
        have e0 := RX.out.cell 0
        have e1 := RX.out.cell 1
        have f0 := RX.out.frozen 0
        have f1 := RX.out.frozen 1
        have R8 := Lib.hid ((RX.out.store 0 (.int .i64 (N : Int))).store 1 (.slice Av nl cv))
        have HB8 := Lib.hid (BZ.out.trans (hb.mono BZ.out.size))
        have HB9 := Lib.hid ((HB8.out.setCell (p := ⟨B, 0, none⟩) (Nat.le_of_eq HE.out) (.int .i64 (N : Int))).setCell (p := ⟨B, 1, none⟩) (Nat.le_of_eq HE.out) (.slice Av nl cv))
        have GS := Lib.hid (((hg.set RZ.out.lt 0 (.int .i64 (N : Int))).set RZ.out.lt 1 (.slice Av nl cv)).low (K' := w.heap.size) (by have := RZ.out.lt; have := HE.out; omega))
        have NN := Lib.hid hN
        clear hg hb hnl hN
        unfold dv
        go_wp2_with fail
        refine bodyPost_ret (results_cell_tmp (g := B) (t := 25) (fr := (0, 0)) rfl _ _ _ _ rfl R8.out Tryd.underlying25 rfl (by kernel_rfl)) rfl ?_
        unfold rchPost
        rw [T.out.1, T.out.2.trans NN.out]
        exact ⟨_, rfl, GS.out, HB9.out⟩
      | false =>
        have T := Lib.hid (TP1.out rfl)
        have CP := Lib.hid (proj_fx q _ KZ.out TS.out)
        clear TP1 TA1
        go_wp2_with fail
        refine CP.out.mono ?_
        clear CP KZ
        rintro e x ⟨v, rfl, hg, hb⟩
        obtain ⟨Av, cv, rfl⟩ := slform hg.gs
        obtain ⟨nl, hnl⟩ : ∃ m, ((List.range (cN q)).map (line q)).length = m := ⟨_, rfl⟩
        rw [hnl] at hg ⊢
        obtain ⟨N, hN⟩ : ∃ N, (cN q) = N := ⟨_, rfl⟩
        rw [hN]
        have RX := Lib.hid (RZ.out.go hb)
        have e0 := RX.out.cell 0
        have e1 := RX.out.cell 1
        have f0 := RX.out.frozen 0
        have f1 := RX.out.frozen 1
        have R8 := Lib.hid ((RX.out.store 0 (.int .i64 (N : Int))).store 1 (.slice Av nl cv))
        have HB8 := Lib.hid (BZ.out.trans (hb.mono BZ.out.size))
        have HB9 := Lib.hid ((HB8.out.setCell (p := ⟨B, 0, none⟩) (Nat.le_of_eq HE.out) (.int .i64 (N : Int))).setCell (p := ⟨B, 1, none⟩) (Nat.le_of_eq HE.out) (.slice Av nl cv))
        have GS := Lib.hid (((hg.set RZ.out.lt 0 (.int .i64 (N : Int))).set RZ.out.lt 1 (.slice Av nl cv)).low (K' := w.heap.size) (by have := RZ.out.lt; have := HE.out; omega))
        have NN := Lib.hid hN
        clear hg hb hnl hN
        unfold dv
        go_wp2_with fail
        refine bodyPost_ret (results_cell_tmp (g := B) (t := 25) (fr := (0, 0)) rfl _ _ _ _ rfl R8.out Tryd.underlying25 rfl (by kernel_rfl)) rfl ?_
        unfold rchPost
        rw [T.out.1, T.out.2.trans NN.out]
        exact ⟨_, rfl, GS.out, HB9.out⟩
    · obtain rfl : j = 7 := by omega
      have CN := Lib.hid (cho_none h4 H.out.2)
      have RZ := Lib.hid (RB.out.go H.out.1)
      have BZ := Lib.hid (BW.out.trans (H.out.1.mono BW.out.size))
      have CC := Lib.hid (complete_ok d k wr (by omega) hkd h60)
      clear H
      go_wp2_with fail
      refine CC.out.mono ?_
      clear CC
      rintro e x ⟨hb, ⟨hle, v, rfl, hg⟩ | ⟨hgt, rfl⟩⟩
      · have T := Lib.hid (CN.out.trans (if_pos hle))
        clear hle CN
        obtain ⟨Av, cv, rfl⟩ := slform hg.gs
        obtain ⟨nl, hnl⟩ : ∃ m, (comb d d k).length = m := ⟨_, rfl⟩
        rw [hnl] at hg ⊢
        obtain ⟨N, hN⟩ : ∃ N, d = N := ⟨_, rfl⟩
        rw [hN]
        have RX := Lib.hid (RZ.out.go hb)
        have e0 := RX.out.cell 0
        have e1 := RX.out.cell 1
        have f0 := RX.out.frozen 0
        have f1 := RX.out.frozen 1
        have R8 := Lib.hid ((RX.out.store 0 (.int .i64 (N : Int))).store 1 (.slice Av nl cv))
        have HB8 := Lib.hid (BZ.out.trans (hb.mono BZ.out.size))
        have HB9 := Lib.hid ((HB8.out.setCell (p := ⟨B, 0, none⟩) (Nat.le_of_eq HE.out) (.int .i64 (N : Int))).setCell (p := ⟨B, 1, none⟩) (Nat.le_of_eq HE.out) (.slice Av nl cv))
        have GS := Lib.hid (((hg.set RZ.out.lt 0 (.int .i64 (N : Int))).set RZ.out.lt 1 (.slice Av nl cv)).low (K' := w.heap.size) (by have := RZ.out.lt; have := HE.out; omega))
        have NN := Lib.hid hN
        clear hg hb hnl hN
        unfold dv
        go_wp2_with fail
        refine bodyPost_ret (results_cell_tmp (g := B) (t := 25) (fr := (0, 0)) rfl _ _ _ _ rfl R8.out Tryd.underlying25 rfl (by kernel_rfl)) rfl ?_
        unfold rchPost
        have nn := NN.out
        subst nn
        rw [T.out]
        exact ⟨_, rfl, GS.out, HB9.out⟩
      · have T := Lib.hid (CN.out.trans (if_neg (Nat.not_le.2 hgt)))
        clear hgt CN
        have RX := Lib.hid (RZ.out.go hb)
        have e0 := RX.out.cell 0
        have e1 := RX.out.cell 1
        have f0 := RX.out.frozen 0
        have f1 := RX.out.frozen 1
        have R8 := Lib.hid ((RX.out.store 0 (.int .i64 0)).store 1 (.slice none 0 0))
        have HB8 := Lib.hid (BZ.out.trans (hb.mono BZ.out.size))
        have HB9 := Lib.hid ((HB8.out.setCell (p := ⟨B, 0, none⟩) (Nat.le_of_eq HE.out) (.int .i64 0)).setCell (p := ⟨B, 1, none⟩) (Nat.le_of_eq HE.out) (.slice none 0 0))
        clear hb
        go_wp2_with fail
        refine bodyPost_ret (results_cell_tmp (g := B) (t := 25) (fr := (0, 0)) rfl _ _ _ _ rfl R8.out Tryd.underlying25 rfl (by kernel_rfl)) rfl ?_
        unfold rchPost
        rw [T.out]
        exact ⟨rfl, HB9.out⟩

end Go.Proofs.YtnnacofjogfkeaaDoor
