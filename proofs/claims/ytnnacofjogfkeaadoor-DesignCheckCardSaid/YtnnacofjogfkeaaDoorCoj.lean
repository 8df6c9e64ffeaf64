/- Contracts: the reference's Choose. -/
import Derived.Test.YtnnacofjogfkeaaDoorCog
import Derived.Test.YtnnacofjogfkeaaDoorUq
import Derived.Test.YtnnacofjogfkeaaDoorUh
namespace Go.Proofs.YtnnacofjogfkeaaDoor
open Go Go.RowKit Pl Co
set_option linter.unusedVariables false
set_option linter.unusedSimpArgs false

/-- The design for groups of width k. -/
def prB (d k q : Nat) : Bool := Nat.beq d (cN q) && Nat.beq k (q + 1)
def afB (d k q : Nat) : Bool := Nat.beq d (q * q) && Nat.beq k q
def cho (d k : Nat) : Option (List (List Nat)) :=
  match szs.find? (prB d k) with
  | some q => some ((List.range (cN q)).map (line q))
  | none => match szs.find? (afB d k) with
    | some q => some ((List.range (q * q + q)).map (aff q))
    | none => if ch d k ≤ 4096 then some (comb d d k) else none
theorem find_first {p : Nat → Bool} : ∀ {l : List Nat} {i : Nat} (hi : i < l.length), (∀ j, j < i → p (l.getD j 0) = false) → p (l.getD i 0) = true → l.find? p = some (l.getD i 0)
  | a :: l, 0, _, _, h => by
    have h : p a = true := h
    rw [List.find?_cons, h]; rfl
  | a :: l, i + 1, hi, hn, h => by
    have h0 : p a = false := hn 0 (by omega)
    rw [List.find?_cons, h0]
    exact find_first (l := l) (by simpa using hi) (fun j hj => hn (j + 1) (by omega)) h
theorem find_no {p : Nat → Bool} : ∀ {l : List Nat}, (∀ j, j < l.length → p (l.getD j 0) = false) → l.find? p = none
  | [], _ => rfl
  | a :: l, h => by
    have h0 : p a = false := h 0 (by simp)
    rw [List.find?_cons, h0]
    exact find_no fun j hj => h (j + 1) (by simpa using hj)
theorem cho_pr {d k i : Nat} (hi : i < 5) (hn : ∀ j, j < i → prB d k (szs.getD j 0) = false) (h : prB d k (szs.getD i 0) = true) : cho d k = some ((List.range (cN (szs.getD i 0))).map (line (szs.getD i 0))) := by
  unfold cho; rw [find_first (p := prB d k) (l := szs) hi hn h]
theorem cho_af {d k i : Nat} (h0 : ∀ j, j < 5 → prB d k (szs.getD j 0) = false) (hi : i < 5) (hn : ∀ j, j < i → afB d k (szs.getD j 0) = false) (h : afB d k (szs.getD i 0) = true) : cho d k = some ((List.range (szs.getD i 0 * szs.getD i 0 + szs.getD i 0)).map (aff (szs.getD i 0))) := by
  unfold cho; rw [find_no (p := prB d k) (l := szs) h0, find_first (p := afB d k) (l := szs) hi hn h]
theorem cho_co {d k : Nat} (h0 : ∀ j, j < 5 → prB d k (szs.getD j 0) = false) (h1 : ∀ j, j < 5 → afB d k (szs.getD j 0) = false) : cho d k = if ch d k ≤ 4096 then some (comb d d k) else none := by
  unfold cho; rw [find_no (p := prB d k) (l := szs) h0, find_no (p := afB d k) (l := szs) h1]
def rchPost (d k : Nat) (w : World) (e : Ending) (w' : World) : Prop := match cho d k with
  | some L => ∃ v, e = .returned (.tuple #[dv d v, .int .i64 0]) ∧ Fx w.heap.size w' v L ∧ Below w.heap.size w w'
  | none => e = .returned (.tuple #[dv 0 (.slice none 0 0), .int .i64 7]) ∧ Below w.heap.size w w'
theorem szs_get {m : Nat} (hm : m < 5) : szs.getD m 0 ∈ szs := (show ∀ m, m < 5 → szs.getD m 0 ∈ szs by decide) m hm
set_option maxHeartbeats 4000000 in
set_option maxRecDepth 100000 in
theorem rch_a1 (d k : Int) (w : World) (h0 : k < 4) : Calls Tryd.prog 19 #[.int .i64 d, .int .i64 k] w (bel (.tuple #[dv 0 (.slice none 0 0), .int .i64 1]) w) := by
  go_enter Tryd.func19, Tryd.ntmps19
  go_wp2_with fail
  refine bodyPost_ret (results_cell_tmp (g := w.heap.size) (t := 25) (fr := (0, 0)) rfl _ _ _ _ rfl (row_new' w #[.int .i64 0, .slice none 0 0] 25) Tryd.underlying25 rfl (by kernel_rfl)) rfl ?_
  exact ⟨rfl, (Below.refl _ _).alloc (Nat.le_refl _) _⟩
set_option maxHeartbeats 4000000 in
set_option maxRecDepth 100000 in
theorem rch_a2 (d k : Int) (w : World) (h0 : ¬ k < 4) (h1 : 16 < k) : Calls Tryd.prog 19 #[.int .i64 d, .int .i64 k] w (bel (.tuple #[dv 0 (.slice none 0 0), .int .i64 1]) w) := by
  go_enter Tryd.func19, Tryd.ntmps19
  go_wp2_with fail
  refine bodyPost_ret (results_cell_tmp (g := w.heap.size) (t := 25) (fr := (0, 0)) rfl _ _ _ _ rfl (row_new' w #[.int .i64 0, .slice none 0 0] 25) Tryd.underlying25 rfl (by kernel_rfl)) rfl ?_
  exact ⟨rfl, (Below.refl _ _).alloc (Nat.le_refl _) _⟩
set_option maxHeartbeats 4000000 in
set_option maxRecDepth 100000 in
theorem rch_a3 (d k : Int) (w : World) (h0 : ¬ k < 4) (h1 : ¬ 16 < k) (h2 : d < k) : Calls Tryd.prog 19 #[.int .i64 d, .int .i64 k] w (bel (.tuple #[dv 0 (.slice none 0 0), .int .i64 1]) w) := by
  go_enter Tryd.func19, Tryd.ntmps19
  go_wp2_with fail
  refine bodyPost_ret (results_cell_tmp (g := w.heap.size) (t := 25) (fr := (0, 0)) rfl _ _ _ _ rfl (row_new' w #[.int .i64 0, .slice none 0 0] 25) Tryd.underlying25 rfl (by kernel_rfl)) rfl ?_
  exact ⟨rfl, (Below.refl _ _).alloc (Nat.le_refl _) _⟩
set_option maxHeartbeats 4000000 in
set_option maxRecDepth 100000 in
theorem rch_a4 (d k : Int) (w : World) (h0 : ¬ k < 4) (h1 : ¬ 16 < k) (h2 : ¬ d < k) (h3 : 60 < d) : Calls Tryd.prog 19 #[.int .i64 d, .int .i64 k] w (bel (.tuple #[dv 0 (.slice none 0 0), .int .i64 1]) w) := by
  go_enter Tryd.func19, Tryd.ntmps19
  go_wp2_with fail
  refine bodyPost_ret (results_cell_tmp (g := w.heap.size) (t := 25) (fr := (0, 0)) rfl _ _ _ _ rfl (row_new' w #[.int .i64 0, .slice none 0 0] 25) Tryd.underlying25 rfl (by kernel_rfl)) rfl ?_
  exact ⟨rfl, (Below.refl _ _).alloc (Nat.le_refl _) _⟩
theorem rch_arg (d k : Int) (w : World) (h : k < 4 ∨ 16 < k ∨ d < k ∨ 60 < d) : Calls Tryd.prog 19 #[.int .i64 d, .int .i64 k] w (bel (.tuple #[dv 0 (.slice none 0 0), .int .i64 1]) w) := by
  by_cases h1 : k < 4
  · exact rch_a1 d k w h1
  by_cases h2 : 16 < k
  · exact rch_a2 d k w h1 h2
  by_cases h3 : d < k
  · exact rch_a3 d k w h1 h2 h3
  · exact rch_a4 d k w h1 h2 h3 (by omega)
set_option maxHeartbeats 4000000 in
set_option maxRecDepth 100000 in
theorem rch_ok (d k : Nat) (w : World) (h4 : 4 ≤ k) (h16 : k ≤ 16) (hkd : k ≤ d) (h60 : d ≤ 60) : Calls Tryd.prog 19 #[.int .i64 (d : Int), .int .i64 (k : Int)] w (rchPost d k w) := by
  have g1 : ¬ (k : Int) < 4 := by omega
  have g2 : ¬ (16 : Int) < (k : Int) := by omega
  have g3 : ¬ (d : Int) < (k : Int) := by omega
  have g4 : ¬ (60 : Int) < (d : Int) := by omega
  obtain ⟨B, hB⟩ : ∃ B, w.heap.size = B := ⟨_, rfl⟩
  obtain ⟨W, hW⟩ : ∃ W, (w.alloc (.cells #[.int .i64 0, .slice none 0 0] 25)).alloc (.cells #[.int .i64 2, .int .i64 3, .int .i64 4, .int .i64 5, .int .i64 7] 3) = W := ⟨_, rfl⟩
  have hbw : Below w.heap.size w W := by rw [← hW]; exact ((Below.refl _ _).alloc (Nat.le_refl _) _).alloc (by simp) _
  have RB : Hid (Row W B 25 #[.int .i64 0, .slice none 0 0]) := Lib.hid (by rw [← hW, ← hB]; exact (row_new' w _ _).go ((Below.refl _ _).alloc (Nat.le_refl _) _))
  have SC : Hid (∀ m, m < 5 → W.cell? ⟨B + 1, m, none⟩ = some (.int .i64 (szs.getD m 0 : Nat))) := Lib.hid fun m hm => by
    have := szs_lit (w.alloc (.cells #[.int .i64 0, .slice none 0 0] 25)) 3 m hm
    rw [World.size_alloc, hB, hW] at this
    exact this
  have BW := Lib.hid hbw
  have HE := Lib.hid hB
  have HW := Lib.hid hW
  have CP := Lib.hid fun m (hm : m < 5) => rproj_fx (szs.getD m 0) W (szs_get hm)
  have CA := Lib.hid fun m (hm : m < 5) => raff_fx (szs.getD m 0) W (szs_get hm)
  have CN := Lib.hid (rnum_any d k W h60 hkd)
  have CC := Lib.hid fun h => rcomplete_any d k W (by omega) hkd h60 h
  have SB := Lib.hid fun m (hm : m < 5) => szs_ok (szs_get hm)
  clear hbw hB hW
  go_enter Tryd.func19, Tryd.ntmps19
  go_wp2_with fail
  rw [HE.out, HW.out]
  go_loopw [7, 8] (fun i _ wr => wr = W ∧ ∃ j : Nat, j ≤ 5 ∧ i = .int .i64 (j : Int) ∧ Hid (∀ t, t < j → prB d k (szs.getD t 0) = false)) (fun i _ _ => 5 - (intOf i).toNat)
  case atStart => exact ⟨rfl, 0, Nat.zero_le _, rfl, Lib.hid fun t ht => absurd ht (Nat.not_lt_zero t)⟩
  case round =>
    obtain ⟨rfl, j, hj, rfl, T⟩ := hrel
    by_cases hlt : j < 5
    · have jI : (j : Int) < 5 := by omega
      have cq := SC.out j hlt
      have CP1 := Lib.hid (CP.out j hlt)
      have PR := Lib.hid (show prB d k (szs.getD j 0) = true → cho d k = some ((List.range (cN (szs.getD j 0))).map (line (szs.getD j 0))) from cho_pr hlt T.out)
      have TT := Lib.hid (show prB d k (szs.getD j 0) = false → ∀ t, t < j + 1 → prB d k (szs.getD t 0) = false from fun hx t ht => by
        rcases Nat.lt_or_eq_of_le (Nat.le_of_lt_succ ht) with h | h
        · exact T.out t h
        · rw [h]; exact hx)
      have q7 := (SB.out j hlt).2.2.1
      obtain ⟨q, hq⟩ : ∃ q, szs.getD j 0 = q := ⟨_, rfl⟩
      rw [hq] at cq CP1 PR TT q7
      obtain ⟨p, hp⟩ : ∃ p, q * q = p := ⟨_, rfl⟩
      have ep : (q : Int) * (q : Int) = (p : Int) := by rw [← hp]; rfl
      have p49 : p ≤ 49 := by rw [← hp]; exact Nat.mul_le_mul q7 q7
      have hN : cN q = p + q + 1 := by unfold cN; rw [hp]
      obtain ⟨N, hNN⟩ : ∃ N, cN q = N := ⟨_, rfl⟩
      have eN : (p : Int) + (q : Int) + 1 = (N : Int) := by omega
      have PD : Hid (prB d k q = (Nat.beq d N && Nat.beq k (q + 1))) := Lib.hid (by unfold prB; rw [hNN])
      clear hq hp hN T
      by_cases dN : d = N
      · have dB : ((d : Int) == (N : Int)) = true := by rw [beq_iff_eq]; omega
        by_cases kq : k = q + 1
        · have kB : ((k : Int) == (q : Int) + 1) = true := by rw [beq_iff_eq]; omega
          have CE := Lib.hid (by have := PR.out (by rw [PD.out, dN, kq]; simp); rw [hNN] at this; exact this)
          rw [hNN] at CP1
          have DN := Lib.hid dN
          have HNN := Lib.hid hNN
          clear dN kq PR TT PD hNN
          go_wp2_with fail
          refine CP1.out.mono ?_
          rintro e x ⟨v, rfl, hg, hb⟩
          obtain ⟨Av, cv, rfl⟩ := slform hg.gs
          obtain ⟨nl, hnl⟩ : ∃ n, ((List.range N).map (line q)).length = n := ⟨_, rfl⟩
          rw [hnl] at hg ⊢
          have RX := Lib.hid (RB.out.go hb)
          have e0 := RX.out.cell 0
          have e1 := RX.out.cell 1
          have f0 := RX.out.frozen 0
          have f1 := RX.out.frozen 1
          have R8 := Lib.hid ((RX.out.store 0 (.int .i64 (N : Int))).store 1 (.slice Av nl cv))
          have HB8 := Lib.hid (BW.out.trans (hb.mono BW.out.size))
          have HB9 := Lib.hid ((HB8.out.setCell (p := ⟨B, 0, none⟩) (Nat.le_of_eq HE.out) (.int .i64 (N : Int))).setCell (p := ⟨B, 1, none⟩) (Nat.le_of_eq HE.out) (.slice Av nl cv))
          have GS := Lib.hid (((hg.set RB.out.lt 0 (.int .i64 (N : Int))).set RB.out.lt 1 (.slice Av nl cv)).low (K' := w.heap.size) (by have := RB.out.lt; have := HE.out; omega))
          clear hg hb hnl
          unfold dv
          go_wp2_with fail
          refine bodyPost_ret (results_cell_tmp (g := B) (t := 25) (fr := (0, 0)) rfl _ _ _ _ rfl R8.out Tryd.underlying25 rfl (by kernel_rfl)) rfl ?_
          unfold rchPost
          rw [CE.out, DN.out]
          exact ⟨_, rfl, GS.out, HB9.out⟩
        · have kB : ((k : Int) == (q : Int) + 1) = false := by rw [beq_eq_false_iff_ne]; omega
          have E := Lib.hid (TT.out (by rw [PD.out, show Nat.beq k (q + 1) = false from by cases h : Nat.beq k (q + 1); rfl; exact absurd (Nat.eq_of_beq_eq_true h) kq, Bool.and_false]))
          clear dN kq PR TT PD hNN
          go_wp2_with fail
          go_roundw
          case rel => exact ⟨trivial, j + 1, by omega, by go_num, E⟩
          case measure => simp [intOf]; omega
      · have dB : ((d : Int) == (N : Int)) = false := by rw [beq_eq_false_iff_ne]; omega
        have E := Lib.hid (TT.out (by rw [PD.out, show Nat.beq d N = false from by cases h : Nat.beq d N; rfl; exact absurd (Nat.eq_of_beq_eq_true h) dN, Bool.false_and]))
        clear dN PR TT PD hNN
        go_wp2_with fail
        go_roundw
        case rel => exact ⟨trivial, j + 1, by omega, by go_num, E⟩
        case measure => simp [intOf]; omega
    · have j5 : j = 5 := by omega
      have jI : ¬ (j : Int) < 5 := by omega
      have T0 : Hid (∀ t, t < 5 → prB d k (szs.getD t 0) = false) := Lib.hid (by rw [← j5]; exact T.out)
      clear T j5
      go_wp2_with fail
      go_loopw [9, 10] (fun i _ wq => wq = wr ∧ ∃ j : Nat, j ≤ 5 ∧ i = .int .i64 (j : Int) ∧ Hid (∀ t, t < j → afB d k (szs.getD t 0) = false)) (fun i _ _ => 5 - (intOf i).toNat)
      case atStart => exact ⟨rfl, 0, Nat.zero_le _, rfl, Lib.hid fun t ht => absurd ht (Nat.not_lt_zero t)⟩
      case round =>
        obtain ⟨rfl, j, hj, rfl, T⟩ := hrel
        by_cases hlt : j < 5
        · have jI : (j : Int) < 5 := by omega
          have cq := SC.out j hlt
          have CA1 := Lib.hid (CA.out j hlt)
          have PR := Lib.hid (show afB d k (szs.getD j 0) = true → cho d k = some ((List.range (szs.getD j 0 * szs.getD j 0 + szs.getD j 0)).map (aff (szs.getD j 0))) from cho_af T0.out hlt T.out)
          have TT := Lib.hid (show afB d k (szs.getD j 0) = false → ∀ t, t < j + 1 → afB d k (szs.getD t 0) = false from fun hx t ht => by
            rcases Nat.lt_or_eq_of_le (Nat.le_of_lt_succ ht) with h | h
            · exact T.out t h
            · rw [h]; exact hx)
          have q7 := (SB.out j hlt).2.2.1
          obtain ⟨q, hq⟩ : ∃ q, szs.getD j 0 = q := ⟨_, rfl⟩
          rw [hq] at cq CA1 PR TT q7
          obtain ⟨p, hp⟩ : ∃ p, q * q = p := ⟨_, rfl⟩
          have ep : (q : Int) * (q : Int) = (p : Int) := by rw [← hp]; rfl
          have p49 : p ≤ 49 := by rw [← hp]; exact Nat.mul_le_mul q7 q7
          have PD : Hid (afB d k q = (Nat.beq d p && Nat.beq k q)) := Lib.hid (by unfold afB; rw [hp])
          clear hq T
          by_cases dN : d = p
          · have dB : ((d : Int) == (p : Int)) = true := by rw [beq_iff_eq]; omega
            by_cases kq : k = q
            · have kB : ((k : Int) == (q : Int)) = true := by rw [beq_iff_eq]; omega
              have CE := Lib.hid (by have := PR.out (by rw [PD.out, dN, kq]; simp); rw [hp] at this; exact this)
              have HPQ := Lib.hid hp
              rw [hp] at CA1
              have DN := Lib.hid dN
              clear dN kq PR TT PD hp
              go_wp2_with fail
              refine CA1.out.mono ?_
              rintro e x ⟨v, rfl, hg, hb⟩
              obtain ⟨Av, cv, rfl⟩ := slform hg.gs
              obtain ⟨nl, hnl⟩ : ∃ n, ((List.range (p + q)).map (aff q)).length = n := ⟨_, rfl⟩
              rw [hnl] at hg ⊢
              have RX := Lib.hid (RB.out.go hb)
              have e0 := RX.out.cell 0
              have e1 := RX.out.cell 1
              have f0 := RX.out.frozen 0
              have f1 := RX.out.frozen 1
              have R8 := Lib.hid ((RX.out.store 0 (.int .i64 (p : Int))).store 1 (.slice Av nl cv))
              have HB8 := Lib.hid (BW.out.trans (hb.mono BW.out.size))
              have HB9 := Lib.hid ((HB8.out.setCell (p := ⟨B, 0, none⟩) (Nat.le_of_eq HE.out) (.int .i64 (p : Int))).setCell (p := ⟨B, 1, none⟩) (Nat.le_of_eq HE.out) (.slice Av nl cv))
              have GS := Lib.hid (((hg.set RB.out.lt 0 (.int .i64 (p : Int))).set RB.out.lt 1 (.slice Av nl cv)).low (K' := w.heap.size) (by have := RB.out.lt; have := HE.out; omega))
              clear hg hb hnl
              unfold dv
              go_wp2_with fail
              refine bodyPost_ret (results_cell_tmp (g := B) (t := 25) (fr := (0, 0)) rfl _ _ _ _ rfl R8.out Tryd.underlying25 rfl (by kernel_rfl)) rfl ?_
              unfold rchPost
              rw [CE.out, DN.out]
              exact ⟨_, rfl, GS.out, HB9.out⟩
            · have kB : ((k : Int) == (q : Int)) = false := by rw [beq_eq_false_iff_ne]; omega
              have E := Lib.hid (TT.out (by rw [PD.out, show Nat.beq k q = false from by cases h : Nat.beq k q; rfl; exact absurd (Nat.eq_of_beq_eq_true h) kq, Bool.and_false]))
              clear dN kq PR TT PD hp
              go_wp2_with fail
              go_roundw
              case rel => exact ⟨trivial, j + 1, by omega, by go_num, E⟩
              case measure => simp [intOf]; omega
          · have dB : ((d : Int) == (p : Int)) = false := by rw [beq_eq_false_iff_ne]; omega
            have E := Lib.hid (TT.out (by rw [PD.out, show Nat.beq d p = false from by cases h : Nat.beq d p; rfl; exact absurd (Nat.eq_of_beq_eq_true h) dN, Bool.false_and]))
            clear dN PR TT PD hp
            go_wp2_with fail
            go_roundw
            case rel => exact ⟨trivial, j + 1, by omega, by go_num, E⟩
            case measure => simp [intOf]; omega
        · have j5 : j = 5 := by omega
          have jI : ¬ (j : Int) < 5 := by omega
          have T1 : Hid (∀ t, t < 5 → afB d k (szs.getD t 0) = false) := Lib.hid (by rw [← j5]; exact T.out)
          have CO := Lib.hid (cho_co T0.out T1.out)
          clear T j5 T0 T1
          go_wp2_with fail
          refine CN.out.mono ?_
          rintro e z ⟨c, rfl, hz, hc⟩
          obtain rfl := hz.symm
          by_cases big : ch d k ≤ 4096
          · have c4 : c ≤ 4096 := by rcases hc with h | h; omega; omega
            have cI : ¬ (4096 : Int) < (c : Int) := by omega
            have CC1 := Lib.hid (CC.out big)
            have CE := Lib.hid (show cho d k = some (comb d d k) by rw [CO.out, if_pos big])
            clear hc big CO CC
            go_wp2_with fail
            refine CC1.out.mono ?_
            rintro e x ⟨v, rfl, hg, hb⟩
            obtain ⟨Av, cv, rfl⟩ := slform hg.gs
            obtain ⟨nl, hnl⟩ : ∃ n, (comb d d k).length = n := ⟨_, rfl⟩
            rw [hnl] at hg ⊢
            have RX := Lib.hid (RB.out.go hb)
            have e0 := RX.out.cell 0
            have e1 := RX.out.cell 1
            have f0 := RX.out.frozen 0
            have f1 := RX.out.frozen 1
            have R8 := Lib.hid ((RX.out.store 0 (.int .i64 (d : Int))).store 1 (.slice Av nl cv))
            have HB8 := Lib.hid (BW.out.trans (hb.mono BW.out.size))
            have HB9 := Lib.hid ((HB8.out.setCell (p := ⟨B, 0, none⟩) (Nat.le_of_eq HE.out) (.int .i64 (d : Int))).setCell (p := ⟨B, 1, none⟩) (Nat.le_of_eq HE.out) (.slice Av nl cv))
            have GS := Lib.hid (((hg.set RB.out.lt 0 (.int .i64 (d : Int))).set RB.out.lt 1 (.slice Av nl cv)).low (K' := w.heap.size) (by have := RB.out.lt; have := HE.out; omega))
            clear hg hb hnl
            unfold dv
            go_wp2_with fail
            refine bodyPost_ret (results_cell_tmp (g := B) (t := 25) (fr := (0, 0)) rfl _ _ _ _ rfl R8.out Tryd.underlying25 rfl (by kernel_rfl)) rfl ?_
            unfold rchPost
            rw [CE.out]
            exact ⟨_, rfl, GS.out, HB9.out⟩
          · have c4 : 4096 < c := by rcases hc with h | h; omega; omega
            have cI : (4096 : Int) < (c : Int) := by omega
            have CE := Lib.hid (show cho d k = none by rw [CO.out, if_neg big])
            have e0 := RB.out.cell 0
            have e1 := RB.out.cell 1
            have f0 := RB.out.frozen 0
            have f1 := RB.out.frozen 1
            have R8 := Lib.hid ((RB.out.store 0 (.int .i64 0)).store 1 (.slice none 0 0))
            have HB9 := Lib.hid ((BW.out.setCell (p := ⟨B, 0, none⟩) (Nat.le_of_eq HE.out) (.int .i64 0)).setCell (p := ⟨B, 1, none⟩) (Nat.le_of_eq HE.out) (.slice none 0 0))
            clear hc big CO CC
            go_wp2_with fail
            refine bodyPost_ret (results_cell_tmp (g := B) (t := 25) (fr := (0, 0)) rfl _ _ _ _ rfl R8.out Tryd.underlying25 rfl (by kernel_rfl)) rfl ?_
            unfold rchPost
            rw [CE.out]
            exact ⟨rfl, HB9.out⟩
end Go.Proofs.YtnnacofjogfkeaaDoor
